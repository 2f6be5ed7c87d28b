import PyProof.Rows.All
import Wide.All
import OpenK.AllK
import Wide.FinOn
import Lean
import PyProof.EqAt
import PyProof.EqKinds
import PyProof.TupleCall
import PySem.Challenge.RW_formgrove_k95_a_pipe_is_its_parts
namespace FgM
end FgM
namespace Stg
end Stg
set_option Elab.async false
set_option linter.all false
set_option maxRecDepth 100000
namespace L2
open PySem PySem.Spec PyProof.Rows
abbrev Key:=Sum Int Str
def ZfG:Key->Value->Bool
 | .inl k,v=>Value.isInt k v
 | .inr x,v=>Value.isStrOf x v
def Zmx(w:World):Key->Int
 | .inl k=>hashInt k
 | .inr x=>hashStr w x
theorem Zaq:∀{k:Key}{v:Value},ZfG k v=true->(∃i t,k=Sum.inl i/\v=Value.int i t)\/(∃x t,k=Sum.inr x/\v=Value.str x t)
 | .inl i,v,h=>by
  obtain⟨t,e⟩:=Value.isInt_shape (k:=i) (v:=v) h;exact .inl ⟨i,t,rfl,e⟩
 | .inr x,v,h=>by
  obtain⟨t,e⟩:=Value.isStrOf_shape (x:=x) (v:=v) h;exact .inr ⟨x,t,rfl,e⟩
theorem Zil(i:Int)(t:Tok):ZfG (.inl i) (.int i t)=true:=by simp[ZfG,Value.isInt]
theorem Ziv(x:Str)(t:Tok):ZfG (.inr x) (.str x t)=true:=by simp[ZfG,Value.isStrOf]
theorem Zla(a b:Int):decide ((Sum.inl a:Key)=Sum.inl b)=(a == b):=by
 by_cases e:a=b
 ·subst e;simp
 ·have h : ¬ (Sum.inl a:Key)=Sum.inl b:=fun q=>e (Sum.inl.inj q);rw[decide_eq_false h];exact(beq_eq_false_iff_ne.mpr e).symm
theorem ZkQ(a b:Str):decide ((Sum.inr a:Key)=Sum.inr b)=decide (a=b):=by
 by_cases e:a=b
 ·subst e;simp
 ·have h : ¬ (Sum.inr a:Key)=Sum.inr b:=fun q=>e (Sum.inr.inj q);rw[decide_eq_false h,decide_eq_false e]
theorem Zlv(a:Int)(b:Str):decide ((Sum.inl a:Key)=Sum.inr b)=false:=decide_eq_false (fun q=>nomatch q)
theorem Zli(a:Str)(b:Int):decide ((Sum.inr a:Key)=Sum.inl b)=false:=decide_eq_false (fun q=>nomatch q)
def Zao(prog:Program)(w:World):PySem.KeyKind prog w Key where
 is:=ZfG
 hash:=Zmx w
 inj:=fun v a b ha hb=>by
  rcases Zaq ha with⟨i,t,rfl,rfl⟩|⟨x,t,rfl,rfl⟩
  ·rcases Zaq hb with⟨j,u,rfl,e⟩|⟨y,u,rfl,e⟩
   ·injection e with e1 _;rw[e1]
   ·exact nomatch e
  ·rcases Zaq hb with⟨j,u,rfl,e⟩|⟨y,u,rfl,e⟩
   ·exact nomatch e
   ·injection e with e1 _;rw[e1]
 byValue:=fun k v h=>by
  rcases Zaq h with⟨i,t,rfl,rfl⟩|⟨x,t,rfl,rfl⟩ <;> rfl
 pyHash:=fun hv h=>by
  rcases Zaq hv with⟨i,t,rfl,rfl⟩|⟨x,t,rfl,rfl⟩
  ·exact wpAny_pyHash_int h
  ·exact wpAny_pyHash_str h
 eqBool:=fun hu hv h=>by
  rcases Zaq hu with⟨i,t,rfl,rfl⟩|⟨x,t,rfl,rfl⟩
  ·rcases Zaq hv with⟨j,u,rfl,rfl⟩|⟨y,u,rfl,rfl⟩
   ·rw[Zla] at h;exact wpAny_eqBool_int h
   ·rw[Zlv] at h;exact SeqAt.EqAt.int_str i t y u _ _ _ _ h
  ·rcases Zaq hv with⟨j,u,rfl,rfl⟩|⟨y,u,rfl,rfl⟩
   ·rw[Zli] at h;exact SeqAt.EqAt.str_int x t j u _ _ _ _ h
   ·rw[ZkQ] at h;exact wpAny_eqBool_str h
 «strs» := fun k x t v h=>by
  rcases Zaq h with⟨i,u,rfl,e⟩|⟨y,u,rfl,e⟩
  ·exact nomatch e
  ·injection e with e1 _;subst e1;cases v <;> rfl
theorem Zfu(prog:Program)(w:World)(i:Int)(t:Tok):(Zao prog w).is (.inl i) (.int i t)=true:=Zil i t
theorem ZfY(prog:Program)(w:World)(x:Str)(t:Tok):(Zao prog w).is (.inr x) (.str x t)=true:=Ziv x t
inductive V where
 | non|bl (b:Bool)|int (i:Int)|str (x:Str)|byt (b:Array UInt8)|flt (b:UInt64)|ref (a:Addr)|ty (n:String)
 deriving DecidableEq
def RelV:V->Value->Prop
 | .non,u=>u=Value.none
 | .bl b,u=>u=Value.bool b
 | .int i,u=>∃t,u=Value.int i t
 | .str x,u=>∃t,u=Value.str x t
 | .byt b,u=>∃t,u=Value.bytes b t
 | .flt b,u=>∃t,u=Value.float b t
 | .ref a,u=>u=Value.ref a
 | .ty n,u=>u=Value.type n
abbrev Vals:List V->List Value->Prop:=Paired RelV
theorem Vals.length{xs:List V}{us:List Value}(r:Vals xs us):xs.length=us.length:=Paired.length r
theorem Vals.get:∀{xs:List V}{us:List Value}{i:Nat}{x:V},Vals xs us->xs[i]?= some x->∃u,us[i]?= some u/\RelV x u
 | _,_,_,_,.nil,e=>by simp at e
 | _,_,0,_,.cons r _,e=>by simp at e;subst e;exact⟨_,rfl,r⟩
 | _,_,i+1,x,.cons _ t,e=>by
  obtain⟨u,h1,h2⟩:=Vals.get (i:=i) (x:=x) t (by simpa using e);exact⟨u,by simpa using h1,h2⟩
theorem Vals.set{x:V}{u:Value}(r:RelV x u):∀{xs:List V}{us:List Value}(i:Nat),Vals xs us->Vals (xs.set i x) (us.set i u)
 | _,_,_,.nil=>.nil
 | _,_,0,.cons _ t=>.cons r t
 | _,_,i+1,.cons q t=>.cons q (Vals.set r i t)
theorem Vals.append:∀{xs ys:List V}{us ws:List Value},Vals xs us->Vals ys ws->Vals (xs++ys) (us++ws)
 | _,_,_,_,.nil,s=>s
 | _,_,_,_,.cons r t,s=>.cons r (Vals.append t s)
theorem Vals.take:∀{xs:List V}{us:List Value}(n:Nat),Vals xs us->Vals (xs.take n) (us.take n)
 | _,_,0,_=>.nil
 | _,_,_+1,.nil=>.nil
 | _,_,n+1,.cons r t=>.cons r (Vals.take n t)
theorem Vals.drop:∀{xs:List V}{us:List Value}(n:Nat),Vals xs us->Vals (xs.drop n) (us.drop n)
 | _,_,0,r=>r
 | _,_,_+1,.nil=>.nil
 | _,_,n+1,.cons _ t=>Vals.drop n t
def ZeO:Option V->Option Value->Prop
 | some v,some u=>RelV v u
 | none,none=>True
 | _,_=>False
def KV{κ : Type}:List (κ × V)->List (κ × Value)->Prop:=Paired fun(p : κ × V)(q : κ × Value)=>p.1=q.1/\RelV p.2 q.2
def kV:Key->V
 | .inl i=>.int i
 | .inr x=>.str x
inductive HO where
 | lst (xs:List V)
 | tup (xs:List V)
 | dK (kvs:List (Key×V))|dT (kvs:List (List Key×V))
 | set (S:Int->Bool) (n:Nat)
 | ins (C dx:Addr) (fs:List (Str×V))
 | own (x:Addr)
 | xd (fs:List (Str×V))
 | met (f x:Addr)
 | rng (lo hi:Int)
 | frz (o:Obj) (u:HO)
 | tbl (ps:Array Value)
 | ext (φ : Heap->Prop)
abbrev Hp:=Addr->Option HO
def upd(H:Hp)(a:Addr)(o:HO):Hp:=fun b=>if b=a then some o else H b
theorem Zb{H:Hp}{a:Addr}{o:HO}:upd H a o a=some o:=by unfold upd;rw[if_pos rfl]
theorem Zd{H:Hp}{a b:Addr}{o:HO}(h:b≠a):upd H a o b=H b:=by unfold upd;rw[if_neg h]
theorem Zh5{H:Hp}{a:Addr}{o u:HO}:upd (upd H a o) a u=upd H a u:=by
 funext b;unfold upd;split <;> rfl
theorem ZfT{H:Hp}{a b:Addr}{o u:HO}(h:H a=some o)(h':H b=some u)(d:o≠u):a≠b:=by
 intro e;subst e;rw[h] at h';exact d (Option.some.inj h')
theorem Zi{H:Hp}{a b:Addr}{o:HO}(h:H a=some o)(h':H b=none):a≠b:=by
 intro e;subst e;rw[h] at h';cases h'
section
variable(P:Program)(w:World)
def Zaz(H:Hp)(h:Heap)(a:Addr):HO->Prop
 | .lst xs=>xs.length<=sizeLine/\∃(its:List Value)(n:Nat),Vals xs its/\h.get? a=some { cls:=.type "list",data:=.seq its.toArray n }
 | .tup xs=>xs.length<=sizeLine/\∃its:List Value,Vals xs its/\IsTup h a its.toArray
 | .dK kvs=>kvs.length<=sizeLine/\(a == sysModules)=false/\∃vs,KV kvs vs/\h.DictOf (Zao P w) a vs
 | .dT kvs=>kvs.length<=sizeLine/\(a == sysModules)=false/\∃xs:List (List Key×Addr×Value),
   Paired (fun(p:List Key×V)(q:List Key×Addr×Value)=>p.1=q.1/\H q.2.1=some (.tup (p.1.map kV))/\RelV p.2 q.2.2) kvs xs /\
   ∃o es ep,h.get? a=some o/\o.ExactDict/\o.data=.dict es ep/\es.toList=xs.map (entryOfKey (tupleKind (Zao P w)))/\(xs.map (·.1)).Nodup
 | .set S n=>h.SetOf (intKind P w) a S n
 | .ins C dx fs=>H dx=some (.own a)/\fs.length<=1000/\dx≠a/\h.get? a=some (PySem.W.instObj C dx) /\
   ∃mA,h.Ns1 dx mA/\(∀f,ZeO (fs.lookup f) (mA f))/\PySem.Within mA (fs.map (·.1))
 | .own _=>∃o,h.get? a=some o
 | .xd fs=>∃mA,h.Ns1 a mA/\∀f,ZeO (fs.lookup f) (mA f)
 | .rng lo hi=>∃t u v,h.get? a=some { cls:=.type "range",data:=.fields #[.int lo t,.int hi u,.int 1 v] }
 | .frz o u=>h.get? a=some o/\Zaz H h a u
 | .tbl ps=>h.get? a=some { cls:=.none,data:=.fields ps }
 | .met f x=>h.get? a=some (PySem.W.methodObj (.ref f) (.ref x))
 | .ext φ=>φ h/\(∃o,h.get? a=some o)/\∀h1 h2:Heap,φ h1->(∀o,h1.get? a=some o->h2.get? a=some o) -> φ h2
def HOk(H:Hp)(h:Heap):Prop := ∀a o,H a=some o->Zaz P w H h a o
end
section
variable{P:Program}{w:World}{H H':Hp}{h h':Heap}{a:Addr}{o:HO}
theorem Zaz.lt(x:Zaz P w H h a o):a<h.objs.size:=by
 cases o with
 | lst xs=>obtain⟨_,_,_,_,e⟩:=x;exact Heap.lt_size e
 | tup xs=>obtain⟨_,_,_,p⟩:=x;exact p.lt
 | dK kvs=>obtain⟨_,_,_,_,o,_,_,e,_⟩:=x;exact Heap.lt_size e
 | dT kvs=>obtain⟨_,_,_,_,o,_,_,e,_⟩:=x;exact Heap.lt_size e
 | set S n=>obtain⟨o,_,_,_,e,_⟩:=x;exact Heap.lt_size e
 | ins C dx fs=>obtain⟨_,_,_,e,_⟩:=x;exact Heap.lt_size e
 | own y=>obtain⟨_,e⟩:=x;exact Heap.lt_size e
 | xd fs=>obtain⟨_,⟨_,_,_,e,_⟩,_⟩:=x;exact Heap.lt_size e
 | rng lo hi=>obtain⟨_,_,_,e⟩:=x;exact Heap.lt_size e
 | frz ob u=>obtain⟨e,_⟩:=x;exact Heap.lt_size e
 | tbl ps=>exact Heap.lt_size (show h.get? a=some _ from x)
 | met f y=>exact Heap.lt_size (show h.get? a=some _ from x)
 | ext φ=>obtain⟨_,⟨_,e⟩,_⟩:=x;exact Heap.lt_size e
theorem Paired.mapP{α β : Type}{F G : α -> β -> Prop}:∀{l₁ : List α}{l₂ : List β},Paired F l₁ l₂ -> (∀a b,F a b->G a b)->Paired G l₁ l₂
 | _,_,.nil,_=>.nil
 | _,_,.cons r t,f=>.cons (f _ _ r) (Paired.mapP t f)
theorem Zaz.stay(x:Zaz P w H h a o)(k:∀b u,(b=a\/H b=some (.own a))->h.get? b=some u->h'.get? b=some u)
  (ho:∀b,H b=some (.own a)->H' b=some (.own a)) (ht:∀b xs,H b=some (.tup xs)->H' b=some (.tup xs)):Zaz P w H' h' a o:=by
 induction o with
 | lst xs=>obtain⟨z,its,n,r,e⟩:=x;exact⟨z,its,n,r,k _ _ (.inl rfl) e⟩
 | tup xs=>obtain⟨z,its,r,ob,e,c⟩:=x;exact⟨z,its,r,ob,k _ _ (.inl rfl) e,c⟩
 | dK kvs=>obtain⟨z,y,vs,r,ob,es,ep,e,c⟩:=x;exact⟨z,y,vs,r,ob,es,ep,k _ _ (.inl rfl) e,c⟩
 | dT kvs =>
  obtain⟨z,y,xs,r,ob,es,ep,e,c⟩:=x;exact⟨z,y,xs,Paired.mapP r fun p q z=>⟨z.1,ht _ _ z.2.1,z.2.2⟩,ob,es,ep,k _ _ (.inl rfl) e,c⟩
 | set S n=>obtain⟨ob,es,ep,t,e,c⟩:=x;exact⟨ob,es,ep,t,k _ _ (.inl rfl) e,c⟩
 | ins C dx fs =>
  obtain⟨d,z,ne,e,mA,⟨od,es,ep,e2,c⟩,r⟩:=x;exact⟨ho _ d,z,ne,k _ _ (.inl rfl) e,mA,⟨od,es,ep,k _ _ (.inr d) e2,c⟩,r⟩
 | own y=>obtain⟨ob,e⟩:=x;exact⟨ob,k _ _ (.inl rfl) e⟩
 | xd fs=>obtain⟨mA,⟨od,es,ep,e,c⟩,r⟩:=x;exact⟨mA,⟨od,es,ep,k _ _ (.inl rfl) e,c⟩,r⟩
 | rng lo hi=>obtain⟨t,u,v,e⟩:=x;exact⟨t,u,v,k _ _ (.inl rfl) e⟩
 | frz ob u ih=>obtain⟨e,q⟩:=x;exact⟨k _ _ (.inl rfl) e,ih q⟩
 | tbl ps =>
  have e:h.get? a=some { cls:=.none,data:=.fields ps }:=x;show h'.get? a=some { cls:=.none,data:=.fields ps };exact k a _ (.inl rfl) e
 | met f y =>
  have e:h.get? a=some (PySem.W.methodObj (.ref f) (.ref y)):=x;show h'.get? a=some (PySem.W.methodObj (.ref f) (.ref y));exact k a _ (.inl rfl) e
 | ext φ=>obtain⟨p,⟨o,e⟩,st⟩:=x;exact⟨st _ _ p fun o q=>k _ _ (.inl rfl) q,⟨o,k _ _ (.inl rfl) e⟩,st⟩
theorem HOk.lt(x:HOk P w H h)(e:H a=some o):a<h.objs.size:=(x a o e).lt
theorem HOk.fresh(x:HOk P w H h)(e:h.objs.size<=a):H a=none:=by
 cases q:H a with
 | none=>rfl
 | some u=>exact absurd (Nat.lt_of_lt_of_le (x.lt q) e) (Nat.lt_irrefl _)
theorem HOk.kept(x:HOk P w H h)(k:∀b u,h.get? b=some u->h'.get? b=some u):HOk P w H h':=fun a o e =>
 (x a o e).stay (fun b u _ q=>k b u q) (fun _ q=>q) fun _ _ q=>q
theorem HOk.laid(x:HOk P w H h)(k:∀b u,h.get? b=some u->h'.get? b=some u)(hp:h.objs.size<=a)(new:Zaz P w (upd H a o) h' a o):HOk P w (upd H a o) h':=fun b u e=>by
 have hn:=x.fresh hp;by_cases hb:b=a
 ·subst hb;rw[Zb] at e;cases e;exact new
 ·rw[Zd hb] at e;exact(x b u e).stay (fun c v _ q=>k c v q) (fun c q=>by rw[Zd (Zi q hn)];exact q) fun c xs q=>by rw[Zd (Zi q hn)];exact q
end
def Rd(H:Hp)(a:Addr)(u:HO):Prop:=H a=some u\/∃o,H a=some (.frz o u)
theorem Rd.ok{P:Program}{w:World}{H:Hp}{h:Heap}{a:Addr}{u:HO}(r:Rd H a u)(x:HOk P w H h):Zaz P w H h a u:=by
 rcases r with r|⟨o,r⟩
 ·exact x a u r
 ·obtain⟨_,q⟩:=x a _ r;exact q
def Mut:Option HO->Prop
 | some (.lst _)=>True
 | some (.dK _)=>True
 | some (.dT _)=>True
 | some (.set _ _)=>True
 | some (.ins _ _ _)=>True
 | some (.ext _)=>True
 | _=>False
section
variable{P:Program}{w:World}{H:Hp}{h h':Heap}{x e:Addr}{o':HO}
theorem HOk.write(ok:HOk P w H h)(mu:Mut (H x))(he:e=x\/H e=some (.own x))(k:∀b u,b≠e->h.get? b=some u->h'.get? b=some u)(heo:∃u,h'.get? e=some u)
  (new:Zaz P w (upd H x o') h' x o'):HOk P w (upd H x o') h':=fun b u q=>by
 have nown:∀c y,H c=some (.own y)->c≠x:=fun c y r z=>by subst z;rw[r] at mu;exact mu
 have ntup:∀c xs,H c=some (.tup xs)->c≠x:=fun c xs r z=>by subst z;rw[r] at mu;exact mu
 by_cases hb:b=x
 ·subst hb;rw[Zb] at q;cases q;exact new
 ·rw[Zd hb] at q;by_cases hbe:b=e
  ·have q':H b=some (.own x):=by
    rcases he with z|z
    ·exact absurd (hbe.trans z) hb
    ·rw[hbe];exact z
   rw[q] at q';cases q';obtain⟨v,hv⟩:=heo;exact⟨v,by rw[hbe];exact hv⟩
  ·refine(ok b u q).stay (fun c v hc r=>k c v ?_ r) (fun c r=>by rw[Zd (nown c b r)];exact r) fun c xs r=>by rw[Zd (ntup c xs r)];exact r
   rcases hc with rfl|hc
   ·exact hbe
   ·rintro rfl;rcases he with z|z
    ·exact nown c b hc z
    ·rw[hc] at z;cases z;exact hb rfl
end
structure Un(fs ex:List Addr)(H H':Hp)(h h':Heap):Prop where
 keep:∀b o,h.get? b=some o->H b=none->b∉fs->b∉ex->h'.get? b=some o
 slot:∀b o,h.get? b=some o->H b=none->b∈fs->b∉ex->∃sl,h'.get? b=some { o with slots:=sl }
 free:∀b o,h.get? b=some o->H b=none->b∉ex->H' b=none
 there:∀b o,h.get? b=some o->b∉ex->∃o',h'.get? b=some o'
 tups:∀b xs,H b=some (.tup xs)->H' b=some (.tup xs)
 frzs:∀b o u,H b=some (.frz o u)->H' b=some (.frz o u)
 tbls:∀b ps,H b=some (.tbl ps)->∃more,H' b=some (.tbl (ps++more))
section
variable{fs fs' ex ex':List Addr}{H H1 H2:Hp}{h h1 h2 h':Heap}{a x e:Addr}{o:HO}
theorem Un.any(u:Un fs ex H H1 h h1){b:Addr}{ob:Obj}(q:h.get? b=some ob)(n:H b=none)(hx:b∉ex):∃sl,h1.get? b=some { ob with slots:=sl }:=by
 by_cases hb:b∈fs
 ·exact u.slot b ob q n hb hx
 ·exact⟨ob.slots,u.keep b ob q n hb hx⟩
theorem Un.kept(k:∀b u,h.get? b=some u->h'.get? b=some u):Un fs ex H H h h' :=
 ⟨fun b ob q _ _ _=>k b ob q,fun b ob q _ _ _=>⟨ob.slots,k b ob q⟩,fun _ _ _ n _=>n,fun b ob q _=>⟨ob,k b ob q⟩,fun _ _ q=>q,fun _ _ _ q=>q,fun _ ps q=>⟨#[],by rw[q];simp⟩⟩
theorem Un.refl:Un fs ex H H h h:=Un.kept fun _ _ q=>q
theorem Un.laid(k:∀b u,h.get? b=some u->h'.get? b=some u)(hp:h.objs.size<=a)(hn:H a=none):Un fs ex H (upd H a o) h h' where
 keep:=fun b u q _ _ _=>k b u q
 slot:=fun b u q _ _ _=>⟨u.slots,k b u q⟩
 free:=fun b u q n _=>by rw[Zd (Nat.ne_of_lt (Nat.lt_of_lt_of_le (Heap.lt_size q) hp))];exact n
 there:=fun b u q _=>⟨u,k b u q⟩
 tups:=fun b xs q=>by rw[Zd (Zi q hn)];exact q
 frzs:=fun b u xs q=>by rw[Zd (Zi q hn)];exact q
 tbls:=fun b ps q=>⟨#[],by rw[Zd (Zi q hn),q];simp⟩
theorem Un.write(mu:Mut (H x))(he:e=x\/H e=some (.own x))(k:∀b u,b≠e->h.get? b=some u->h'.get? b=some u)(heo:∃u,h'.get? e=some u):Un fs ex H (upd H x o) h h':=by
 have hx:∀b,H b=none->b≠x:=fun b n z=>by subst z;rw[n] at mu;exact mu
 have hb:∀b,H b=none->b≠e:=fun b n z=>by
  subst z;rcases he with r|r
  ·exact hx b n r
  ·rw[n] at r;cases r
 have hm:∀b u,H b=some u -> ¬ Mut (some u)->b≠x:=fun b u q nm z=>by subst z;rw[q] at mu;exact nm mu
 refine⟨fun b u q n _ _=>k b u (hb b n) q,fun b u q n _ _=>⟨u.slots,k b u (hb b n) q⟩,fun b u q n _=>by rw[Zd (hx b n)];exact n,fun b u q _=>?_,
  fun b xs q=>by rw[Zd (hm b _ q fun z=>z)];exact q,fun b u xs q=>by rw[Zd (hm b _ q fun z=>z)];exact q,fun b ps q=>⟨#[],by rw[Zd (hm b _ q fun z=>z),q];simp⟩⟩
 by_cases hbe:b=e
 ·subst hbe;exact heo
 ·exact⟨u,k b u hbe q⟩
end
def trk(h:Heap)(H:Hp):List Addr:=(List.range h.objs.size).filter fun a=>(H a).isSome
def ZiX(h:Heap)(H:Hp):Heap:=PySem.W.hideAll h (trk h H)
theorem ZhT(h:Heap)(H:Hp):(ZiX h H).objs.size=h.objs.size:=PySem.W.hideAll_size _ _
theorem Zjr{h:Heap}{H:Hp}{b:Addr}{o:Obj}(e:h.get? b=some o)(n:H b=none):(ZiX h H).get? b=some o :=
 PySem.W.hideAll_get _ e fun hm=>by
  have q:(H b).isSome=true:=(List.mem_filter.mp hm).2;rw[n] at q;simp at q
theorem Zj8{h:Heap}{H:Hp}{b:Addr}{o:Obj}(e:(ZiX h H).get? b=some o):h.get? b=some o/\H b=none:=by
 have e':h.get? b=some o:=PySem.W.of_hideAll (trk h H) e;refine⟨e',?_⟩;cases q:H b with
 | none=>rfl
 | some x =>
  have hm:b∈trk h H:=List.mem_filter.mpr ⟨List.mem_range.mpr (Heap.lt_size e'),by simp[q]⟩;have z:(ZiX h H).get? b=none:=PySem.W.hideAll_none (trk h H) hm;rw[z] at e;cases e
structure Mod(K:PySem.W.Frag)(mg:Str->Option Value)(base:Heap):Prop where
 kin:K.In base
 glob:base.Ns mainGlobals mg
 blt:∃mb,base.Ns builtinsNs mb/\∀x:Str,x ≠ "__name__" -> mb x=bootBuiltins x
 nolimit:base.NoLimit
/-- the context: a def's body (or a comprehension's block) running. base: fixed through the whole law;s₀,H₀: the entry;outer: the frames whose slots others may change (a def's callers);stack: all frames that run;
   ex: iterators that were made ahead of the entry and are walked here (a comprehension's);fn: the names whose cells were made at the entry (a def: all;a comprehension's block: its own);calm: not within an except suite;pn: pins that every state bears;xe: what is wanted of an exception that leaves the code -/
structure Cx where
 prog:Program
 w:World
 K:PySem.W.Frag
 mg:Str->Option Value
 base:Heap
 A:Around
 N:List Str
 s₀ : Shared
 H₀ : Hp
 env:Env
 outer:List Env
 stack:List Env
 ex:List Addr
 fn:Str->Bool
 calm:Bool
 pn:List (Addr×Obj)
 xe:Value->Shared->Prop
def frs(l:List Env):List Addr:=l.filterMap (·.frame)
abbrev Cx.fs(X:Cx):List Addr:=frs X.outer
def Vis(sc:Scope)(x:Str):Prop:=sc.names.lookup x=some .local\/sc.names.lookup x=some .cell\/sc.names.lookup x=some .free
def Loc(sc:Scope)(x:Str):Prop:=sc.names.lookup x=some .local\/sc.names.lookup x=some .cell
def Look(env:Env)(h:Heap)(m:Str->Option Value)(x:Str)(u:Value):Prop :=
 (env.kindOf x=some .local/\m x=some u)\/((env.kindOf x=some .cell\/env.kindOf x=some .free)/\∃c,env.cells.lookup x=some c/\h.IsCell c (some u))
structure Cx.Ok(X:Cx):Prop where
 mod:Mod X.K X.mg X.base
 kind:X.env.scope.kind=.function
 glob:X.env.globals=mainGlobals
 blt:X.env.builtins=builtinsNs
 above:X.s₀.heap.objs.size<=X.env.locals
 inj:∀x y c,X.env.cells.lookup x=some c->X.env.cells.lookup y=some c->x=y
 has:∀x,(X.env.kindOf x=some .cell\/X.env.kindOf x=some .free)->∃c,X.env.cells.lookup x=some c
 cab:∀x c,X.fn x=true->X.env.cells.lookup x=some c->X.s₀.heap.objs.size<=c
 hd:X.calm=true->X.A.handled=none
 frames:X.A.frames=some X.stack
 stk:X.stack=X.outer\/(X.stack=X.env::X.outer/\X.env.frame=some X.env.locals)
 exf:∀b∈X.ex,b≠X.env.locals/\∀x c,X.env.cells.lookup x=some c->c≠b
 bs:∀b o,X.base.get? b=some o->X.s₀.heap.get? b=some o/\X.H₀ b=none
 bsz:X.base.objs.size<=X.s₀.heap.objs.size
 noex:∀b o,X.base.get? b=some o->b∉X.ex
 exfs:∀b∈X.ex,b∉X.fs
 funs:X.s₀.heap.FunFrames X.base X.outer
 frf:∀b∈X.fs,X.H₀ b=none
structure Inv(X:Cx)(pins:List (Addr×Obj))(σ : List (Option V))(H:Hp)(s:Shared):Prop where
 ok:X.Ok
 os:s.os=X.s₀.os
 bare:AllBare s.gens
 base:Un X.fs X.ex X.H₀ H X.s₀.heap s.heap
 loc:∃m,s.heap.Ns X.env.locals m/\∀(i:Nat)(x:Str)(v:V),X.N[i]?= some x -> σ[i]?= some (some v)->Vis X.env.scope x->∃u,RelV v u/\Look X.env s.heap m x u
 cell:∀x c,X.env.cells.lookup x=some c->∃v,s.heap.IsCell c v
 free:H X.env.locals=none
 freeC:∀x c,X.env.cells.lookup x=some c->H c=none
 pin:∀p∈X.pn++pins,s.heap.get? p.1=some p.2/\H p.1=none/\p.1≠X.env.locals/\p.1∉X.fs/\∀v,p.2.data ≠ .cell v
 hok:HOk X.prog X.w H s.heap
 len : σ.length=X.N.length
section
variable{X:Cx}{pins:List (Addr×Obj)}{σ : List (Option V)}{H H':Hp}{s:Shared}{h':Heap}
theorem Cx.Ok.nofr(ok:X.Ok){b:Addr}{o:Obj}(e:X.base.get? b=some o):b∉X.fs:=fun hb=>by
 have:=(ok.funs.mem hb).1;rw[e] at this;cases this
theorem Inv.bs(I:Inv X pins σ H s):∀b o,X.base.get? b=some o->s.heap.get? b=some o/\H b=none:=fun b o e =>
 ⟨I.base.keep b o (I.ok.bs b o e).1 (I.ok.bs b o e).2 (I.ok.nofr e) (I.ok.noex b o e),I.base.free b o (I.ok.bs b o e).1 (I.ok.bs b o e).2 (I.ok.noex b o e)⟩
theorem Inv.bk(I:Inv X pins σ H s):∀b o,X.base.get? b=some o->s.heap.get? b=some o:=fun b o e=>(I.bs b o e).1
theorem Inv.mod(I:Inv X pins σ H s):Mod X.K X.mg X.base:=I.ok.mod
theorem Inv.kIn(I:Inv X pins σ H s):X.K.In s.heap:=I.ok.mod.kin.keeps I.bk
theorem Inv.lt(I:Inv X pins σ H s):X.env.locals<s.heap.objs.size:=let ⟨_,hn,_⟩:=I.loc;hn.lt
theorem Inv.sz(I:Inv X pins σ H s):X.s₀.heap.objs.size<=s.heap.objs.size:=Nat.le_trans I.ok.above (Nat.le_of_lt I.lt)
theorem Inv.nofs(I:Inv X pins σ H s){a:Addr}(h:s.heap.objs.size<=a):a∉X.fs:=fun hb=>by
 obtain⟨_,o,ho,_⟩:=I.ok.funs.mem hb;exact absurd (Nat.lt_of_lt_of_le (Heap.lt_size ho) (Nat.le_trans I.sz h)) (Nat.lt_irrefl _)
theorem Inv.cne(I:Inv X pins σ H s):∀x c,X.env.cells.lookup x=some c->c≠X.env.locals:=fun x c e z=>by
 obtain⟨v,o,ho,hd⟩:=I.cell x c e;obtain⟨m,⟨o',es,ep,ho',hd',_⟩,_⟩:=I.loc;rw[z,ho'] at ho;cases ho;rw[hd'] at hd;cases hd
theorem Inv.funs(I:Inv X pins σ H s):s.heap.FunFrames X.base X.outer:=by
 have all:∀(l:List Env),(∀b∈frs l,b∈X.fs)->X.s₀.heap.FunFrames X.base l->s.heap.FunFrames X.base l:=by
  intro l
  induction l with
  | nil=>intro _ _;trivial
  | cons env r ih =>
   intro hs hl;obtain⟨hk,⟨L,o,hf,hn,ho,hd⟩,hr⟩:=hl;have hL:L∈X.fs:=hs L (by unfold frs;rw[List.filterMap_cons,hf];exact List.mem_cons_self);obtain⟨sl,e⟩:=I.base.slot L o ho (I.ok.frf L hL) hL fun z=>I.ok.exfs L z hL;exact⟨hk,⟨L,_,hf,hn,e,hd⟩,ih (fun b hb=>hs b (by unfold frs;rw[List.filterMap_cons,hf];exact List.mem_cons_of_mem _ hb)) hr⟩
 exact all X.outer (fun _ hb=>hb) I.ok.funs
theorem Inv.stack(I:Inv X pins σ H s):s.heap.FunFrames X.base X.stack:=by
 rcases I.ok.stk with e|⟨e,hf⟩
 ·rw[e];exact I.funs
 ·rw[e];obtain⟨m,hn,_⟩:=I.loc;refine .cons (by rw[I.ok.kind];decide) hf hn ?_ I.funs;exact Heap.get?_none_of_le (Nat.le_trans I.ok.bsz I.ok.above)
theorem Inv.stkSub(I:Inv X pins σ H s):∀b∈frs X.stack,b∈X.env.locals::X.fs:=fun b hb=>by
 rcases I.ok.stk with e|⟨e,hf⟩
 ·rw[e] at hb;exact List.mem_cons_of_mem _ hb
 ·rw[e] at hb;unfold frs at hb;rw[List.filterMap_cons,hf] at hb;exact hb
theorem Inv.stkFree(I:Inv X pins σ H s):∀b∈frs X.stack,H b=none:=fun b hb=>by
 rcases List.mem_cons.mp (I.stkSub b hb) with e|hb
 ·rw[e];exact I.free
 ·obtain⟨_,o,ho,_⟩:=I.ok.funs.mem hb;exact I.base.free b o ho (I.ok.frf b hb) fun z=>I.ok.exfs b z hb
theorem Inv.step{g':Array GenState}{t':Nat}{d':Drawn}{ch:List Addr}(I:Inv X pins σ H s)
  (hch:∀b∈ch,(b∈X.ex\/X.s₀.heap.objs.size<=b)/\b≠X.env.locals/\(∀x c,X.env.cells.lookup x=some c->c≠b)/\∀p∈X.pn++pins,p.1≠b)
  (keep:∀b o,b≠X.env.locals->b∉X.fs->b∉ch->s.heap.get? b=some o->H b=none->h'.get? b=some o)
  (slot:∀b o,b≠X.env.locals->b∈X.fs->b∉ch->s.heap.get? b=some o->H b=none->∃sl,h'.get? b=some { o with slots:=sl }) (free:∀b o,b∉ch->s.heap.get? b=some o->H b=none->H' b=none)
  (there:∀b o,b∉ch->s.heap.get? b=some o->∃o',h'.get? b=some o')
  (tups:∀b xs,H b=some (.tup xs)->H' b=some (.tup xs)) (frzs:∀b o u,H b=some (.frz o u)->H' b=some (.frz o u)) (tbls:∀b ps,H b=some (.tbl ps)->∃more,H' b=some (.tbl (ps++more)))
  (ns:∀m,s.heap.Ns X.env.locals m->h'.Ns X.env.locals m) (hok:HOk X.prog X.w H' h') (hg:AllBare g') :
  Inv X pins σ H' { s with heap:=h',gens:=g',drawn:=d',toks:=t' }:=by
 have neL:∀b o,X.s₀.heap.get? b=some o->b≠X.env.locals:=fun b o e=>Nat.ne_of_lt (Nat.lt_of_lt_of_le (Heap.lt_size e) I.ok.above);have neC:∀b o,X.s₀.heap.get? b=some o->b∉X.ex->b∉ch:=fun b o e hx hb=>by
  rcases(hch b hb).1 with z|z
  ·exact hx z
  ·exact absurd (Nat.lt_of_lt_of_le (Heap.lt_size e) z) (Nat.lt_irrefl _)
 have cellK:∀x c,X.env.cells.lookup x=some c->∀v,s.heap.IsCell c v->h'.IsCell c v:=fun x c e v ⟨o,ho,hd⟩=>by
  have nch:c∉ch:=fun z=>(hch c z).2.2.1 x c e rfl;by_cases hc:c∈X.fs
  ·obtain⟨sl,q⟩:=slot c o (I.cne x c e) hc nch ho (I.freeC x c e);exact⟨_,q,hd⟩
  ·exact⟨o,keep c o (I.cne x c e) hc nch ho (I.freeC x c e),hd⟩
 refine⟨I.ok,I.os,hg,⟨fun b o e n hb hx=>?_,fun b o e n hb hx=>?_,fun b o e n hx=>?_,fun b o e hx=>?_,fun b xs e=>tups b xs (I.base.tups b xs e),fun b o xs e=>frzs b o xs (I.base.frzs b o xs e),fun b ps e=>?_⟩,?_,fun x c e=>?_,?_,fun x c e=>?_,fun p hp=>?_,hok,I.len⟩
 ·exact keep b o (neL b o e) hb (neC b o e hx) (I.base.keep b o e n hb hx) (I.base.free b o e n hx)
 ·obtain⟨sl,e1⟩:=I.base.slot b o e n hb hx;obtain⟨sl',e2⟩:=slot b _ (neL b o e) hb (neC b o e hx) e1 (I.base.free b o e n hx);exact⟨sl',e2⟩
 ·obtain⟨o',e1⟩:=I.base.there b o e hx;exact free b o' (neC b o e hx) e1 (I.base.free b o e n hx)
 ·obtain⟨o',e1⟩:=I.base.there b o e hx;exact there b o' (neC b o e hx) e1
 ·obtain⟨m1,e1⟩:=I.base.tbls b ps e;obtain⟨m2,e2⟩:=tbls b _ e1;exact⟨m1++m2,by rw[e2,Array.append_assoc]⟩
 ·obtain⟨m,hn,hl⟩:=I.loc;refine⟨m,ns m hn,fun i x v e1 e2 e3=>?_⟩;obtain⟨u,r,l⟩:=hl i x v e1 e2 e3;refine⟨u,r,?_⟩;rcases l with l|⟨k,c,e,z⟩
  ·exact .inl l
  ·exact .inr ⟨k,c,e,cellK x c e _ z⟩
 ·obtain⟨v,z⟩:=I.cell x c e;exact⟨v,cellK x c e v z⟩
 ·obtain⟨m,⟨o,_,_,ho,_⟩,_⟩:=I.loc;exact free _ o (fun z=>(hch _ z).2.1 rfl) ho I.free
 ·obtain⟨v,o,ho,hd⟩:=I.cell x c e;exact free c o (fun z=>(hch c z).2.2.1 x c e rfl) ho (I.freeC x c e)
 ·obtain⟨e,n,ne,nf,d⟩:=I.pin p hp;have nch:p.1∉ch:=fun z=>(hch p.1 z).2.2.2 p hp rfl;exact⟨keep p.1 p.2 ne nf nch e n,free p.1 p.2 nch e n,ne,nf,d⟩
theorem Inv.un{t':Nat}(I:Inv X pins σ H s)(u:Un X.fs [] H H' s.heap h')(hok:HOk X.prog X.w H' h'):Inv X pins σ H' { s with heap:=h',toks:=t' }:=by
 obtain⟨m,⟨o,es,ep,ho,r⟩,_⟩:=id I.loc;obtain⟨sl,hL⟩:=u.any ho I.free (by simp);exact I.step (g':=s.gens) (d':=s.drawn) (ch:=[]) (fun _ z=>nomatch z) (fun b o _ hb _ e n=>u.keep b o e n hb (by simp)) (fun b o _ hb _ e n=>u.slot b o e n hb (by simp)) (fun b o _ e n=>u.free b o e n (by simp)) (fun b o _ e=>u.there b o e (by simp)) u.tups u.frzs u.tbls (fun m' hm=>by
  obtain⟨o',es',ep',ho',r'⟩:=hm;rw[ho] at ho';cases ho';exact⟨_,es',ep',hL,r'⟩) hok I.bare
theorem Inv.call{g':Array GenState}{t':Nat}{d':Drawn}{ch:List Addr}(I:Inv X pins σ H s)(u:Un (frs X.stack) ch H H' s.heap h')(hok:HOk X.prog X.w H' h')(hg:AllBare g')
  (hch:∀b∈ch,(b∈X.ex\/X.s₀.heap.objs.size<=b)/\b≠X.env.locals/\(∀x c,X.env.cells.lookup x=some c->c≠b)/\∀p∈X.pn++pins,p.1≠b) :
  Inv X pins σ H' { s with heap:=h',gens:=g',drawn:=d',toks:=t' }:=by
 obtain⟨m,⟨o,es,ep,ho,r⟩,_⟩:=id I.loc;obtain⟨sl,hL⟩:=u.any ho I.free fun z=>(hch _ z).2.1 rfl;exact I.step (ch:=ch) hch (fun b o hL hb hc e n=>u.keep b o e n (fun z=>(List.mem_cons.mp (I.stkSub b z)).elim hL hb) hc) (fun b o _ _ hc e n=>u.any e n hc) (fun b o hc e n=>u.free b o e n hc) (fun b o hc e=>u.there b o e hc) u.tups u.frzs u.tbls (fun m' hm=>by
  obtain⟨o',es',ep',ho',r'⟩:=hm;rw[ho] at ho';cases ho';exact⟨_,es',ep',hL,r'⟩) hok hg
theorem Inv.turned{t':Nat}{it:Addr}(I:Inv X pins σ H s)(k:∀b o,b≠it->s.heap.get? b=some o->h'.get? b=some o)(hn:H it=none)(hL:it≠X.env.locals)
  (h1:it∈X.ex\/X.s₀.heap.objs.size<=it) (h2:∀x c,X.env.cells.lookup x=some c->c≠it) (h3:∀p∈X.pn++pins,p.1≠it):Inv X pins σ H { s with heap:=h',toks:=t' }:=by
 have nit:∀b u,H b=some u->b≠it:=fun b u e z=>by rw[z,hn] at e;cases e
 refine I.step (g':=s.gens) (d':=s.drawn) (ch:=[it]) (fun b hb=>?_) (fun b o _ _ hc e _=>k b o (fun z=>hc (by simp[z])) e) (fun b o _ _ hc e _=>⟨o.slots,k b o (fun z=>hc (by simp[z])) e⟩) (fun _ _ _ _ n=>n)
  (fun b o hc e=>⟨o,k b o (fun z=>hc (by simp[z])) e⟩) (fun _ _ e=>e) (fun _ _ _ e=>e) (fun b ps e=>⟨#[],by rw[e];simp⟩) (fun m hm=>?_) (fun b u e=>?_) I.bare
 ·have e:b=it:=by simpa using hb
  subst e;exact⟨h1,hL,h2,h3⟩
 ·obtain⟨o,es,ep,ho,r⟩:=hm;exact⟨o,es,ep,k _ o (Ne.symm hL) ho,r⟩
 ·refine(I.hok b u e).stay (fun c v hc q=>k c v ?_ q) (fun _ q=>q) fun _ _ q=>q;rcases hc with z|z
  ·rw[z];exact nit b u e
  ·exact nit c _ z
theorem Inv.tok(I:Inv X pins σ H s)(t:Nat):Inv X pins σ H { s with toks:=t }:=I.un (h':=s.heap) (t':=t) Un.refl I.hok
theorem Inv.kept{t':Nat}(I:Inv X pins σ H s)(k:∀b u,s.heap.get? b=some u->h'.get? b=some u):Inv X pins σ H { s with heap:=h',toks:=t' }:=I.un (Un.kept k) (I.hok.kept k)
theorem Inv.laid{a:Addr}{o:HO}{t':Nat}(I:Inv X pins σ H s)(k:∀b u,s.heap.get? b=some u->h'.get? b=some u)(hp:s.heap.objs.size<=a)(new:Zaz X.prog X.w (upd H a o) h' a o) :
  Inv X pins σ (upd H a o) { s with heap:=h',toks:=t' }:=I.un (Un.laid k hp (I.hok.fresh hp)) (I.hok.laid k hp new)
theorem Inv.write{x e:Addr}{o:HO}{t':Nat}(I:Inv X pins σ H s)(mu:Mut (H x))(he:e=x\/H e=some (.own x))(k:∀b u,b≠e->s.heap.get? b=some u->h'.get? b=some u)(heo:∃u,h'.get? e=some u)
  (new:Zaz X.prog X.w (upd H x o) h' x o):Inv X pins σ (upd H x o) { s with heap:=h',toks:=t' }:=I.un (Un.write mu he k heo) (I.hok.write mu he k heo new)
theorem Inv.pins_of{pins':List (Addr×Obj)}(I:Inv X pins σ H s)(h:∀p∈pins',s.heap.get? p.1=some p.2/\H p.1=none/\p.1≠X.env.locals/\p.1∉X.fs/\∀v,p.2.data ≠ .cell v):Inv X pins' σ H s :=
 ⟨I.ok,I.os,I.bare,I.base,I.loc,I.cell,I.free,I.freeC,fun p hp=>(List.mem_append.mp hp).elim (fun z=>I.pin p (List.mem_append_left _ z)) (h p),I.hok,I.len⟩
theorem Zgz{N:List Str}(hN:N.Nodup){i j:Nat}{x:Str}(a:N[i]?= some x)(b:N[j]?= some x):i=j:=by
 obtain⟨h1,e1⟩:=List.getElem?_eq_some_iff.mp a;obtain⟨h2,e2⟩:=List.getElem?_eq_some_iff.mp b;exact(List.getElem_inj hN).mp (e1.trans e2.symm)
theorem Zdp{M:Model}{A:Around}{E:Value->Shared->Prop}{i:Nat}{x:Str}{v:V}{u:Value}{Q:Unit->Shared->Prop}(I:Inv X pins σ H s)(hN:X.N.Nodup)(hi:X.N[i]?= some x)(hx:Loc X.env.scope x)(r:RelV v u)
  (h:∀s',Inv X pins (σ.set i (some v)) H s'->(∃a,Heap.SameBut a s.heap s'.heap/\(a=X.env.locals\/X.env.cells.lookup x=some a))->Q () s') (hf:X.fn x=true\/X.env.scope.names.lookup x=some .local:=by first|exact .inl rfl|exact .inr rfl|assumption):wpAny M A (storeName X.env x u) Q E s:=by
 obtain⟨m,hn,hl⟩:=id I.loc;have hcls:(X.env.scope.kind ==.class || (X.env.scope.kind ==.module&&X.env.locals != X.env.globals))=false:=by rw[I.ok.kind];rfl
 have hiσ : i < σ.length:=by rw[I.len];exact(List.getElem?_eq_some_iff.mp hi).1
 have cne:=I.cne;have tracked:∀{a:Addr}{h':Heap},(∃o,s.heap.get? a=some o/\H a=none)->Heap.SameBut a s.heap h'->HOk X.prog X.w H h':=fun{a h'} ha hs b ob e=>by
  obtain⟨_,_,hfree⟩:=ha;refine(I.hok b ob e).stay (fun c w' hc q=>(hs.2 c ?_).trans q) (fun _ q=>q) fun _ _ q=>q;rintro rfl;rcases hc with rfl|hc
  ·rw[hfree] at e;cases e
  ·rw[hfree] at hc;cases hc
 rcases hx with hk|hk
 ·refine wpAny_storeName_local hk hn (fun h' hn' hs=>?_) hcls;obtain⟨oL,_,_,hoL,_⟩:=id hn;refine h _ ⟨I.ok,I.os,I.bare,⟨fun b o e n hb hx=>?_,fun b o e n hb hx=>?_,I.base.free,fun b o e hx=>?_,I.base.tups,I.base.frzs,I.base.tbls⟩,⟨_,hn',fun j y v' e1 e2 e3=>?_⟩,fun y c e=>?_,I.free,I.freeC,fun p hp=>?_,tracked ⟨oL,hoL,I.free⟩ hs,by simpa using I.len⟩ ⟨_,hs,.inl rfl⟩
  ·exact(hs.2 b (Nat.ne_of_lt (Nat.lt_of_lt_of_le (Heap.lt_size e) I.ok.above))).trans (I.base.keep b o e n hb hx)
  ·obtain⟨sl,e1⟩:=I.base.slot b o e n hb hx;exact⟨sl,(hs.2 b (Nat.ne_of_lt (Nat.lt_of_lt_of_le (Heap.lt_size e) I.ok.above))).trans e1⟩
  ·obtain⟨o',e1⟩:=I.base.there b o e hx;exact⟨o',(hs.2 b (Nat.ne_of_lt (Nat.lt_of_lt_of_le (Heap.lt_size e) I.ok.above))).trans e1⟩
  ·by_cases hj:j=i
   ·subst hj;rw[hi] at e1;cases e1;rw[List.getElem?_set_self hiσ] at e2;cases e2;exact⟨u,r,.inl ⟨hk,by simp⟩⟩
   ·rw[List.getElem?_set_ne (Ne.symm hj)] at e2;obtain⟨u',r',q⟩:=hl j y v' e1 e2 e3;refine⟨u',r',?_⟩;rcases q with⟨k,e⟩|⟨k,c,e,z⟩
    ·refine .inl ⟨k,?_⟩;have:y≠x:=fun e=>hj (Zgz hN e1 (e ▸ hi));simp[this,e]
    ·exact .inr ⟨k,c,e,z.sameBut hs (cne y c e)⟩
  ·obtain⟨w',z⟩:=I.cell y c e;exact⟨w',z.sameBut hs (cne y c e)⟩
  ·obtain⟨e,n,ne,nf,d⟩:=I.pin p hp;exact⟨(hs.2 p.1 ne).trans e,n,ne,nf,d⟩
 ·have hfn:X.fn x=true:=by
   rcases hf with z|z
   ·exact z
   ·rw[z] at hk;cases hk
  obtain⟨c,hc⟩:=I.ok.has x (.inl hk);obtain⟨w',z⟩:=I.cell x c hc;refine wpAny_storeName_cell I.ok.kind hk hc z (fun h' hc' hs=>?_);obtain⟨oc,hoc,hocd⟩:=id z;refine h { s with heap:=h' } ⟨I.ok,I.os,I.bare,⟨fun b o e n hb hx=>?_,fun b o e n hb hx=>?_,I.base.free,fun b o e hx=>?_,I.base.tups,I.base.frzs,I.base.tbls⟩,⟨m,hn.sameBut hs (Ne.symm (cne x c hc)),fun j y v' e1 e2 e3=>?_⟩,fun y c' e=>?_,I.free,I.freeC,fun p hp=>?_,tracked ⟨oc,hoc,I.freeC x c hc⟩ hs,by simpa using I.len⟩ ⟨c,hs,.inr hc⟩
  ·exact(hs.2 b (Nat.ne_of_lt (Nat.lt_of_lt_of_le (Heap.lt_size e) (I.ok.cab x c hfn hc)))).trans (I.base.keep b o e n hb hx)
  ·obtain⟨sl,e1⟩:=I.base.slot b o e n hb hx;exact⟨sl,(hs.2 b (Nat.ne_of_lt (Nat.lt_of_lt_of_le (Heap.lt_size e) (I.ok.cab x c hfn hc)))).trans e1⟩
  ·obtain⟨o',e1⟩:=I.base.there b o e hx;exact⟨o',(hs.2 b (Nat.ne_of_lt (Nat.lt_of_lt_of_le (Heap.lt_size e) (I.ok.cab x c hfn hc)))).trans e1⟩
  ·by_cases hj:j=i
   ·subst hj;rw[hi] at e1;cases e1;rw[List.getElem?_set_self hiσ] at e2;cases e2;exact⟨u,r,.inr ⟨.inl hk,c,hc,hc'⟩⟩
   ·rw[List.getElem?_set_ne (Ne.symm hj)] at e2;obtain⟨u',r',q⟩:=hl j y v' e1 e2 e3;refine⟨u',r',?_⟩;rcases q with q|⟨k,c',e,z'⟩
    ·exact .inl q
    ·refine .inr ⟨k,c',e,z'.sameBut hs ?_⟩;rintro rfl;exact hj (Zgz hN e1 (I.ok.inj _ _ _ e hc ▸ hi))
  ·by_cases hcc:c'=c
   ·subst hcc;exact⟨_,hc'⟩
   ·obtain⟨w2,z2⟩:=I.cell y c' e;exact⟨w2,z2.sameBut hs hcc⟩
  ·obtain⟨e,n,ne,nf,d⟩:=I.pin p hp;refine⟨(hs.2 p.1 ?_).trans e,n,ne,nf,d⟩;intro q;rw[q,hoc] at e;have q':oc=p.2:=Option.some.inj e;exact d w' (by rw[<- q'];exact hocd)
theorem ZgV{M:Model}{A:Around}{E:Value->Shared->Prop}{i:Nat}{x:Str}{v:V}{u:Value}{Q:Unit->Shared->Prop}(I:Inv X pins σ H s)(hN:X.N.Nodup)(hi:X.N[i]?= some x)(hx:Loc X.env.scope x)(r:RelV v u)
  (h:∀s',Inv X pins (σ.set i (some v)) H s'->Q () s') (hf:X.fn x=true\/X.env.scope.names.lookup x=some .local:=by first|exact .inl rfl|exact .inr rfl|assumption):wpAny M A (storeName X.env x u) Q E s :=
 Zdp I hN hi hx r (fun s' I' _=>h s' I') hf
theorem Inv.call'{s':Shared}{ch:List Addr}(I:Inv X pins σ H s)(ho:s'.os=s.os)(u:Un (frs X.stack) ch H H' s.heap s'.heap)(hok:HOk X.prog X.w H' s'.heap)(hg:AllBare s'.gens)
  (hch:∀b∈ch,(b∈X.ex\/X.s₀.heap.objs.size<=b)/\b≠X.env.locals/\(∀x c,X.env.cells.lookup x=some c->c≠b)/\∀p∈X.pn++pins,p.1≠b):Inv X pins σ H' s':=by
 obtain⟨h',g',d',t',o'⟩:=s';have e:o'=s.os:=ho;subst e;exact I.call (g':=g') (t':=t') (d':=d') u hok hg hch
end
abbrev XK:=Value->Option Addr->Hp->Prop
abbrev St:=List (Option V)
abbrev VK:=V->Hp->Prop
abbrev TE:=St->Hp->VK->Prop
abbrev TT:=St->Hp->(Bool->Hp->Prop)->Prop
abbrev TA:=St->Hp->(List V->Hp->Prop)->Prop
structure Ends where
 nx:St->Hp->Prop
 rt:VK
 bk:St->Hp->Prop:=fun _ _=>False
 ct:St->Hp->Prop:=fun _ _=>False
abbrev TS:=Ends->St->Hp->Prop
def EP(X:Cx)(pins:List (Addr×Obj))(σ : St)(Q:VK)(u:Value)(s':Shared):Prop := ∃v H',Inv X pins σ H' s'/\RelV v u/\Q v H'
def TP(X:Cx)(pins:List (Addr×Obj))(σ : St)(Q:Bool->Hp->Prop)(b:Bool)(s':Shared):Prop := ∃H',Inv X pins σ H' s'/\Q b H'
def AP(X:Cx)(pins:List (Addr×Obj))(σ : St)(Q:List V->Hp->Prop)(us:List Value)(s':Shared):Prop := ∃vs H',Inv X pins σ H' s'/\Vals vs us/\Q vs H'
def SP(X:Cx)(pins:List (Addr×Obj))(D:Ends)(f:Flow)(s':Shared):Prop :=
 match f with
 | .next=>∃ σ' H',Inv X pins σ' H' s'/\D.nx σ' H'
 | .brk=>∃ σ' H',Inv X pins σ' H' s'/\D.bk σ' H'
 | .cont=>∃ σ' H',Inv X pins σ' H' s'/\D.ct σ' H'
 | .ret u=>∃v σ' H',Inv X pins σ' H' s'/\RelV v u/\D.rt v H'
def PE(X:Cx)(e:Expr)(t:TE):Prop :=
 ∀(pins:List (Addr×Obj))(s:Shared)(σ : St)(H:Hp)(Q:VK),Inv X pins σ H s->t σ H Q->wpAny (model X.prog X.w) X.A (eval e X.env) (EP X pins σ Q) X.xe s
def PT(X:Cx)(e:Expr)(t:TT):Prop :=
 ∀(pins:List (Addr×Obj))(s:Shared)(σ : St)(H:Hp)(Q:Bool->Hp->Prop),Inv X pins σ H s->t σ H Q->wpAny (model X.prog X.w) X.A (isTrue e X.env (eval e X.env)) (TP X pins σ Q) X.xe s
def PW(X:Cx)(e:Expr)(t:TT):Prop :=
 ∀(whole:Sem Value)(pins:List (Addr×Obj))(s:Shared)(σ : St)(H:Hp)(Q:Bool->Hp->Prop),Inv X pins σ H s->t σ H Q->wpAny (model X.prog X.w) X.A (isTrue e X.env whole) (TP X pins σ Q) X.xe s
theorem PW.pt{X:Cx}{e:Expr}{t:TT}(h:PW X e t):PT X e t:=h _
def PA(X:Cx)(es:List Expr)(t:TA):Prop :=
 ∀(pos:Pos)(pins:List (Addr×Obj))(s:Shared)(σ : St)(H:Hp)(Q:List V->Hp->Prop),Inv X pins σ H s->t σ H Q->wpAny (model X.prog X.w) X.A (spliced (backTo pos (starEach es X.env))) (AP X pins σ Q) X.xe s
def PS(X:Cx)(st:Stmt)(t:TS):Prop :=
 ∀(pins:List (Addr×Obj))(s:Shared)(σ : St)(H:Hp)(D:Ends),Inv X pins σ H s->t D σ H->wpAny (model X.prog X.w) X.A (exec st X.env) (SP X pins D) X.xe s
def PSs(X:Cx)(st:List Stmt)(t:TS):Prop :=
 ∀(pins:List (Addr×Obj))(s:Shared)(σ : St)(H:Hp)(D:Ends),Inv X pins σ H s->t D σ H->wpAny (model X.prog X.w) X.A (execs st X.env) (SP X pins D) X.xe s
theorem thn{α : Type}{t:Sem α}{Q Q' : α -> Shared->Prop}{M:Model}{A:Around}{E:Value->Shared->Prop}{s:Shared}(h:wpAny M A t Q E s)(hQ:∀a s,Q a s->Q' a s):wpAny M A t Q' E s:=wpAny_mono h hQ fun _ _ x=>x
section
variable{X:Cx}
def Zmg(i:Nat):TE:=fun σ H Q=>∃v,σ[i]?= some (some v)/\Q v H
def tC(v:V):TE:=fun _ H Q=>Q v H
theorem Zlt{i:Nat}{x:Str}{pos:Pos}(hN:X.N[i]?= some x)(hv:Vis X.env.scope x)(hd:(x == ("__debug__" : Str))=false:=by decide) (hcd:(x == ("__classdict__" : Str))=false:=by decide):PE X (.Name x pos) (Zmg i):=by
 intro pins s σ H Q I h;obtain⟨v,e,h⟩:=h;obtain⟨m,hn,hl⟩:=I.loc;obtain⟨u,r,l⟩:=hl i x v hN e hv;have fin:EP X pins σ Q u s:=⟨v,H,I,r,h⟩;rcases l with⟨hk,hm⟩|⟨hk,c,hc,hcell⟩
 ·exact wpAny_Name (wpAny_loadName_local I.ok.kind hk hn hm fin) hd
 ·rcases hk with hk|hk
  ·exact wpAny_Name (wpAny_loadName_cell I.ok.kind hk hc hcell fin) hd
  ·exact wpAny_Name (wpAny_loadName_free I.ok.kind hk hc hcell fin hcd) hd
theorem Zg{i j pos}:PE X (.Constant (.int i) j pos) (tC (.int i)):=fun _ _ _ H _ I h=>wpAny_Constant_int ⟨.int i,H,I.tok _,⟨_,rfl⟩,h⟩
theorem Zba{b j pos}:PE X (.Constant (.bool b) j pos) (tC (.bl b)):=fun _ _ _ H _ I h=>Constant_bool ⟨.bl b,H,I,rfl,h⟩
theorem ZbR{j pos}:PE X (.Constant .none j pos) (tC .non):=fun _ _ _ H _ I h=>Constant_none ⟨.non,H,I,rfl,h⟩
theorem Za0{x j pos}:PE X (.Constant (.str x) j pos) (tC (.str x)):=fun _ _ _ H _ I h=>Calls.Constant_str ⟨.str x,H,I.tok _,⟨_,rfl⟩,h⟩
def Gl(X:Cx)(x:Str):Prop:=X.env.kindOf x=some .globalImplicit
theorem ZfN{E:Value->Shared->Prop}{pins:List (Addr×Obj)}{s:Shared}{σ : St}{H:Hp}{x:Str}{u:Value}{pos:Pos}{Q:Value->Shared->Prop}(I:Inv X pins σ H s)(hg:Gl X x)(hm:X.mg x=some u)(h:Q u s)
  (hd:(x == ("__debug__" : Str))=false:=by decide):wpAny (model X.prog X.w) X.A (eval (.Name x pos) X.env) Q E s :=
 Calls.Name_function_global I.ok.kind hg (Calls.loadGlobal_global (by rw[I.ok.glob];exact I.mod.glob.keeps I.bk) hm h) hd
theorem ZgF{E:Value->Shared->Prop}{pins:List (Addr×Obj)}{s:Shared}{σ : St}{H:Hp}{x:Str}{u:Value}{pos:Pos}{Q:Value->Shared->Prop}(I:Inv X pins σ H s)(hg:Gl X x)(hm:X.mg x=none)(hv:bootBuiltins x=some u)(h:Q u s)
  (hn:x ≠ "__name__" := by decide) (hd:(x == ("__debug__" : Str))=false:=by decide):wpAny (model X.prog X.w) X.A (eval (.Name x pos) X.env) Q E s:=by
 obtain⟨mb,h1,h2⟩:=I.mod.blt;exact Calls.Name_function_global I.ok.kind hg (Calls.loadGlobal_builtin (by rw[I.ok.glob];exact I.mod.glob.keeps I.bk) hm (by rw[I.ok.blt];exact h1.keeps I.bk) ((h2 x hn).trans hv) h) hd
theorem Zj7{x:Str}{v:V}{u:Value}{pos:Pos}(hg:Gl X x)(hm:X.mg x=some u)(r:RelV v u)(hd:(x == ("__debug__" : Str))=false:=by decide):PE X (.Name x pos) (tC v) :=
 fun _ _ _ H _ I h=>ZfN I hg hm ⟨v,H,I,r,h⟩ hd
theorem ZkI{x:Str}{v:V}{u:Value}{pos:Pos}(hg:Gl X x)(hm:X.mg x=none)(hv:bootBuiltins x=some u)(r:RelV v u)(hn:x ≠ "__name__" := by decide) (hd:(x == ("__debug__" : Str))=false:=by decide):PE X (.Name x pos) (tC v) :=
 fun _ _ _ H _ I h=>ZgF I hg hm hv ⟨v,H,I,r,h⟩ hn hd
variable{a b:Expr}{ta tb:TE}{pos:Pos}
def PC(X:Cx)(op:CmpOp)(a b:Expr)(t:TE):Prop :=
 ∀(pins:List (Addr×Obj))(s:Shared)(σ : St)(H:Hp)(Q:VK),Inv X pins σ H s->t σ H Q ->
  wpAny (model X.prog X.w) X.A (eval a X.env) (fun v s₁=>wpAny (model X.prog X.w) X.A (eval b X.env) (fun u s₂=>wpAny (model X.prog X.w) X.A (compareOp op v u) (EP X pins σ Q) X.xe s₂) X.xe s₁) X.xe s
def tB(t:TE):TT:=fun σ H Q=>t σ H fun x H1=>∃c,x=.bl c/\Q c H1
theorem ZcK{op:CmpOp}{t:TE}(h:PC X op a b t)(h1:behindInMarks op b=false:=by first|exact nobehind _ (by decide) (by decide)|rfl):PT X (.Compare a [op] [b] pos) (tB t):=by
 intro pins s σ H Q I hw;refine wpAny_isTrue_Compare1 (thn (h pins s σ H _ I hw) fun v s1 h1=>thn h1 fun u s2 h2=>thn h2 fun c s3 ⟨x,H1,I1,r1,q1⟩=>?_) h1;obtain⟨d,rfl,q⟩:=q1;cases r1;exact wpAny_truthy_bool ⟨H1,I1,q⟩
variable{tA tB':TT}{rest:List Expr}
def ZmE(t u:TT):TT:=fun σ H Q=>t σ H fun c H1=>if c=true then u σ H1 Q else Q false H1
def tOr(t u:TT):TT:=fun σ H Q=>t σ H fun c H1=>if c=true then Q true H1 else u σ H1 Q
def ZmC(t:TT):TT:=fun σ H Q=>t σ H fun c H1=>Q (!c) H1
theorem ZbA(ha:PT X a tA):PW X (.BoolOp .And [a] pos) tA:=by
 intro wh pins s σ H Q I h;refine isTrue_and (thn (ha pins s σ H Q I h) fun c s1 e=>?_);cases c with
 | true=>exact isTrue_and_nil e
 | false=>exact e
theorem ZgU(ha:PT X a tA):PW X (.BoolOp .Or [a] pos) tA:=by
 intro wh pins s σ H Q I h;refine isTrue_or (thn (ha pins s σ H Q I h) fun c s1 e=>?_);cases c with
 | false=>exact isTrue_or_nil e
 | true=>exact e
theorem Zb5(ha:PT X a tA)(hb:PW X (.BoolOp .And (b::rest) pos) tB'):PW X (.BoolOp .And (a::b::rest) pos) (ZmE tA tB'):=by
 intro wh pins s σ H Q I h;refine isTrue_and (thn (ha pins s σ H _ I h) fun c s1 ⟨H1,I1,q1⟩=>?_);cases c with
 | true=>exact hb wh pins s1 σ H1 Q I1 q1
 | false=>exact⟨H1,I1,q1⟩
theorem Zjc(ha:PT X a tA)(hb:PW X (.BoolOp .Or (b::rest) pos) tB'):PW X (.BoolOp .Or (a::b::rest) pos) (tOr tA tB'):=by
 intro wh pins s σ H Q I h;refine isTrue_or (thn (ha pins s σ H _ I h) fun c s1 ⟨H1,I1,q1⟩=>?_);cases c with
 | true=>exact⟨H1,I1,q1⟩
 | false=>exact hb wh pins s1 σ H1 Q I1 q1
theorem Zbb(ha:PT X a tA):PT X (.UnaryOp .Not a pos) (ZmC tA):=by
 intro pins s σ H Q I h;exact isTrue_not (ha pins s σ H (fun c H1=>Q (!c) H1) I h)
def ZlO(ta tb:TE):TE:=fun σ H Q=>ta σ H fun x H1=>∃c,x=.bl c/\if c=true then tb σ H1 Q else Q (.bl false) H1
def Zl2(ta:TE):TE:=fun σ H Q=>ta σ H fun x H1=>∃c,x=.bl c/\Q (.bl (!c)) H1
theorem Zd9{op}{t:TE}(h:PE X a t):PE X (.BoolOp op [a] pos) t:=fun pins s σ H Q I hw=>BoolOp_one (h pins s σ H Q I hw)
theorem ZcS(ha:PE X a ta)(hb:PE X (.BoolOp .And (b::rest) pos) tb):PE X (.BoolOp .And (a::b::rest) pos) (ZlO ta tb):=by
 intro pins s σ H Q I h;refine BoolOp_and (thn (ha pins s σ H _ I h) fun v s1 ⟨x,H1,I1,r1,q1⟩=>?_);obtain⟨c,rfl,q1⟩:=q1;cases r1;refine wpAny_truthy_bool ?_;cases c with
 | true=>exact hb pins s1 σ H1 Q I1 q1
 | false=>exact⟨.bl false,H1,I1,rfl,q1⟩
theorem Zk8(ha:PE X a ta):PE X (.UnaryOp .Not a pos) (Zl2 ta):=by
 intro pins s σ H Q I h;refine UnaryOp_ (thn (ha pins s σ H _ I h) fun v s1 ⟨x,H1,I1,r1,q1⟩=>?_);obtain⟨c,rfl,q1⟩:=q1;cases r1;exact not_of (wpAny_truthy_bool ⟨.bl (!c),H1,I1,rfl,q1⟩)
def tIf(t:TT)(ta tb:TE):TE:=fun σ H Q=>t σ H fun c H1=>if c=true then ta σ H1 Q else tb σ H1 Q
theorem ZgJ{c:Expr}(hc:PT X c tA)(ha:PE X a ta)(hb:PE X b tb):PE X (.IfExp c a b pos) (tIf tA ta tb):=by
 intro pins s σ H Q I h;refine wpAny_IfExp (thn (hc pins s σ H _ I h) fun d s1 ⟨H1,I1,q1⟩=>?_);cases d with
 | true=>exact ha pins s1 σ H1 Q I1 q1
 | false=>exact hb pins s1 σ H1 Q I1 q1
end
def SqL(K:PySem.W.Frag)(H:Hp)(a:Addr)(xs:List V):Prop :=
 Rd H a (.lst xs) \/
  ∃(o:Obj)(its:Array Value)(n:Nat),K.lookup a=some o/\o.cls=.type "list" /\ o.dict=none/\o.data=.seq its n/\its.size<=sizeLine/\Vals xs its.toList
def SqT(K:PySem.W.Frag)(H:Hp)(a:Addr)(xs:List V):Prop :=
 Rd H a (.tup xs) \/
  ∃(o:Obj)(its:Array Value)(n:Nat),K.lookup a=some o/\o.cls=.type "tuple" /\ o.data=.seq its n/\its.size<=sizeLine/\Vals xs its.toList
def Zml:Value->Option V
 | .none=>some .non
 | .bool b=>some (.bl b)
 | .int i _=>some (.int i)
 | .str x _=>some (.str x)
 | .bytes b _=>some (.byt b)
 | .float b _=>some (.flt b)
 | .ref a=>some (.ref a)
 | .type n=>some (.ty n)
 | _=>none
theorem RelV.abs{x:V}{u:Value}(r:RelV x u):Zml u=some x:=by
 cases x with
 | non=>cases r;rfl
 | bl _=>cases r;rfl
 | int _=>obtain⟨t,rfl⟩:=r;rfl
 | str _=>obtain⟨t,rfl⟩:=r;rfl
 | byt _=>obtain⟨t,rfl⟩:=r;rfl
 | flt _=>obtain⟨t,rfl⟩:=r;rfl
 | ref _=>cases r;rfl
 | ty _=>cases r;rfl
theorem RelV.inj{x y:V}{u:Value}(r:RelV x u)(q:RelV y u):x=y:=Option.some.inj (r.abs.symm.trans q.abs)
theorem Vals.inj:∀{xs ys:List V}{us:List Value},Vals xs us->Vals ys us->xs=ys
 | _,_,_,.nil,.nil=>rfl
 | _,_,_,.cons r t,.cons r' t'=>by rw[r.inj r',Vals.inj t t']
section
variable{X:Cx}{pins:List (Addr×Obj)}{σ : St}{H:Hp}{s:Shared}{a:Addr}{xs ys:List V}
theorem SqL.of{K:PySem.W.Frag}(h:H a=some (.lst xs)):SqL K H a xs:=.inl (.inl h)
theorem SqT.of{K:PySem.W.Frag}(h:H a=some (.tup xs)):SqT K H a xs:=.inl (.inl h)
theorem Inv.list(I:Inv X pins σ H s)(h:SqL X.K H a xs):∃its:List Value,Vals xs its/\PlainL s.heap a its.toArray/\xs.length<=sizeLine:=by
 rcases h with h|⟨o,its,n,hk,hc,hd,hs,hz,r⟩
 ·obtain⟨z,its,n,r,e⟩:=h.ok I.hok;exact⟨its,r,⟨_,n,e,rfl,rfl,rfl⟩,z⟩
 ·refine⟨its.toList,r,⟨o,n,I.kIn a o hk,hc,hd,by simpa using hs⟩,?_⟩;have e:=r.length;simp only[Array.length_toList] at e;lia
theorem Inv.tuple(I:Inv X pins σ H s)(h:SqT X.K H a xs):∃its:List Value,Vals xs its/\IsTup s.heap a its.toArray/\xs.length<=sizeLine:=by
 rcases h with h|⟨o,its,n,hk,hc,hs,hz,r⟩
 ·obtain⟨z,its,r,p⟩:=h.ok I.hok;exact⟨its,r,p,z⟩
 ·refine⟨its.toList,r,⟨o,I.kIn a o hk,hc,n,by simpa using hs⟩,?_⟩;have e:=r.length;simp only[Array.length_toList] at e;lia
theorem Inv.list_inj(I:Inv X pins σ H s)(h:SqL X.K H a xs)(h':SqL X.K H a ys):xs=ys:=by
 obtain⟨its,r,⟨o,n,e,_,_,d⟩,_⟩:=I.list h;obtain⟨its',r',⟨o',n',e',_,_,d'⟩,_⟩:=I.list h';rw[e] at e';cases e';rw[d] at d';injection d' with d1 _;have:its=its':=by simpa using congrArg Array.toList d1
 subst this;exact r.inj r'
theorem Inv.tuple_inj(I:Inv X pins σ H s)(h:SqT X.K H a xs)(h':SqT X.K H a ys):xs=ys:=by
 obtain⟨its,r,⟨o,e,_,n,d⟩,_⟩:=I.tuple h;obtain⟨its',r',⟨o',e',_,n',d'⟩,_⟩:=I.tuple h';rw[e] at e';cases e';rw[d] at d';injection d' with d1 _;have:its=its':=by simpa using congrArg Array.toList d1
 subst this;exact r.inj r'
end
abbrev Cx.wish(X:Cx)(E:Value->Shared->Prop):Cx:={ X with xe:=E }
abbrev Cx.nox(X:Cx):Cx:=X.wish fun _ _=>False
theorem Cx.Ok.wish{X:Cx}(ok:X.Ok)(E:Value->Shared->Prop):(X.wish E).Ok :=
 ⟨ok.mod,ok.kind,ok.glob,ok.blt,ok.above,ok.inj,ok.has,ok.cab,ok.hd,ok.frames,ok.stk,ok.exf,ok.bs,ok.bsz,ok.noex,ok.exfs,ok.funs,ok.frf⟩
theorem Cx.Ok.unwish{X:Cx}{E:Value->Shared->Prop}(ok:(X.wish E).Ok):X.Ok :=
 ⟨ok.mod,ok.kind,ok.glob,ok.blt,ok.above,ok.inj,ok.has,ok.cab,ok.hd,ok.frames,ok.stk,ok.exf,ok.bs,ok.bsz,ok.noex,ok.exfs,ok.funs,ok.frf⟩
section
variable{X:Cx}{pins:List (Addr×Obj)}{σ : St}{H:Hp}{s:Shared}{E:Value->Shared->Prop}
theorem Inv.wish(I:Inv X pins σ H s)(E:Value->Shared->Prop):Inv (X.wish E) pins σ H s:=⟨I.ok.wish E,I.os,I.bare,I.base,I.loc,I.cell,I.free,I.freeC,I.pin,I.hok,I.len⟩
theorem Inv.unwish(I:Inv (X.wish E) pins σ H s):Inv X pins σ H s:=⟨I.ok.unwish,I.os,I.bare,I.base,I.loc,I.cell,I.free,I.freeC,I.pin,I.hok,I.len⟩
theorem SP.unwish{D:Ends}{f:Flow}{s':Shared}(h:SP (X.wish E) pins D f s'):SP X pins D f s':=by
 cases f with
 | next=>obtain⟨σ',H',I,q⟩:=h;exact⟨σ',H',I.unwish,q⟩
 | brk=>obtain⟨σ',H',I,q⟩:=h;exact⟨σ',H',I.unwish,q⟩
 | cont=>obtain⟨σ',H',I,q⟩:=h;exact⟨σ',H',I.unwish,q⟩
 | ret u=>obtain⟨v,σ',H',I,r,q⟩:=h;exact⟨v,σ',H',I.unwish,r,q⟩
theorem PSs.nox{st:List Stmt}{t:TS}(h:PSs X.nox st t):PSs X st t:=fun pins s σ H D I hw =>
 wpAny_mono (h pins s σ H D (I.wish _) hw) (fun _ _ q=>q.unwish) fun _ _ z=>False.elim z
end
section
variable{X:Cx}{st:Stmt}{rest:List Stmt}{t u:TS}{e:Expr}{te:TE}{pos:Pos}
def ZlU:TS:=fun D σ H=>D.nx σ H
def Zmj(t u:TS):TS:=fun D σ H=>t { D with nx:=u D } σ H
theorem ZM:PSs X [] ZlU:=fun _ _ σ H _ I h=>wpAny_execs_nil ⟨σ,H,I,h⟩
theorem Zc(h1:PS X st t)(h2:PSs X rest u):PSs X (st::rest) (Zmj t u):=by
 intro pins s σ H D I h;refine wpAny_execs_cons (thn (h1 pins s σ H { D with nx:=u D } I h) fun f s1 q=>?_);cases f with
 | next =>
  obtain⟨σ',H',I',q⟩:=q;exact h2 pins s1 σ' H' D I' q
 | ret v=>exact q
 | brk=>exact q
 | cont=>exact q
theorem Zj(h1:PS X st t):PSs X [st] t:=by
 intro pins s σ H D I h;refine wpAny_execs_cons (thn (h1 pins s σ H D I h) fun f s1 q=>?_);cases f with
 | next=>exact wpAny_execs_nil q
 | ret v=>exact q
 | brk=>exact q
 | cont=>exact q
theorem Inv.quiet{pins:List (Addr×Obj)}{σ : St}{H:Hp}{s:Shared}(I:Inv X pins σ H s):interactive X.env=false:=by simp[interactive,I.ok.kind]
def ZlF(te:TE):TS:=fun D σ H=>te σ H fun _ H1=>D.nx σ H1
theorem Zau(he:PE X e te)(hs:swapsWith e none pos.line X.env=pure false:=by rfl):PS X (.Expr e pos) (ZlF te):=by
 intro pins s σ H D I h;exact wpAny_Expr_any (thn (he pins s σ H _ I h) fun v s1 ⟨x,H1,I1,r1,q1⟩=>⟨σ,H1,I1,q1⟩) I.quiet hs
def Zmn(te:TE):TS:=fun D σ H=>te σ H D.rt
theorem ZC(he:PE X e te):PS X (.Return (some e) pos) (Zmn te):=by
 intro pins s σ H D I h;exact wpAny_Return_some (thn (he pins s σ H _ I h) fun v s1 ⟨x,H1,I1,r1,q1⟩=>⟨x,σ,H1,I1,r1,q1⟩)
def ZmF(c:TT)(t u:TS):TS:=fun D σ H=>c σ H fun b H1=>if b=true then t D σ H1 else u D σ H1
theorem ZaL{c:Expr}{a b:List Stmt}{tc:TT}(hc:PT X c tc)(ha:PSs X a t)(hb:PSs X b u):PS X (.If c a b pos) (ZmF tc t u):=by
 intro pins s σ H D I h;refine wpAny_If (thn (hc pins s σ H _ I h) fun d s1 ⟨H1,I1,q1⟩=>?_);cases d with
 | true=>exact ha pins s1 σ H1 D I1 q1
 | false=>exact hb pins s1 σ H1 D I1 q1
def Zld:TS:=fun _ _ _=>False
theorem Zgo:PS X st Zld:=fun _ _ _ _ _ _ h=>h.elim
end
abbrev TG:=V->St->Hp->(St->Hp->Prop)->Prop
abbrev TGs:=List V->St->Hp->(St->Hp->Prop)->Prop
def PG(X:Cx)(target:Expr)(t:TG):Prop :=
 ∀(pins:List (Addr×Obj))(s:Shared)(σ : St)(H:Hp)(v:V)(u:Value)(Q:St->Hp->Prop),Inv X pins σ H s->RelV v u->t v σ H Q ->
  wpAny (model X.prog X.w) X.A (assign target X.env u) (fun _ s'=>∃ σ' H',Inv X pins σ' H' s'/\Q σ' H') X.xe s
def PGs(X:Cx)(ts:List Expr)(t:TGs):Prop :=
 ∀(pins:List (Addr×Obj))(s:Shared)(σ : St)(H:Hp)(vs:List V)(us:List Value)(Q:St->Hp->Prop),Inv X pins σ H s->Vals vs us->t vs σ H Q ->
  wpAny (model X.prog X.w) X.A (assignInOrder ((assignEach ts X.env).map (·.2)) us) (fun _ s'=>∃ σ' H',Inv X pins σ' H' s'/\Q σ' H') X.xe s
abbrev ZlT:=V->V->V->Hp->(Hp->Prop)->Prop
def Zl9(X:Cx)(t:ZlT):Prop :=
 ∀(pins:List (Addr×Obj))(s:Shared)(σ : St)(H:Hp)(o i v:V)(ov iv u:Value)(Q:Hp->Prop),Inv X pins σ H s->RelV o ov->RelV i iv->RelV v u->t o i v H Q ->
  wpAny (model X.prog X.w) X.A (setItem ov iv u) (fun _ s'=>∃H',Inv X pins σ H' s'/\Q H') X.xe s
section
variable{X:Cx}{pos:Pos}
def ZfB(i:Nat):TG:=fun v σ H Q=>Q (σ.set i (some v)) H
theorem Zu{i:Nat}{x:Str}(hN:X.N.Nodup)(hi:X.N[i]?= some x)(hx:Loc X.env.scope x)(hf:X.fn x=true\/X.env.scope.names.lookup x=some .local:=by first|exact .inl rfl|exact .inr rfl|assumption):PG X (.Name x pos) (ZfB i):=by
 intro pins s σ H v u Q I r h;exact wpAny_assign_Name (ZgV I hN hi hx r (fun s' I'=>⟨_,H,I',h⟩) hf)
def ZmI:TGs:=fun vs σ H Q=>vs=[]/\Q σ H
def ZlV(t:TG)(u:TGs):TGs:=fun vs σ H Q=>∃v r,vs=v::r/\t v σ H fun σ' H'=>u r σ' H' Q
theorem ZbB:PGs X [] ZmI:=by
 intro pins s σ H vs us Q I r h;obtain⟨e,h⟩:=h;subst e;cases r;exact assignInOrder_nil ⟨σ,H,I,h⟩
theorem ZL{e:Expr}{es:List Expr}{t:TG}{u:TGs}(h1:PG X e t)(h2:PGs X es u)
  (hs:(assignEach (e::es) X.env).map (·.2)=assign e X.env::(assignEach es X.env).map (·.2):=by rfl):PGs X (e::es) (ZlV t u):=by
 intro pins s σ H vs us Q I r h;obtain⟨v,vr,e1,h⟩:=h;subst e1;cases r with
 | cons r rr =>
  rw[hs];refine assignInOrder_cons (thn (h1 pins s σ H _ _ _ I r h) fun _ s1 ⟨σ1,H1,I1,q1⟩=>?_);exact h2 pins s1 σ1 H1 _ _ Q I1 rr q1
def Zl8(K:PySem.W.Frag)(n:Nat)(t:TGs):TG:=fun v σ H Q=>∃a xs,v=.ref a/\SqT K H a xs/\xs.length=n/\t xs σ H Q
theorem Zdw{es:List Expr}{k:Nat}{t:TGs}{n:Nat}(hc:X.calm=true)(h:PGs X es t)
  (hn:(assignEach es X.env).length=n:=by rfl) (hst:(assignEach es X.env).findIdx? (·.1)=none:=by rfl):PG X (.Tuple es k pos) (Zl8 X.K n t):=by
 intro pins s σ H v u Q I r hw;obtain⟨a,xs,e1,hq,hl,hw⟩:=hw;subst e1;cases r;obtain⟨its,rv,ht,hz⟩:=I.tuple hq;refine assign_Tuple_tuple (I.ok.hd hc) ht (by simp[hn,<- hl,rv.length]) hst fun h' hx=>?_;have I1:Inv X pins σ H { s with heap:=h' }:=I.kept (t':=s.toks) fun b o e=>hx b o (Nat.ne_of_lt (Heap.lt_size e)) e;exact h pins _ σ H xs _ Q I1 (by simpa using rv) hw
def Zmm(to ti:TE)(t:ZlT):TG:=fun v σ H Q=>to σ H fun o H1=>ti σ H1 fun i H2=>t o i v H2 fun H3=>Q σ H3
theorem ZiG{o i:Expr}{to ti:TE}{t:ZlT}(ho:PE X o to)(hi:PE X i ti)(hs:Zl9 X t)
  (ha:∀v,assign (.Subscript o i pos) X.env v=(do
   let ov <- holding [v] (eval o X.env)
   let iv <- holding [v,ov] (eval i X.env)
   standAt pos
   holding [v,ov,iv] (setItem ov iv v)
   release [v,ov,iv] []):=by intro _;rfl):PG X (.Subscript o i pos) (Zmm to ti t):=by
 intro pins s σ H v u Q I r h;rw[ha];refine wpAny_bind (wpAny_holding (thn (ho pins s σ H _ I h) fun ov s1 ⟨x,H1,I1,r1,q1⟩=>?_));refine wpAny_bind (wpAny_holding (thn (hi pins s1 σ H1 _ I1 q1) fun iv s2 ⟨y,H2,I2,r2,q2⟩=>?_));refine wpAny_bind (wpAny_standAt (wpAny_bind (wpAny_holding (thn (hs pins s2 σ H2 x y v ov iv u _ I2 r1 r2 r q2) fun _ s3 ⟨H3,I3,q3⟩=>?_))));exact wpAny_release ⟨σ,H3,I3,q3⟩
def ZlA(te:TE)(g:TG):TS:=fun D σ H=>te σ H fun x H1=>g x σ H1 D.nx
theorem Zh6{tg e:Expr}{te:TE}{g:TG}(he:PE X e te)(hg:PG X tg g)(hs:swapsWithSole [tg] e pos.line X.env=pure false:=by rfl)(hw:swappedStores [tg] e X.env=pure none:=by rfl)
  (h1:(assignEach [tg] X.env).map (·.2)=[assign tg X.env]:=by rfl):PS X (.Assign [tg] e pos) (ZlA te g):=by
 intro pins s σ H D I h;refine wpAny_Assign_stores (thn (he pins s σ H _ I h) fun v s1 ⟨x,H1,I1,r1,q1⟩=>?_) hs hw;rw[h1];exact thn (hg pins s1 σ H1 x v _ I1 r1 q1) fun _ s2 q=>q
theorem Zt{i:Nat}{x:Str}{e:Expr}{te:TE}{pos':Pos}(hN:X.N.Nodup)(hi:X.N[i]?= some x)(hx:Loc X.env.scope x)(he:PE X e te)(hs:swapsWith e (some (.Name x pos')) pos.line X.env=pure false:=by rfl)(hf:X.fn x=true\/X.env.scope.names.lookup x=some .local:=by first|exact .inl rfl|exact .inr rfl|assumption) :
  PS X (.Assign [.Name x pos'] e pos) (ZlA te (ZfB i)):=by
 intro pins s σ H D I h;refine wpAny_Assign_Name (thn (he pins s σ H _ I h) fun v s1 ⟨y,H1,I1,r1,q1⟩=>?_) hs;exact ZgV I1 hN hi hx r1 (fun s2 I2=>⟨_,H1,I2,q1⟩) hf
def Zln(c:TT)(tb:TS):TS:=fun D σ H=>∃W:Nat->St->Hp->Prop,(∃m,W m σ H)/\∀m σ H,W m σ H ->
 c σ H fun b H1=>if b=true then ∃N:St->Hp->Prop,(∀ σ' H',N σ' H'->∃m',m'<m/\W m' σ' H')/\tb { D with nx:=N,ct:=N,bk:=D.nx } σ H1 else D.nx σ H1
theorem ZgC{c:Expr}{body:List Stmt}{tc:TT}{tb:TS}(hp:PassesOwn (model X.prog X.w) X.A X.env X.xe)(hc:PT X c tc)(hb:PSs X body tb):PS X (.While c body [] pos) (Zln tc tb):=by
 intro pins s σ H D I h;obtain⟨W,⟨m0,w0⟩,turn⟩:=h;refine wpAny_While (codeAny_whileLoop (fun n s'=>∃ σ' H',Inv X pins σ' H' s'/\W n σ' H') ?_ m0 ⟨σ,H,I,w0⟩);rintro n s1 ⟨σ1,H1,I1,w1⟩;refine wpAny_passesOwn hp (thn (hc pins s1 σ1 H1 _ I1 (turn n σ1 H1 w1)) fun b s2 ⟨H2,I2,q2⟩=>?_);cases b with
 | true =>
  obtain⟨N,hN,q2⟩:=q2;rw[if_pos rfl];refine wpAny_passesOwn hp (thn (hb pins s2 σ1 H2 _ I2 q2) fun f s3 q3=>?_);cases f with
  | next =>
   obtain⟨σ3,H3,I3,n3⟩:=q3;obtain⟨m',hm,w3⟩:=hN σ3 H3 n3;exact⟨m',hm,σ3,H3,I3,w3⟩
  | cont =>
   obtain⟨σ3,H3,I3,n3⟩:=q3;obtain⟨m',hm,w3⟩:=hN σ3 H3 n3;exact⟨m',hm,σ3,H3,I3,w3⟩
  | brk=>exact q3
  | ret v=>exact q3
 | false =>
  rw[if_neg Bool.false_ne_true];exact wpAny_execs_nil ⟨σ1,H2,I2,q2⟩
end
structure It where
 go:Nat->Hp->Prop
 yld:Nat->Hp->V->Hp->Prop
 stop:Nat->Hp->Prop
def ZeN(X:Cx)(pins:List (Addr×Obj))(H:Hp)(b:Addr):Prop :=
 H b=none/\b≠X.env.locals/\b∉X.fs/\(b∈X.ex\/X.s₀.heap.objs.size<=b)/\(∀x c,X.env.cells.lookup x=some c->c≠b)/\∀p∈X.pn++pins,p.1≠b
theorem Inv.fpOk{X:Cx}{pins:List (Addr×Obj)}{σ : St}{H H':Hp}{s:Shared}{b:Addr}(I:Inv X pins σ H s)(hb:s.heap.objs.size<=b)(hn:H' b=none):ZeN X pins H' b:=by
 refine⟨hn,Nat.ne_of_gt (Nat.lt_of_lt_of_le I.lt hb),I.nofs hb,.inr (Nat.le_trans I.sz hb),fun x c e z=>?_,fun p hp z=>?_⟩
 ·obtain⟨v,q⟩:=I.cell x c e;exact absurd (Nat.lt_of_lt_of_le q.lt (by rw[z];exact hb)) (Nat.lt_irrefl _)
 ·exact absurd (Nat.lt_of_lt_of_le (Heap.lt_size (I.pin p hp).1) (by rw[z];exact hb)) (Nat.lt_irrefl _)
structure Turn(P:Program)(w:World)(K:PySem.W.Frag)(tg:Expr)(J:It)(fp:List Addr)(it:Addr)(tn:Nat->Heap->Prop):Prop where
 mem:it∈fp
 obj:∀i h,tn i h->∀b∈fp,∃o,h.get? b=some o/\∀v,o.data ≠ .cell v
 keep:∀i h h',tn i h->(∀b∈fp,∀o,h.get? b=some o->h'.get? b=some o)->tn i h'
 item:∀(X:Cx),X.prog=P->X.w=w->X.K=K->X.calm=true->∀(i:Nat)(pins:List (Addr×Obj))(s:Shared)(σ : St)(H:Hp)(E:Value->Shared->Prop),Inv X pins σ H s->(∀b∈fp,ZeN X pins H b)->tn i s.heap->J.go i H ->
  wpAny (model P w) X.A (pyNext (.ref it)) (fun r s1=>∃u,r=some u /\
   wpAny (model P w) X.A (letOwnedTupleGo tg (.ref it) u) (fun _ s2=>∃x H',Inv X pins σ H' s2/\RelV x u/\J.yld i H x H'/\tn (i+1) s2.heap/\∀b∈fp,H' b=none) E s1) E s
 done:∀(X:Cx),X.prog=P->X.w=w->X.K=K->X.calm=true->∀(i:Nat)(pins:List (Addr×Obj))(s:Shared)(σ : St)(H:Hp)(E:Value->Shared->Prop),Inv X pins σ H s->(∀b∈fp,ZeN X pins H b)->tn i s.heap->J.stop i H ->
  wpAny (model P w) X.A (pyNext (.ref it)) (fun r s1=>r=none/\Inv X pins σ H s1) E s
 self:∀(A:Around)(i:Nat)(s:Shared)(Q:Value->Shared->Prop)(E:Value->Shared->Prop),tn i s.heap->Q (.ref it) s->wpAny (model P w) A (pyIter (.ref it)) Q E s
abbrev TI:=St->Hp->(It->Hp->Prop)->Prop
def PIE(X:Cx)(pins:List (Addr×Obj))(σ : St)(tg:Expr)(R:It->Hp->Prop)(itv:Value)(s2:Shared):Prop :=
 ∃(it:Addr)(fp:List Addr)(tn:Nat->Heap->Prop)(J:It)(H':Hp),itv=.ref it/\Inv X pins σ H' s2/\Turn X.prog X.w X.K tg J fp it tn/\tn 0 s2.heap/\(∀b∈fp,ZeN X pins H' b)/\R J H'
def PI(X:Cx)(tg iter:Expr)(wi:TI):Prop :=
 ∀(pins:List (Addr×Obj))(s:Shared)(σ : St)(H:Hp)(R:It->Hp->Prop),Inv X pins σ H s->wi σ H R ->
  wpAny (model X.prog X.w) X.A (eval iter X.env) (fun v s1=>wpAny (model X.prog X.w) X.A (pyIter v) (PIE X pins σ tg R) X.xe s1) X.xe s
theorem Zke{M:Model}{A:Around}{E:Value->Shared->Prop}{s:Shared}{tg:Expr}{it:Addr}{u:Value}{o:Obj}{n:String}{vs:Array Value}{Q:Unit->Shared->Prop}(ho:s.heap.get? it=some o)(hc:o.cls=.type n)(hd:o.data=.fields vs)
    (hn:["enumerate","zip","dict_itemiterator","dict_reverseitemiterator","odict_iterator","itertools.zip_longest","itertools.pairwise"].contains n=false) (hQ:Q () s):wpAny M A (letOwnedTupleGo tg (.ref it) u) Q E s:=by
  unfold letOwnedTupleGo;cases tg <;> first
    | exact wpAny_pure hQ
    | (cases u <;> first
        | exact wpAny_pure hQ
        | (refine wpAny_bind (wpAny_load ho ?_)
           rw[hc,hd];show wpAny M A (if(["enumerate","zip","dict_itemiterator","dict_reverseitemiterator","odict_iterator","itertools.zip_longest","itertools.pairwise"].contains n&&vs[0]? == some (rawInt _))=true then _ else _) Q E s
           rw[if_neg (by intro h;rw[hn,Bool.false_and] at h;cases h)];exact wpAny_pure hQ))
def Itl(K:PySem.W.Frag)(a:Addr):It :=
 ⟨fun i H=>∃xs x,SqL K H a xs/\xs[i]?= some x,fun i H x H'=>H'=H/\∀xs,SqL K H a xs->xs[i]?= some x,fun i H=>∃xs,SqL K H a xs/\xs.length<=i⟩
def Itt(K:PySem.W.Frag)(a:Addr):It :=
 ⟨fun i H=>∃xs x,SqT K H a xs/\xs[i]?= some x,fun i H x H'=>H'=H/\∀xs,SqT K H a xs->xs[i]?= some x,fun i H=>∃xs,SqT K H a xs/\xs.length<=i⟩
def Itr(lo:Int)(n:Nat):It:=⟨fun i _=>i<n,fun i H x H'=>H'=H/\x=.int (lo+i),fun i _=>n<=i⟩
theorem ZhQ{P:Program}{w:World}{K:PySem.W.Frag}{tg:Expr}(a it:Addr):Turn P w K tg (Itl K a) [it] it (fun i h=>h.IsListIter it a i) where
 mem:=by simp
 obj:=fun i h st b hb=>by
  have e:b=it:=by simpa using hb
  subst e;obtain⟨o,e,c,d⟩:=st;exact⟨o,e,fun v z=>by rw[d] at z;cases z⟩
 keep:=fun i h h' st k=>st.at fun o e=>k it (by simp) o e
 item:=by
  intro X hP hw hK hc i pins s σ H E I hf st hg;subst hP hw hK;obtain⟨xs,x,hq,hx⟩:=hg;obtain⟨its,rv,p,hz⟩:=I.list hq;obtain⟨u,hu,ru⟩:=rv.get hx;obtain⟨f0,f1,f2,f3,f4,f5⟩:=hf it (by simp);refine wpAny_pyNext_list_item st p.isList (x:=u) (by simpa using hu) fun h' st' sb=>?_;have I1:Inv X pins σ H { s with heap:=h' }:=I.turned (t':=s.toks) (fun b o hb e=>(sb.2 b hb).trans e) f0 f1 f3 f4 f5;obtain⟨o,e,c,d⟩:=id st';exact⟨u,rfl,Zke (s:={ s with heap:=h' }) e c d (by decide) ⟨x,H,I1,ru,⟨rfl,fun ys hy=>by rw[I.list_inj hy hq];exact hx⟩,st',fun b hb=>(hf b hb).1⟩⟩
 done:=by
  intro X hP hw hK hc i pins s σ H E I hf st hg;subst hP hw hK;obtain⟨xs,hq,hx⟩:=hg;obtain⟨its,rv,p,hz⟩:=I.list hq;obtain⟨f0,f1,f2,f3,f4,f5⟩:=hf it (by simp);have hl:=rv.length;exact wpAny_pyNext_list_end (I.ok.hd hc) st p.isList (by simp;lia) fun h' eb=>⟨rfl,I.turned (t':=s.toks) (fun b o hb e=>eb b o hb e) f0 f1 f3 f4 f5⟩
 self:=fun _ _ _ _ _ st h=>wpAny_pyIter_listiter st h
theorem Zg0{P:Program}{w:World}{K:PySem.W.Frag}{tg:Expr}(a it:Addr):Turn P w K tg (Itt K a) [it] it (fun i h=>h.IsTupleIter it a i) where
 mem:=by simp
 obj:=fun i h st b hb=>by
  have e:b=it:=by simpa using hb
  subst e;obtain⟨o,e,c,d⟩:=st;exact⟨o,e,fun v z=>by rw[d] at z;cases z⟩
 keep:=fun i h h' st k=>st.at fun o e=>k it (by simp) o e
 item:=by
  intro X hP hw hK hc i pins s σ H E I hf st hg;subst hP hw hK;obtain⟨xs,x,hq,hx⟩:=hg;obtain⟨its,rv,p,hz⟩:=I.tuple hq;obtain⟨u,hu,ru⟩:=rv.get hx;obtain⟨f0,f1,f2,f3,f4,f5⟩:=hf it (by simp);refine wpAny_pyNext_tuple_item st (show s.heap.IsTuple a its.toArray from p) (x:=u) (by simpa using hu) fun h' st' sb=>?_;have I1:Inv X pins σ H { s with heap:=h' }:=I.turned (t':=s.toks) (fun b o hb e=>(sb.2 b hb).trans e) f0 f1 f3 f4 f5;obtain⟨o,e,c,d⟩:=id st';exact⟨u,rfl,Zke (s:={ s with heap:=h' }) e c d (by decide) ⟨x,H,I1,ru,⟨rfl,fun ys hy=>by rw[I.tuple_inj hy hq];exact hx⟩,st',fun b hb=>(hf b hb).1⟩⟩
 done:=by
  intro X hP hw hK hc i pins s σ H E I hf st hg;subst hP hw hK;obtain⟨xs,hq,hx⟩:=hg;obtain⟨its,rv,p,hz⟩:=I.tuple hq;obtain⟨f0,f1,f2,f3,f4,f5⟩:=hf it (by simp);have hl:=rv.length;exact wpAny_pyNext_tuple_end (I.ok.hd hc) st (show s.heap.IsTuple a its.toArray from p) (by simp;lia) fun h' eb=>⟨rfl,I.turned (t':=s.toks) (fun b o hb e=>eb b o hb e) f0 f1 f3 f4 f5⟩
 self:=fun _ _ _ _ _ st h=>wpAny_pyIter_tupleiter st h
theorem ZgX{P:Program}{w:World}{K:PySem.W.Frag}{tg:Expr}(it:Addr)(lo:Int)(n:Nat):Turn P w K tg (Itr lo n) [it] it (fun i h=>IsRangeIter h it (lo+(i:Nat)*1) ((n:Int)-(i:Nat)) 1) where
 mem:=by simp
 obj:=fun i h st b hb=>by
  have e:b=it:=by simpa using hb
  subst e;exact⟨_,st,fun v z=>by
   have z':Data.fields _=Data.cell v:=z;cases z'⟩
 keep:=fun i h h' st k=>k it (by simp) _ st
 item:=by
  intro X hP hw hK hc i pins s σ H E I hf st hg;subst hP hw hK;obtain⟨f0,f1,f2,f3,f4,f5⟩:=hf it (by simp);have W:=Walks.range (prog:=X.prog) (w:=X.w) (I.ok.hd hc) it lo 1 n;refine W.item i s _ _ hg st fun v h' tk hv st' kk=>?_;obtain⟨t,rfl⟩:=hv;have I1:Inv X pins σ H { s with heap:=h',toks:=tk }:=I.turned (fun b o hb e=>kk b o (by simpa using hb) e) f0 f1 f3 f4 f5;refine⟨_,rfl,Zke (s:={ s with heap:=h',toks:=tk }) (n := "range_iterator") st' rfl rfl (by decide) ⟨.int (lo+i),H,I1,⟨t,?_⟩,⟨rfl,rfl⟩,st',fun b hb=>(hf b hb).1⟩⟩;rw[Int.mul_one]
 done:=by
  intro X hP hw hK hc i pins s σ H E I hf st hg;subst hP hw hK;obtain⟨f0,f1,f2,f3,f4,f5⟩:=hf it (by simp);exact wpAny_pyNext_range_end (I.ok.hd hc) st (by have:n<=i:=hg;lia) fun h' eb=>⟨rfl,I.turned (t':=s.toks) (fun b o hb e=>eb b o hb e) f0 f1 f3 f4 f5⟩
 self:=fun _ _ _ _ _ st h=>wpAny_pyIter_rangeiter st h
section
variable{X:Cx}{tg:Expr}
def ZlG(K:PySem.W.Frag)(tl:TE):TI:=fun σ H R=>tl σ H fun x H1=>∃a,x=.ref a/\(∃xs,SqL K H1 a xs)/\R (Itl K a) H1
def Zmz(K:PySem.W.Frag)(tl:TE):TI:=fun σ H R=>tl σ H fun x H1=>∃a,x=.ref a/\(∃xs,SqT K H1 a xs)/\R (Itt K a) H1
theorem Zbt{l:Expr}{tl:TE}(hl:PE X l tl):PI X tg l (ZlG X.K tl):=by
 intro pins s σ H R I h;refine thn (hl pins s σ H _ I h) fun v s1 ⟨x,H1,I1,r1,q1⟩=>?_;obtain⟨a,e,⟨xs,hq⟩,q⟩:=q1;subst e;cases r1;obtain⟨its,rv,p,hz⟩:=I1.list hq;refine wpAny_pyIter_list p.isList ?_;refine⟨s1.heap.objs.size,[s1.heap.objs.size],_,_,H1,rfl,I1.kept (t':=s1.toks) fun b o e=>Heap.get?_push_of_some _ e,ZhQ a _,⟨_,Heap.get?_push_size _ rfl,rfl,rfl⟩,fun b hb=>?_,q⟩;have e:b=s1.heap.objs.size:=by simpa using hb
 subst e;exact I1.fpOk (Nat.le_refl _) (I1.hok.fresh (Nat.le_refl _))
theorem Zcg{l:Expr}{tl:TE}(hl:PE X l tl):PI X tg l (Zmz X.K tl):=by
 intro pins s σ H R I h;refine thn (hl pins s σ H _ I h) fun v s1 ⟨x,H1,I1,r1,q1⟩=>?_;obtain⟨a,e,⟨xs,hq⟩,q⟩:=q1;subst e;cases r1;obtain⟨its,rv,p,hz⟩:=I1.tuple hq;refine wpAny_pyIter_tuple (show s1.heap.IsTuple a its.toArray from p) ?_;refine⟨s1.heap.objs.size,[s1.heap.objs.size],_,_,H1,rfl,I1.kept (t':=s1.toks) fun b o e=>Heap.get?_push_of_some _ e,Zg0 a _,⟨_,Heap.get?_push_size _ rfl,rfl,rfl⟩,fun b hb=>?_,q⟩;have e:b=s1.heap.objs.size:=by simpa using hb
 subst e;exact I1.fpOk (Nat.le_refl _) (I1.hok.fresh (Nat.le_refl _))
theorem Zjj{pins:List (Addr×Obj)}{σ : St}{H:Hp}{s:Shared}{R:It->Hp->Prop}{E:Value->Shared->Prop}{lo hi:Int}{t u v:Tok}{tk:Nat}(I:Inv X pins σ H s)(h1 : -(2 ^ 62)<=lo)(h2:lo<2 ^ 62)(h3 : -(2 ^ 62)<=hi)(h4:hi<2 ^ 62)
  (q:R (Itr lo (hi-lo).toNat) H):wpAny (model X.prog X.w) X.A (pyIter (.ref s.heap.objs.size)) (PIE X pins σ tg R) E { s with heap:=s.heap.push { cls:=.type "range",data:=.fields #[.int lo t,.int hi u,.int 1 v] },toks:=tk }:=by
 refine wpAny_pyIter_range (IsRange.new ..) (small_one h1 h2 h3 h4) ?_;have I1:Inv X pins σ H { s with heap:=s.heap.push { cls:=.type "range",data:=.fields #[.int lo t,.int hi u,.int 1 v] },toks:=tk }:=I.kept fun b o e=>Heap.get?_push_of_some _ e;refine⟨(s.heap.push { cls:=.type "range",data:=.fields #[.int lo t,.int hi u,.int 1 v] }).objs.size,[(s.heap.push { cls:=.type "range",data:=.fields #[.int lo t,.int hi u,.int 1 v] }).objs.size],_,_,H,rfl,
  I1.kept (t':=tk) fun b o e=>Heap.get?_push_of_some _ e,ZgX _ lo (hi-lo).toNat,?_,fun b hb=>?_,q⟩
 ·have e1:lo+((0:Nat):Int)*1=lo:=by simp
  have e2:(((hi-lo).toNat:Nat):Int)-((0:Nat):Int)=Builtin.Range.rangeSize lo hi 1:=by rw[rangeSize_one];split <;> lia
  show IsRangeIter _ _ (lo+((0:Nat):Int)*1) ((((hi-lo).toNat:Nat):Int)-((0:Nat):Int)) 1;rw[e1,e2];exact Heap.get?_push_size _ rfl
 ·have e:b=(s.heap.push { cls:=.type "range",data:=.fields #[.int lo t,.int hi u,.int 1 v] }).objs.size:=by simpa using hb
  subst e;exact I1.fpOk (Nat.le_refl _) (I1.hok.fresh (Nat.le_refl _))
def ZlJ(ta:TA):TI:=fun σ H R=>ta σ H fun vs H1=>∃j:Int,vs=[.int j] /\ -(2 ^ 62)<=j/\j<2 ^ 62/\R (Itr 0 j.toNat) H1
theorem ZaW{a:Expr}{ta:TA}{p pos:Pos}(hg:Gl X "range") (hm:X.mg "range" = none) (ha:PA X [a] ta) (hs:starEach [a] X.env=[(false,eval a X.env)]:=by rfl):PI X tg (.Call (.Name "range" p) [a] [] pos) (ZlJ ta):=by
 intro pins s σ H R I h;refine Call_ (ZgF I hg hm boot_range (PyProof.Rows.callWith_type1 (thn (ha pos pins s σ H _ I h) fun us s1 ⟨vs,H1,I1,r1,q1⟩=>?_) hs rfl));obtain⟨j,e,q1,q2,q⟩:=q1;subst e;cases r1 with
 | cons r rr =>
  cases rr;obtain⟨t,rfl⟩:=r;exact call_range_1 (Zjj I1 (by lia) (by lia) q1 q2 (by simpa using q))
def ZmD(wi:TI)(g:TG)(tb:TS):TS:=fun D σ H=>wi σ H fun J H1=>∃W:Nat->Nat->St->Hp->Prop,(∃m,W 0 m σ H1)/\∀i m σ H,W i m σ H ->
 (J.stop i H/\D.nx σ H)\/(J.go i H/\∃N:St->Hp->Prop,(∀ σ' H',N σ' H'->∃m',m'<m/\W (i+1) m' σ' H')/\∀x H',J.yld i H x H'->g x σ H' fun σ2 H2=>tb { D with nx:=N,ct:=N,bk:=D.nx } σ2 H2)
def ZgI(fp:List Addr)(h:Heap):List (Addr×Obj):=fp.filterMap fun b=>(h.get? b).map fun o=>(b,o)
theorem ZaQ{fp:List Addr}{h:Heap}{b:Addr}{o:Obj}(hb:b∈fp)(e:h.get? b=some o):(b,o)∈ZgI fp h:=List.mem_filterMap.mpr ⟨b,hb,by rw[e];rfl⟩
theorem ZhK{fp:List Addr}{h:Heap}{p:Addr×Obj}(hp:p∈ZgI fp h):p.1∈fp/\h.get? p.1=some p.2:=by
 obtain⟨b,hb,e⟩:=List.mem_filterMap.mp hp;cases q:h.get? b with
 | none=>rw[q] at e;cases e
 | some o =>
  rw[q] at e;have e':(b,o)=p:=Option.some.inj e;subst e';exact⟨hb,q⟩
theorem Inv.pinned{pins:List (Addr×Obj)}{σ : St}{H:Hp}{s:Shared}{fp:List Addr}(I:Inv X pins σ H s)(hf:∀b∈fp,ZeN X pins H b)(ho:∀b∈fp,∃o,s.heap.get? b=some o/\∀v,o.data ≠ .cell v):Inv X (pins++ZgI fp s.heap) σ H s :=
 I.pins_of fun p hp=>(List.mem_append.mp hp).elim (fun z=>I.pin p (List.mem_append_right _ z)) fun z=>by
  obtain⟨hb,e⟩:=ZhK z;obtain⟨f0,f1,f2,_⟩:=hf p.1 hb;obtain⟨o,e',d⟩:=ho p.1 hb;rw[e] at e';cases e';exact⟨e,f0,f1,f2,d⟩
theorem Inv.unpinned{pins pl:List (Addr×Obj)}{σ : St}{H:Hp}{s:Shared}(I:Inv X (pins++pl) σ H s):Inv X pins σ H s:=I.pins_of fun p hp=>I.pin p (List.mem_append_right _ (List.mem_append_left _ hp))
theorem Zbc{iter:Expr}{body:List Stmt}{wi:TI}{g:TG}{tb:TS}{pos:Pos}(hp:PassesOwn (model X.prog X.w) X.A X.env X.xe)(hc:X.calm=true)(hi:PI X tg iter wi)(hg:PG X tg g)(hb:PSs X body tb)
  (hs:∀x,foldedSetIterable iter X.env x=pure x:=by intro _;rfl):PS X (.For tg iter body [] pos) (ZmD wi g tb):=by
 intro pins s σ H D I h;refine wpAny_For (thn (hi pins s σ H _ I h) fun v s1 h1=>thn h1 fun itv s2 h2=>?_) hs;obtain⟨it,fp,tn,J,H2,e,I2,T,st2,f2,W,⟨m0,w0⟩,turn⟩:=h2;subst e;have stat:∀{H':Hp},(∀b∈fp,H' b=none)->∀b∈fp,ZeN X pins H' b:=fun hn b hb=>⟨hn b hb,(f2 b hb).2⟩;refine codeAny_forLoop_any (fun n s'=>∃i σ' H',Inv X pins σ' H' s'/\tn i s'.heap/\(∀b∈fp,H' b=none)/\W i n σ' H') ?_ m0 ⟨0,σ,H2,I2,st2,fun b hb=>(f2 b hb).1,w0⟩;rintro n s3 ⟨i,σ3,H3,I3,st3,fr3,w3⟩;rcases turn i n σ3 H3 w3 with⟨stop,qn⟩|⟨go,N,hN,step⟩
 ·refine wpAny_passesOwn hp (thn (T.done X rfl rfl rfl hc i pins s3 σ3 H3 X.xe I3 (stat fr3) st3 stop) fun r s4 ⟨hr,I4⟩=>?_);subst hr;exact wpAny_execs_nil ⟨σ3,H3,I4,qn⟩
 ·refine wpAny_passesOwn hp (thn (T.item X rfl rfl rfl hc i pins s3 σ3 H3 X.xe I3 (stat fr3) st3 go) fun r s4 ⟨u,hr,h4⟩=>?_);subst hr;refine wpAny_passesOwn hp (thn h4 fun _ s5 ⟨x,H5,I5,r5,y5,st5,fr5⟩=>?_);have I5':=I5.pinned (stat fr5) (T.obj _ _ st5);refine wpAny_passesOwn hp (thn (hg _ s5 σ3 H5 x u _ I5' r5 (step x H5 y5)) fun _ s6 ⟨σ6,H6,I6,q6⟩=>?_);refine wpAny_passesOwn hp (thn (hb _ s6 σ6 H6 _ I6 q6) fun f s7 q7=>?_);have again:∀{σ7:St}{H7:Hp},Inv X (pins++ZgI fp s5.heap) σ7 H7 s7->N σ7 H7->∃m,m<n/\∃i σ' H',Inv X pins σ' H' s7/\tn i s7.heap/\(∀b∈fp,H' b=none)/\W i m σ' H':=fun{σ7 H7} I7 n7=>by
   obtain⟨m',hm,w7⟩:=hN σ7 H7 n7;refine⟨m',hm,i+1,σ7,H7,I7.unpinned,T.keep _ _ _ st5 fun b hb o e=>(I7.pin (b,o) (List.mem_append_right _ (List.mem_append_right _ (ZaQ hb e)))).1,fun b hb=>?_,w7⟩;obtain⟨o,e,d⟩:=T.obj _ _ st5 b hb;exact(I7.pin (b,o) (List.mem_append_right _ (List.mem_append_right _ (ZaQ hb e)))).2.1
  cases f with
  | next=>obtain⟨σ7,H7,I7,n7⟩:=q7;exact again I7 n7
  | cont=>obtain⟨σ7,H7,I7,n7⟩:=q7;exact again I7 n7
  | brk=>obtain⟨σ7,H7,I7,q7⟩:=q7;exact⟨σ7,H7,I7.unpinned,q7⟩
  | ret v=>obtain⟨x7,σ7,H7,I7,r7,q7⟩:=q7;exact⟨x7,σ7,H7,I7.unpinned,r7,q7⟩
end
theorem ZbU{K:PySem.W.Frag}{a:Addr}{xs:List V}{g:TG}{tb:TS}{D:Ends}{σ : St}{H:Hp}(Pv:Nat->St->Hp->Prop)(h0:Pv 0 σ H)(hl:∀i σ H,i<=xs.length->Pv i σ H->SqL K H a xs)
  (hs:∀i x σ H,xs[i]?= some x->Pv i σ H->g x σ H fun σ2 H2=>tb { D with nx:=Pv (i+1),ct:=Pv (i+1),bk:=D.nx } σ2 H2) (hd:∀ σ H,Pv xs.length σ H->D.nx σ H) :
  ∃W:Nat->Nat->St->Hp->Prop,(∃m,W 0 m σ H)/\∀i m σ H,W i m σ H ->
   ((Itl K a).stop i H/\D.nx σ H)\/((Itl K a).go i H/\∃N:St->Hp->Prop,(∀ σ' H',N σ' H'->∃m',m'<m/\W (i+1) m' σ' H')/\∀x H',(Itl K a).yld i H x H'->g x σ H' fun σ2 H2=>tb { D with nx:=N,ct:=N,bk:=D.nx } σ2 H2):=by
 refine⟨fun i m σ H=>m=xs.length-i/\i<=xs.length/\Pv i σ H,⟨xs.length,by simp,Nat.zero_le _,h0⟩,?_⟩;rintro i m σ H ⟨rfl,hi,p⟩;have q:=hl i σ H hi p;by_cases hlt:i<xs.length
 ·refine .inr ⟨⟨xs,xs[i],q,by simp[hlt]⟩,Pv (i+1),fun σ' H' p'=>⟨xs.length-(i+1),by lia,rfl,hlt,p'⟩,fun x H' y=>?_⟩;obtain⟨e,y⟩:=y;subst e;exact hs i x σ _ (y xs q) p
 ·have e:i=xs.length:=by lia
  subst e;exact .inl ⟨⟨xs,q,Nat.le_refl _⟩,hd σ H p⟩
theorem Zep{K:PySem.W.Frag}{a:Addr}{xs:List V}{g:TG}{tb:TS}{D:Ends}{σ : St}{H:Hp}(Pv:Nat->St->Hp->Prop)(h0:Pv 0 σ H)(hl:∀i σ H,i<=xs.length->Pv i σ H->SqT K H a xs)
  (hs:∀i x σ H,xs[i]?= some x->Pv i σ H->g x σ H fun σ2 H2=>tb { D with nx:=Pv (i+1),ct:=Pv (i+1),bk:=D.nx } σ2 H2) (hd:∀ σ H,Pv xs.length σ H->D.nx σ H) :
  ∃W:Nat->Nat->St->Hp->Prop,(∃m,W 0 m σ H)/\∀i m σ H,W i m σ H ->
   ((Itt K a).stop i H/\D.nx σ H)\/((Itt K a).go i H/\∃N:St->Hp->Prop,(∀ σ' H',N σ' H'->∃m',m'<m/\W (i+1) m' σ' H')/\∀x H',(Itt K a).yld i H x H'->g x σ H' fun σ2 H2=>tb { D with nx:=N,ct:=N,bk:=D.nx } σ2 H2):=by
 refine⟨fun i m σ H=>m=xs.length-i/\i<=xs.length/\Pv i σ H,⟨xs.length,by simp,Nat.zero_le _,h0⟩,?_⟩;rintro i m σ H ⟨rfl,hi,p⟩;have q:=hl i σ H hi p;by_cases hlt:i<xs.length
 ·refine .inr ⟨⟨xs,xs[i],q,by simp[hlt]⟩,Pv (i+1),fun σ' H' p'=>⟨xs.length-(i+1),by lia,rfl,hlt,p'⟩,fun x H' y=>?_⟩;obtain⟨e,y⟩:=y;subst e;exact hs i x σ _ (y xs q) p
 ·have e:i=xs.length:=by lia
  subst e;exact .inl ⟨⟨xs,q,Nat.le_refl _⟩,hd σ H p⟩
theorem Zbx{lo:Int}{n:Nat}{g:TG}{tb:TS}{D:Ends}{σ : St}{H:Hp}(Pv:Nat->St->Hp->Prop)(h0:Pv 0 σ H)
  (hs:∀i σ H,i<n->Pv i σ H->g (.int (lo+i)) σ H fun σ2 H2=>tb { D with nx:=Pv (i+1),ct:=Pv (i+1),bk:=D.nx } σ2 H2) (hd:∀ σ H,Pv n σ H->D.nx σ H) :
  ∃W:Nat->Nat->St->Hp->Prop,(∃m,W 0 m σ H)/\∀i m σ H,W i m σ H ->
   ((Itr lo n).stop i H/\D.nx σ H)\/((Itr lo n).go i H/\∃N:St->Hp->Prop,(∀ σ' H',N σ' H'->∃m',m'<m/\W (i+1) m' σ' H')/\∀x H',(Itr lo n).yld i H x H'->g x σ H' fun σ2 H2=>tb { D with nx:=N,ct:=N,bk:=D.nx } σ2 H2):=by
 refine⟨fun i m σ H=>m=n-i/\i<=n/\Pv i σ H,⟨n,by simp,Nat.zero_le _,h0⟩,?_⟩;rintro i m σ H ⟨rfl,hi,p⟩;by_cases hlt:i<n
 ·refine .inr ⟨hlt,Pv (i+1),fun σ' H' p'=>⟨n-(i+1),by lia,rfl,hlt,p'⟩,fun x H' y=>?_⟩;obtain⟨e,y⟩:=y;subst e y;exact hs i σ _ hlt p
 ·have e:i=n:=by lia
  subst e;exact .inl ⟨Nat.le_refl _,hd σ H p⟩
abbrev R2:=V->V->Hp->VK->Prop
def OpR(X:Cx)(f:Value->Value->Sem Value)(r:R2):Prop :=
 ∀(pins:List (Addr×Obj))(s:Shared)(σ : St)(H:Hp)(x y:V)(v u:Value)(Q:VK),Inv X pins σ H s->RelV x v->RelV y u->r x y H Q ->
  wpAny (model X.prog X.w) X.A (f v u) (EP X pins σ Q) X.xe s
def UnR(X:Cx)(f:Value->Sem Value)(r:V->Hp->VK->Prop):Prop :=
 ∀(pins:List (Addr×Obj))(s:Shared)(σ : St)(H:Hp)(x:V)(v:Value)(Q:VK),Inv X pins σ H s->RelV x v->r x H Q ->
  wpAny (model X.prog X.w) X.A (f v) (EP X pins σ Q) X.xe s
def Zb3(X:Cx)(f:Value)(r:List V->Hp->VK->Prop):Prop :=
 ∀(pins:List (Addr×Obj))(s:Shared)(σ : St)(H:Hp)(xs:List V)(us:List Value)(Q:VK),Inv X pins σ H s->Vals xs us->r xs H Q ->
  wpAny (model X.prog X.w) X.A (call f us) (EP X pins σ Q) X.xe s
def Zmw(X:Cx)(r:V->Hp->(Bool->Hp->Prop)->Prop):Prop :=
 ∀(pins:List (Addr×Obj))(s:Shared)(σ : St)(H:Hp)(x:V)(v:Value)(Q:Bool->Hp->Prop),Inv X pins σ H s->RelV x v->r x H Q ->
  wpAny (model X.prog X.w) X.A (truthy v) (TP X pins σ Q) X.xe s
def tOp(r:R2)(ta tb:TE):TE:=fun σ H Q=>ta σ H fun x H1=>tb σ H1 fun y H2=>r x y H2 Q
def tUn(r:V->Hp->VK->Prop)(ta:TE):TE:=fun σ H Q=>ta σ H fun x H1=>r x H1 Q
def rI(C:Int->Int->Prop)(g:Int->Int->V):R2:=fun x y H Q=>∃i j,x=.int i/\y=.int j/\C i j/\Q (g i j) H
def rI0(g:Int->Int->V):R2:=fun x y H Q=>∃i j,x=.int i/\y=.int j/\Q (g i j) H
def rU(g:Int->V):V->Hp->VK->Prop:=fun x H Q=>∃i,x=.int i/\Q (g i) H
section
variable{X:Cx}{a b c:Expr}{ta tb tc:TE}{pos:Pos}
theorem ZlK(ha:PE X a ta)(hb:PE X b tb){pins:List (Addr×Obj)}{s:Shared}{σ : St}{H:Hp}{R:V->V->Hp->Prop}(I:Inv X pins σ H s)
  (h:ta σ H fun x H1=>tb σ H1 fun y H2=>R x y H2) {Q:Value->Shared->Prop} {f:Value->Value->Sem Value}
  (hf:∀v u s2 x y H2,Inv X pins σ H2 s2->RelV x v->RelV y u->R x y H2->wpAny (model X.prog X.w) X.A (f v u) Q X.xe s2) :
  wpAny (model X.prog X.w) X.A (eval a X.env) (fun v s₁=>wpAny (model X.prog X.w) X.A (eval b X.env) (fun u s₂=>wpAny (model X.prog X.w) X.A (f v u) Q X.xe s₂) X.xe s₁) X.xe s:=by
 refine thn (ha pins s σ H _ I h) fun v s1 ⟨x,H1,I1,r1,q1⟩=>?_;refine thn (hb pins s1 σ H1 _ I1 q1) fun u s2 ⟨y,H2,I2,r2,q2⟩=>?_;exact hf v u s2 x y H2 I2 r1 r2 q2
theorem Zr{op:Operator}{r:R2}(ho:OpR X (binaryOp op) r)(ha:PE X a ta)(hb:PE X b tb):PE X (.BinOp a op b pos) (tOp r ta tb):=by
 intro pins s σ H Q I h;exact wpAny_BinOp (ZlK ha hb I h fun v u s2 x y H2 I2 rx ry q=>ho pins s2 σ H2 x y v u Q I2 rx ry q)
theorem ZeT{op:UnaryOp}{r:V->Hp->VK->Prop}(ho:UnR X (unaryOp op) r)(ha:PE X a ta):PE X (.UnaryOp op a pos) (tUn r ta):=by
 intro pins s σ H Q I h;exact UnaryOp_ (thn (ha pins s σ H _ I h) fun v s1 ⟨x,H1,I1,r1,q1⟩=>ho pins s1 σ H1 x v Q I1 r1 q1)
theorem opI{f:Value->Value->Sem Value}{C:Int->Int->Prop}{g:Int->Int->Int}
  (rule:∀(i j:Int)(t u:Tok)(s:Shared)(Q:Value->Shared->Prop)(E:Value->Shared->Prop),C i j->Q (.int (g i j) s.toks) { s with toks:=s.toks+1 }->wpAny (model X.prog X.w) X.A (f (.int i t) (.int j u)) Q E s) :
  OpR X f (rI C fun i j=>.int (g i j)):=by
 intro pins s σ H x y v u Q I rx ry h;obtain⟨i,j,rfl,rfl,hc,q⟩:=h;obtain⟨t,rfl⟩:=rx;obtain⟨t',rfl⟩:=ry;exact rule i j t t' s _ _ hc ⟨.int (g i j),H,I.tok _,⟨_,rfl⟩,q⟩
theorem ZmG{f:Value->Value->Sem Value}{g:Int->Int->Int}
  (rule:∀(i j:Int)(t u:Tok)(s:Shared)(Q:Value->Shared->Prop)(E:Value->Shared->Prop),Q (.int (g i j) s.toks) { s with toks:=s.toks+1 }->wpAny (model X.prog X.w) X.A (f (.int i t) (.int j u)) Q E s) :
  OpR X f (rI0 fun i j=>.int (g i j)):=by
 intro pins s σ H x y v u Q I rx ry h;obtain⟨i,j,rfl,rfl,q⟩:=h;obtain⟨t,rfl⟩:=rx;obtain⟨t',rfl⟩:=ry;exact rule i j t t' s _ _ ⟨.int (g i j),H,I.tok _,⟨_,rfl⟩,q⟩
theorem ZlX{f:Value->Value->Sem Value}{g:Int->Int->Bool}
  (rule:∀(i j:Int)(t u:Tok)(s:Shared)(Q:Value->Shared->Prop)(E:Value->Shared->Prop),Q (.bool (g i j)) s->wpAny (model X.prog X.w) X.A (f (.int i t) (.int j u)) Q E s) :
  OpR X f (rI0 fun i j=>.bl (g i j)):=by
 intro pins s σ H x y v u Q I rx ry h;obtain⟨i,j,rfl,rfl,q⟩:=h;obtain⟨t,rfl⟩:=rx;obtain⟨t',rfl⟩:=ry;exact rule i j t t' s _ _ ⟨.bl (g i j),H,I,rfl,q⟩
def Zmk(i j:Int):Prop:=0<j/\j<1073741824
def Zms(i j:Int):Prop:=0<=j/\j<=1000000/\i.natAbs<2 ^ 64
def ZlR(i j:Int):Prop:=(-(2 ^ 64)<i/\i<2 ^ 64)\/(-(2 ^ 64)<j/\j<2 ^ 64)
theorem ZlR.ok{i j:Int}(h:ZlR i j):IntMulOk i j:=by
 rcases h with⟨h1,h2⟩|⟨h1,h2⟩
 ·exact .of_left (intBits_le_64 h1 h2)
 ·exact .of_right (intBits_le_64 h1 h2)
theorem ZaZ:OpR X (binaryOp .Add) (rI0 fun i j=>.int (i+j)):=ZmG fun _ _ _ _ _ _ _ q=>add_int q
theorem ZcQ:OpR X (binaryOp .Mult) (rI ZlR fun i j=>.int (i*j)):=opI fun _ _ _ _ _ _ _ hc q=>mul_int q hc.ok
theorem Zat:OpR X (binaryOp .FloorDiv) (rI Zmk fun i j=>.int (i / j)):=opI fun i j _ _ _ _ _ hc q=>by
 have h1:(0:Int)<j:=hc.1;have h2:j<1073741824:=hc.2;exact floordiv_int (by lia) (by rw[Int.fdiv_eq_ediv_of_nonneg i (by lia)];exact q) (.inl (PyProof.noPylong_small (by lia)))
theorem ZV:OpR X (binaryOp .Mod) (rI (fun _ j=>0<j) fun i j=>.int (i % j)):=opI fun i j _ _ _ _ _ hc q=>by
 have h1:(0:Int)<j:=hc;exact mod_int' (by lia) (by rw[Int.fmod_eq_emod_of_nonneg i (by lia)];exact q)
theorem ZhW:OpR X (binaryOp .Pow) (rI Zms fun i j=>.int (i ^ j.toNat)):=opI fun _ _ _ _ _ _ _ hc q=>pow_int_small hc.1 hc.2.1 hc.2.2 q
theorem unI{f:Value->Sem Value}{g:Int->Int}
  (rule:∀(i:Int)(t:Tok)(s:Shared)(Q:Value->Shared->Prop)(E:Value->Shared->Prop),Q (.int (g i) s.toks) { s with toks:=s.toks+1 }->wpAny (model X.prog X.w) X.A (f (.int i t)) Q E s) :
  UnR X f (rU fun i=>.int (g i)):=by
 intro pins s σ H x v Q I rx h;obtain⟨i,rfl,q⟩:=h;obtain⟨t,rfl⟩:=rx;exact rule i t s _ _ ⟨.int (g i),H,I.tok _,⟨_,rfl⟩,q⟩
theorem ZcI:UnR X (unaryOp .USub) (rU fun i=>.int (-i)):=unI fun _ _ _ _ _ q=>neg_int q
end
def Zmb:V->V->Bool
 | .non,.non=>true | .non,.int _=>true | .int _,.non=>true | .non,.bl _=>true | .bl _,.non=>true | .non,.str _=>true | .str _,.non=>true
 | .int _,.int _=>true | .bl _,.bl _=>true | .str _,.str _=>true | .byt _,.byt _=>true
 | .int _,.str _=>true | .str _,.int _=>true | .bl _,.str _=>true | .str _,.bl _=>true
 | _,_=>false
def rEq:R2:=fun x y H Q=>Zmb x y=true/\Q (.bl (decide (x=y))) H
def rNe:R2:=fun x y H Q=>Zmb x y=true/\Q (.bl (!decide (x=y))) H
theorem Zih{i j:Int}:decide (V.int i=V.int j)=(i == j):=by
 rw[Bool.eq_iff_iff];simp
theorem ZjK{i j:Bool}:decide (V.bl i=V.bl j)=(i == j):=by
 rw[Bool.eq_iff_iff];simp
theorem Zh7{i j:Str}:decide (V.str i=V.str j)=(i == j):=by
 rw[Bool.eq_iff_iff];simp
theorem ZhD{i j:Array UInt8}:decide (V.byt i=V.byt j)=(i.toList == j.toList):=by
 rw[Bool.eq_iff_iff];cases i;cases j;simp
section
variable{X:Cx}{a b c:Expr}{ta tb tc:TE}{pos:Pos}
theorem Zaj{pins:List (Addr×Obj)}{σ : St}{H:Hp}{s:Shared}{Q:VK}{k k':Bool}(I:Inv X pins σ H s)(q:Q (.bl k) H)(e:k=k'):EP X pins σ Q (.bool k') s:=by
 subst e;exact⟨.bl k,H,I,rfl,q⟩
theorem Zb2:OpR X (compareOp .Eq) rEq:=by
 intro pins s σ H x y v u Q I rx ry h;obtain⟨hs,q⟩:=h;cases x with
 | non =>
  cases rx;cases y with
  | non=>cases ry;exact PySem.EqNone.eq_none_none (Zaj I q (by simp))
  | bl j=>cases ry;exact PySem.EqNone.eq_none_bool (Zaj I q (by simp))
  | int j=>obtain⟨t',rfl⟩:=ry;exact PySem.EqNone.eq_none_int (Zaj I q (by simp))
  | str j=>obtain⟨t',rfl⟩:=ry;exact PySem.EqNone.eq_none_str (Zaj I q (by simp))
  | _=>exact absurd (show false=true from hs) Bool.false_ne_true
 | bl i =>
  cases rx;cases y with
  | non=>cases ry;exact PySem.EqNone.eq_bool_none (Zaj I q (by simp))
  | bl j=>cases ry;exact eq_bool (Zaj I q ZjK)
  | str j=>obtain⟨t',rfl⟩:=ry;exact PySem.EqMixed.eq_bool_str (Zaj I q (by simp))
  | _=>exact absurd (show false=true from hs) Bool.false_ne_true
 | int i =>
  obtain⟨t,rfl⟩:=rx;cases y with
  | non=>cases ry;exact PySem.EqNone.eq_int_none (Zaj I q (by simp))
  | int j=>obtain⟨t',rfl⟩:=ry;exact eq_int (Zaj I q Zih)
  | str j=>obtain⟨t',rfl⟩:=ry;exact PySem.EqMixed.eq_int_str (Zaj I q (by simp))
  | _=>exact absurd (show false=true from hs) Bool.false_ne_true
 | str i =>
  obtain⟨t,rfl⟩:=rx;cases y with
  | non=>cases ry;exact PySem.EqNone.eq_str_none (Zaj I q (by simp))
  | bl j=>cases ry;exact PySem.EqMixed.eq_str_bool (Zaj I q (by simp))
  | int j=>obtain⟨t',rfl⟩:=ry;exact PySem.EqMixed.eq_str_int (Zaj I q (by simp))
  | str j=>obtain⟨t',rfl⟩:=ry;exact eq_str (Zaj I q Zh7)
  | _=>exact absurd (show false=true from hs) Bool.false_ne_true
 | byt i =>
  obtain⟨t,rfl⟩:=rx;cases y with
  | byt j=>obtain⟨t',rfl⟩:=ry;exact PySem.W.eq_bytes (Zaj I q ZhD)
  | _=>exact absurd (show false=true from hs) Bool.false_ne_true
 | _=>cases y <;> exact absurd (show false=true from hs) Bool.false_ne_true
theorem Zll:OpR X (compareOp .NotEq) rNe:=by
 intro pins s σ H x y v u Q I rx ry h;obtain⟨hs,q⟩:=h;cases x with
 | non =>
  cases rx;cases y with
  | non=>cases ry;exact PySem.EqNone.ne_none_none (Zaj I q (by simp))
  | bl j=>cases ry;exact PySem.EqNone.ne_none_bool (Zaj I q (by simp))
  | int j=>obtain⟨t',rfl⟩:=ry;exact PySem.EqNone.ne_none_int (Zaj I q (by simp))
  | str j=>obtain⟨t',rfl⟩:=ry;exact PySem.EqNone.ne_none_str (Zaj I q (by simp))
  | _=>exact absurd (show false=true from hs) Bool.false_ne_true
 | bl i =>
  cases rx;cases y with
  | non=>cases ry;exact PySem.EqNone.ne_bool_none (Zaj I q (by simp))
  | bl j=>cases ry;exact ne_bool (Zaj I q (congrArg not ZjK))
  | str j=>obtain⟨t',rfl⟩:=ry;exact PySem.EqMixed.ne_bool_str (Zaj I q (by simp))
  | _=>exact absurd (show false=true from hs) Bool.false_ne_true
 | int i =>
  obtain⟨t,rfl⟩:=rx;cases y with
  | non=>cases ry;exact PySem.EqNone.ne_int_none (Zaj I q (by simp))
  | int j=>obtain⟨t',rfl⟩:=ry;exact ne_int (Zaj I q (congrArg not Zih))
  | str j=>obtain⟨t',rfl⟩:=ry;exact PySem.EqMixed.ne_int_str (Zaj I q (by simp))
  | _=>exact absurd (show false=true from hs) Bool.false_ne_true
 | str i =>
  obtain⟨t,rfl⟩:=rx;cases y with
  | non=>cases ry;exact PySem.EqNone.ne_str_none (Zaj I q (by simp))
  | bl j=>cases ry;exact PySem.EqMixed.ne_str_bool (Zaj I q (by simp))
  | int j=>obtain⟨t',rfl⟩:=ry;exact PySem.EqMixed.ne_str_int (Zaj I q (by simp))
  | str j=>obtain⟨t',rfl⟩:=ry;exact ne_str (Zaj I q (congrArg not Zh7))
  | _=>exact absurd (show false=true from hs) Bool.false_ne_true
 | byt i =>
  obtain⟨t,rfl⟩:=rx;cases y with
  | byt j=>obtain⟨t',rfl⟩:=ry;exact PySem.W.ne_bytes (Zaj I q (congrArg not ZhD))
  | _=>exact absurd (show false=true from hs) Bool.false_ne_true
 | _=>cases y <;> exact absurd (show false=true from hs) Bool.false_ne_true
theorem Zjp:OpR X (compareOp .Lt) (rI0 fun i j=>.bl (decide (i<j))):=ZlX fun _ _ _ _ _ _ _ q=>lt_int q
theorem Zkx:OpR X (compareOp .LtE) (rI0 fun i j=>.bl (decide (i<=j))):=ZlX fun _ _ _ _ _ _ _ q=>le_int q
theorem ZiS:OpR X (compareOp .Gt) (rI0 fun i j=>.bl (decide (j<i))):=ZlX fun _ _ _ _ _ _ _ q=>gt_int q
theorem ZdH:OpR X (compareOp .Is) (fun x y H Q=>y=.non/\Q (.bl (decide (x=.non))) H):=by
 intro pins s σ H x y v u Q I rx ry h;obtain⟨rfl,q⟩:=h;cases ry;refine is_none_gen (Zaj I q ?_);cases x <;> first
  | (cases rx;rfl)
  | (obtain⟨t,rfl⟩:=rx;rfl)
theorem Z2(b:Expr){op:CmpOp}(h:op ≠ .In:=by decide)(h2:op ≠ .NotIn:=by decide):behindInMarks op b=false:=by
 have e1:(op == CmpOp.In)=false:=by cases op <;> first|rfl|exact absurd rfl h
 have e2:(op == CmpOp.NotIn)=false:=by cases op <;> first|rfl|exact absurd rfl h2
 cases b <;> simp[behindInMarks,e1,e2]
theorem ZbK{op:CmpOp}{r:R2}(ho:OpR X (compareOp op) r)(ha:PE X a ta)(hb:PE X b tb)(hm:behindInMarks op b=false):PE X (.Compare a [op] [b] pos) (tOp r ta tb):=by
 intro pins s σ H Q I h;exact wpAny_Compare1 (ZlK ha hb I h fun v u s2 x y H2 I2 rx ry q=>ho pins s2 σ H2 x y v u Q I2 rx ry q) hm
def ZlN(t:TE):TT:=fun σ H Q=>t σ H fun x H'=>∃k,x=.bl k/\Q k H'
theorem ZQ{op:CmpOp}{r:R2}(ho:OpR X (compareOp op) r)(ha:PE X a ta)(hb:PE X b tb)(hm:behindInMarks op b=false):PT X (.Compare a [op] [b] pos) (ZlN (tOp r ta tb)):=by
 intro pins s σ H Q I h;refine wpAny_isTrue_Compare1 (thn (ha pins s σ H _ I h) fun v s1 ⟨x,H1,I1,r1,q1⟩=>thn (hb pins s1 σ H1 _ I1 q1) fun u s2 ⟨y,H2,I2,r2,q2⟩ =>
  thn (ho pins s2 σ H2 x y v u _ I2 r1 r2 q2) fun c s3 ⟨z,H3,I3,r3,k,e,q3⟩=>?_) hm
 subst e;cases r3;exact wpAny_truthy_bool ⟨H3,I3,q3⟩
def Zk4(r r':R2)(ta tb tc:TE):TE:=fun σ H Q=>ta σ H fun x H1=>tb σ H1 fun y H2=>r x y H2 fun z H3=>∃k,z=.bl k /\
 (if k=true then tc σ H3 fun w' H4=>r' y w' H4 Q else Q (.bl false) H3)
theorem Zjl{op op':CmpOp}{r r':R2}(ho:OpR X (compareOp op) r)(ho':OpR X (compareOp op') r')(ha:PE X a ta)(hb:PE X b tb)(hc:PE X c tc)
  (hm:lastMarks [op,op'] [b,c]=false:=by with_unfolding_all rfl):PE X (.Compare a [op,op'] [b,c] pos) (Zk4 r r' ta tb tc):=by
 intro pins s σ H Q I h;refine Compare_chain (thn (ha pins s σ H _ I h) fun v s1 ⟨x,H1,I1,r1,q1⟩=>chain_link (thn (hb pins s1 σ H1 _ I1 q1) fun u s2 ⟨y,H2,I2,r2,q2⟩ =>
  thn (ho pins s2 σ H2 x y v u _ I2 r1 r2 q2) fun d s3 ⟨z,H3,I3,r3,k,e,q3⟩=>?_)) hm
 subst e;cases r3;refine wpAny_truthy_bool ?_;cases k with
 | false=>exact ite_ff ⟨.bl false,H3,I3,rfl,q3⟩
 | true=>exact ite_tt (chain_last (thn (hc pins s3 σ H3 _ I3 q3) fun w' s4 ⟨z',H4,I4,r4,q4⟩=>ho' pins s4 σ H4 y z' u w' Q I4 r2 r4 q4))
def ZlB(K:PySem.W.Frag)(x:V)(H:Hp)(k:Bool):Prop :=
 match x with
 | .non=>k=false
 | .bl b=>k=b
 | .int i=>k=(i != 0)
 | .str y=>y.length<=sizeLine/\k=((y.length:Int) != 0)
 | .byt y=>y.size<=sizeLine/\k=((y.size:Int) != 0)
 | .ref p=>(∃xs,SqL K H p xs/\k= !xs.isEmpty)\/(∃xs,SqT K H p xs/\k= !xs.isEmpty)\/∃kvs,H p=some (.dK kvs)/\k= !kvs.isEmpty
 | _=>False
theorem Zhh{κ : Type}{kvs:List (κ × V)}{vs:List (κ × Value)}(r:KV kvs vs):(!vs.isEmpty)= !kvs.isEmpty:=by
 cases r <;> rfl
theorem Zd5{xs:List V}{its:List Value}(r:Vals xs its):(!its.toArray.isEmpty)= !xs.isEmpty:=by
 cases r <;> simp
theorem Zds:(sizeLine:Nat)<2 ^ 63:=by rw[sizeLine_eq];decide
theorem ZjC:Zmw X (fun x H Q=>∃k,ZlB X.K x H k/\Q k H):=by
 intro pins s σ H x v Q I rx h;obtain⟨k,e,q⟩:=h;have hl:=Zds;have hs:sizeLine=16777216:=sizeLine_eq;cases x with
 | non =>
  cases rx;have e':k=false:=e;subst e';exact truthy_none ⟨H,I,q⟩
 | bl b =>
  cases rx;have e':k=b:=e;subst e';exact wpAny_truthy_bool ⟨H,I,q⟩
 | int i =>
  obtain⟨t,rfl⟩:=rx;have e':k=(i != 0):=e;subst e';exact PySem.P.truthy_int ⟨H,I,q⟩
 | str y =>
  obtain⟨t,rfl⟩:=rx;obtain⟨hy,e'⟩:y.length<=sizeLine/\k=((y.length:Int) != 0):=e;subst e';exact PySem.P.truthy_str (by lia) ⟨H,I.tok _,q⟩
 | byt y =>
  obtain⟨t,rfl⟩:=rx;obtain⟨hy,e'⟩:y.size<=sizeLine/\k=((y.size:Int) != 0):=e;subst e';exact PySem.W.truthy_bytes (by lia) ⟨H,I.tok _,q⟩
 | ref p =>
  cases rx;have e':(∃xs,SqL X.K H p xs/\k= !xs.isEmpty)\/(∃xs,SqT X.K H p xs/\k= !xs.isEmpty)\/∃kvs,H p=some (.dK kvs)/\k= !kvs.isEmpty:=e;rcases e' with⟨xs,hx,e'⟩|⟨xs,hx,e'⟩|⟨kvs,hx,e'⟩
  ·subst e';obtain⟨its,r,pl,hz⟩:=I.list hx;have hlen:=r.length;exact wpAny_truthy_list pl.isList (by simp only[List.size_toArray];lia) ⟨H,I.tok _,by rw[Zd5 r];exact q⟩
  ·subst e';obtain⟨its,r,pl,hz⟩:=I.tuple hx;have hlen:=r.length;exact truthy_tuple pl (by simp only[List.size_toArray];lia) ⟨H,I.tok _,by rw[Zd5 r];exact q⟩
  ·subst e';obtain⟨hz,hS,vs,r,m⟩:kvs.length<=sizeLine/\(p == sysModules)=false/\∃vs,KV kvs vs/\s.heap.DictOf (Zao X.prog X.w) p vs:=I.hok p _ hx;have hlen:kvs.length=vs.length:=Paired.length r;exact wpAny_truthy_dict hS m (by lia) ⟨H,I.tok _,by rw[Zhh r];exact q⟩
 | _=>exact(show False from e).elim
theorem Z7(ha:PE X a ta)(he:∀whole,isTrue a X.env whole=(do let v <- whole;standAt a.pos;holding [v] (truthy v))) :
  PT X a (fun σ H Q=>ta σ H fun x H'=>∃k,ZlB X.K x H' k/\Q k H'):=by
 intro pins s σ H Q I h;exact isTrue_plain (thn (ha pins s σ H _ I h) fun v s1 ⟨x,H1,I1,r1,q1⟩=>ZjC pins s1 σ H1 x v Q I1 r1 q1) (he _)
theorem Zd6:OpR X (binaryOp .Add) (fun x y H Q=>∃i j,x=.str i/\y=.str j/\i.length+j.length<=sizeLine/\Q (.str (i++j)) H):=by
 intro pins s σ H x y v u Q I rx ry h;obtain⟨i,j,rfl,rfl,hz,q⟩:=h;obtain⟨t,rfl⟩:=rx;obtain⟨t',rfl⟩:=ry;exact add_str (fun t' tk=>⟨.str (i++j),H,I.tok _,⟨_,rfl⟩,q⟩) hz
theorem vals1{x:V}{us:List Value}(r:Vals [x] us):∃u,us=[u]/\RelV x u:=by
 cases r with
 | cons r1 r2=>cases r2;exact⟨_,rfl,r1⟩
end
structure ObjM(h:Heap)(x dx C:Addr)(mA:Str->Option Value):Prop where
 obj:h.get? x=some (PySem.W.instObj C dx)
 ns:h.Ns1 dx mA
 ne:dx≠x
theorem ZiA{h:Heap}{dx:Addr}{mA:Str->Option Value}(n:h.Ns1 dx mA):∃od,h.get? dx=some od/\∀name,PySem.W.lookIn name od=some (mA name):=by
 obtain⟨o,es,ep,ho,hd,hk,_,hm⟩:=n;refine⟨o,ho,fun name=>?_⟩;have e:=hm name;unfold nsFind findBy at e;rw[<- Array.find?_toList] at e;unfold PySem.W.lookIn;rw[hd];dsimp only
 split
 ·rename_i y q
  rw[q] at e;exact congrArg some e
 ·rename_i q
  rw[q] at e;have a:es.toList.any (·.refKey)=false:=by
   rw[List.any_eq_false];intro y hy;obtain⟨z,t,hkey⟩:=hk y (Array.mem_toList_iff.mp hy);simp[DictEntry.refKey,hkey]
  have a' : ¬ es.toList.any (·.refKey)=true:=by rw[a];exact Bool.false_ne_true
  rw[if_neg a'];exact congrArg some e
theorem ObjM.look{h:Heap}{x dx C:Addr}{mA:Str->Option Value}(I:ObjM h x dx C mA):∃od,PySem.W.InstAt h x (PySem.W.instObj C dx) C (some od)/\∀name,PySem.W.lookIn name od=some (mA name) :=
 let ⟨od,ho,hl⟩:=ZiA I.ns
 ⟨od,⟨I.obj,rfl,rfl,ho⟩,hl⟩
section
variable{prog:Program}{w:World}{A:Around}{E:Value->Shared->Prop}{s:Shared}{K:PySem.W.Frag}{x dx C f:Addr}{mA:Str->Option Value}{name:Str}{v:Value}
theorem Zj3{expr:Bool}{Q:Value->Shared->Prop}(X:K.In s.heap)(I:ObjM s.heap x dx C mA)(hg:PySem.W.plainGet K C name=true)(hh:PySem.W.hasDictIn K C=true)
  (ha:PySem.W.findIn K (.ref C) name=some none) (hv:mA name=some v) (hv':PySem.W.handedIn v=true) (h:Q v { s with toks:=s.toks+1 }) :
  wpAny (model prog w) A (getAttr (.ref x) name expr) Q E s:=by
 obtain⟨od,J,hl⟩:=I.look;exact PySem.W.get_value X J (PySem.W.plainGet_of hg).1 (PySem.W.findObj_own hh ha rfl (by rw[hl,hv])) hv' h
theorem Zi4{pl:Sem Bool}{Q:Value×List Value->Shared->Prop}(X:K.In s.heap)(I:ObjM s.heap x dx C mA)(hg:PySem.W.plainGet K C name=true)
  (hf:PySem.W.findIn K (.ref C) name=some (some (.ref f))) (ht:PySem.W.isFn K (.ref f)=true) (hv:mA name=none) (h:Q (.ref f,[.ref x]) s) :
  wpAny (model prog w) A (getMethod (.ref x) name pl) Q E s:=by
 obtain⟨od,J,hl⟩:=I.look;exact PySem.W.method_fn X J (PySem.W.plainGet_of hg).1 (PySem.W.plainGet_of hg).2 hf (beq_iff_eq.mp ht) (by show(PySem.W.lookIn name od).map (·.isSome)=some false;rw[hl,hv];rfl) h
theorem Zkw{ns:List Str}{Q:Unit->Shared->Prop}(X:K.In s.heap)(I:ObjM s.heap x dx C mA)
  (hs:PySem.W.findIn K (.ref C) "__setattr__" = some (some (.builtin "object.__setattr__"))) (hp:PySem.W.plainOver K C=true) (ht:PySem.W.takerIn K C name=some none) (hh:PySem.W.hasDictIn K C=true)
  (hw:PySem.Within mA ns) (hsz:ns.length<=sizeLine)
  (h:∀h',ObjM h' x dx C (fun y=>if y=name then some v else mA y)->Heap.SameBut dx s.heap h'->Q () { s with heap:=h',toks:=s.toks+2 }) :
  wpAny (model prog w) A (setAttr (.ref x) name v) Q E s:=by
 obtain⟨od,J,hl⟩:=I.look;refine PySem.W.set_plain X J hs (PySem.W.osa_open (s:={ s with toks:=s.toks+1 }) (r:=none) X J hp ht fun b=>?_);obtain⟨cd,hc,hd'⟩:=PySem.W.any_some hh;have hx:s.heap.get? x=some ⟨.ref C,some dx,.plain,#[]⟩:=I.obj;refine wpAny_bind (wpAny_pure (wpAny_bind (wpAny_bind (wpAny_loadPart hx (wpAny_bind (PySem.W.Looks.here (s:={ s with toks:=s.toks+1 }) (PySem.W.looks_clsIn X hc) ?_))))));rw[hd'];refine wpAny_pure (a:=some dx) (wpAny_bind (wpAny_pure (wpAny_bind ?_)));refine wpAny_nsSet1 (s:={ s with toks:=s.toks+1 }) I.ns fun h' hn2 hs2=>?_;obtain⟨oD,esD,epD,hoD,hdD,hcD⟩:=hn2.count (PySem.Within.cons name v hw);refine wpAny_bind (wpAny_lookBehind hoD (by rw[hdD];exact pastItsLine_dict (Nat.le_trans hcD (by rw[List.length_cons];lia))) ?_);exact wpAny_pure (h _ ⟨(hs2.2 _ (Ne.symm I.ne)).trans I.obj,hn2,I.ne⟩ hs2)
theorem ZiL{R:Result->Shared->Prop}{vs:List Value}{kw:List (Str×Value)}(X:K.In s.heap)(hm:PySem.W.makesIn K C=true)
  (hi:PySem.W.findIn K (.ref C) "__init__" = some (some (.ref f))) (hf:PySem.W.typeIn K (.ref f)=some (.type "function"))
  (h:codeAny (model prog w) (A.under (.builtin "type.__call__" ⟨.ref C::vs,kw⟩)) (.call (.ref f) ⟨.ref (s.heap.objs.size+1)::vs,kw⟩) (PySem.W.InitBack (s.heap.objs.size+1) R)
   { s with heap:=(s.heap.push PySem.W.emptyDict).push (PySem.W.instObj C s.heap.objs.size) }) :
  codeAny (model prog w) A (.call (.ref C) ⟨vs,kw⟩) R s:=by
 obtain⟨hh,g,d,t,os⟩:=s;exact PySem.W.make_core (PySem.W.makes_of X hm) (PySem.W.looks_findIn X hi) (fun self=>PySem.W.bind_fn X self hf) (.inl rfl) h
end
def Zas(f:Str)(v:V):List (Str×V)->List (Str×V)
 | []=>[(f,v)]
 | (g,x)::r=>if g=f then(g,v)::r else(g,x)::Zas f v r
theorem ZdF(f g:Str)(v:V):∀fs:List (Str×V),(Zas f v fs).lookup g=if g=f then some v else fs.lookup g
 | []=>by
  show List.lookup g [(f,v)]=_;by_cases h:g=f
  ·have hb:(g == f)=true:=beq_iff_eq.mpr h;simp only[List.lookup,hb,if_pos h]
  ·have hb:(g == f)=false:=beq_eq_false_iff_ne.mpr h;simp only[List.lookup,hb,if_neg h]
 | (k,x)::r=>by
  have ih:=ZdF f g v r;rw[show Zas f v ((k,x)::r)=(if k=f then(k,v)::r else(k,x)::Zas f v r) from rfl]
  by_cases hk:k=f
  ·rw[if_pos hk];by_cases h:g=k
   ·have hb:(g == k)=true:=beq_iff_eq.mpr h;simp only[List.lookup,hb,if_pos (h.trans hk)]
   ·have hb:(g == k)=false:=beq_eq_false_iff_ne.mpr h;simp only[List.lookup,hb,if_neg (fun e:g=f=>h (e.trans hk.symm))]
  ·rw[if_neg hk];by_cases h:g=k
   ·have hb:(g == k)=true:=beq_iff_eq.mpr h;simp only[List.lookup,hb,if_neg (fun e:g=f=>hk (h.symm.trans e))]
   ·have hb:(g == k)=false:=beq_eq_false_iff_ne.mpr h;simp only[List.lookup,hb];exact ih
theorem ZdI(f:Str)(v:V):∀fs:List (Str×V),f∈(Zas f v fs).map (·.1)/\∀g,g∈fs.map (·.1)->g∈(Zas f v fs).map (·.1)
 | []=>⟨by simp[Zas],fun g h=>by simp at h⟩
 | (k,x)::r=>by
  obtain⟨i1,i2⟩:=ZdI f v r;rw[show Zas f v ((k,x)::r)=(if k=f then(k,v)::r else(k,x)::Zas f v r) from rfl]
  by_cases hk:k=f
  ·rw[if_pos hk];subst hk;exact⟨by simp,fun g h=>by simpa using h⟩
  ·rw[if_neg hk];refine⟨?_,fun g h=>?_⟩
   ·rw[List.map_cons];exact List.mem_cons_of_mem _ i1
   ·rw[List.map_cons] at h ⊢;rcases List.mem_cons.mp h with e|e
    ·exact List.mem_cons.mpr (.inl e)
    ·exact List.mem_cons_of_mem _ (i2 g e)
theorem Zdt(f:Str)(v:V):∀fs:List (Str×V),(Zas f v fs).length<=fs.length+1
 | []=>by simp[Zas]
 | (k,x)::r=>by
  have ih:=Zdt f v r;rw[show Zas f v ((k,x)::r)=(if k=f then(k,v)::r else(k,x)::Zas f v r) from rfl]
  by_cases hk:k=f
  ·rw[if_pos hk,List.length_cons,List.length_cons];lia
  ·rw[if_neg hk,List.length_cons,List.length_cons];lia
theorem ZeO.some_of{v:V}{o:Option Value}(r:ZeO (some v) o):∃u,o=some u/\RelV v u:=by
 cases o with
 | none=>exact(show False from r).elim
 | some u=>exact⟨u,rfl,r⟩
theorem ZeO.none_of{o:Option Value}(r:ZeO none o):o=none:=by
 cases o with
 | none=>rfl
 | some u=>exact(show False from r).elim
theorem ZhZ{v:V}{u:Value}(r:RelV v u):PySem.W.handedIn u=true:=by
 cases v with
 | non=>cases (show u=Value.none from r);rfl
 | bl b=>cases (show u=Value.bool b from r);rfl
 | int i=>obtain⟨t,e⟩:=(show ∃t,u=Value.int i t from r);cases e;rfl
 | str x=>obtain⟨t,e⟩:=(show ∃t,u=Value.str x t from r);cases e;rfl
 | byt b=>obtain⟨t,e⟩:=(show ∃t,u=Value.bytes b t from r);cases e;rfl
 | flt b=>obtain⟨t,e⟩:=(show ∃t,u=Value.float b t from r);cases e;rfl
 | ref a=>cases (show u=Value.ref a from r);rfl
 | ty n=>cases (show u=Value.type n from r);rfl
section
variable{P:Program}{w:World}{H H':Hp}{h h':Heap}{a C dx:Addr}{fs fs':List (Str×V)}
theorem ZeL(hok:HOk P w H h)(e:H a=some (.ins C dx fs)):∃mA,ObjM h a dx C mA/\(∀f,ZeO (fs.lookup f) (mA f))/\PySem.Within mA (fs.map (·.1))/\fs.length<=1000/\H dx=some (.own a):=by
 obtain⟨d,z,ne,ob,mA,n,r,q⟩:=(show Zaz P w H h a (.ins C dx fs) from hok a _ e);exact⟨mA,⟨ob,n,ne⟩,r,q,z,d⟩
end
structure Cls(K:PySem.W.Frag)(C:Addr):Prop where
 pg:PySem.W.plainGet K C Str.empty=true
 hd:PySem.W.hasDictIn K C=true
 po:PySem.W.plainOver K C=true
 sa:PySem.W.findIn K (.ref C) "__setattr__" = some (some (.builtin "object.__setattr__"))
theorem Cls.get{K:PySem.W.Frag}{C:Addr}(c:Cls K C)(f:Str):PySem.W.plainGet K C f=true:=c.pg
def ZaO(K:PySem.W.Frag)(C:Addr)(f:Str):Prop:=PySem.W.findIn K (.ref C) f=some none
theorem ZaO.taker{K:PySem.W.Frag}{C:Addr}{f:Str}(n:ZaO K C f):PySem.W.takerIn K C f=some none:=by
 unfold PySem.W.takerIn;rw[show PySem.W.findIn K (.ref C) f=some none from n];rfl
structure Meth(K:PySem.W.Frag)(C:Addr)(m:Str)(f:Addr):Prop where
 at_:PySem.W.findIn K (.ref C) m=some (some (.ref f))
 fn:PySem.W.isFn K (.ref f)=true
 kp:PySem.W.keepIn K (.ref f)=true
section
variable{X:Cx}{pins:List (Addr×Obj)}{σ : St}{H:Hp}{s:Shared}{a C dx:Addr}{fs:List (Str×V)}{f:Str}{v:V}{A:Around}{E:Value->Shared->Prop}
theorem Zd0{b:Bool}{Q:Value->Shared->Prop}(I:Inv X pins σ H s)(e:H a=some (.ins C dx fs))(c:Cls X.K C)(n:ZaO X.K C f)(l:fs.lookup f=some v)
  (h:∀u s',Inv X pins σ H s'->RelV v u->Q u s'):wpAny (model X.prog X.w) A (getAttr (.ref a) f b) Q E s:=by
 obtain⟨mA,O,r,_,_,_⟩:=ZeL I.hok e;obtain⟨u,hu,ru⟩:=ZeO.some_of (v:=v) (o:=mA f) (by rw[<- l];exact r f);exact Zj3 I.kIn O (c.get f) c.hd n hu (ZhZ ru) (h u _ (I.tok _) ru)
theorem Zd8{m:Str}{g:Addr}{pl:Sem Bool}{Q:Value×List Value->Shared->Prop}(I:Inv X pins σ H s)(e:H a=some (.ins C dx fs))(c:Cls X.K C)(k:Meth X.K C m g)(l:fs.lookup m=none)
  (h:Q (.ref g,[.ref a]) s):wpAny (model X.prog X.w) A (getMethod (.ref a) m pl) Q E s:=by
 obtain⟨mA,O,r,_,_,_⟩:=ZeL I.hok e;have hn:mA m=none:=ZeO.none_of (by rw[<- l];exact r m);exact Zi4 I.kIn O (c.get m) k.at_ k.fn hn h
theorem Zea{y:V}{u:Value}{Q:Unit->Shared->Prop}(I:Inv X pins σ H s)(e:H a=some (.ins C dx fs))(c:Cls X.K C)(n:ZaO X.K C f)(hl:fs.length<1000)(ry:RelV y u)
  (h:∀s',Inv X pins σ (upd H a (.ins C dx (Zas f y fs))) s'->Q () s'):wpAny (model X.prog X.w) A (setAttr (.ref a) f u) Q E s:=by
 obtain⟨mA,O,r,wi,_,ho⟩:=ZeL I.hok e;have hz:(fs.map (·.1)).length<=sizeLine:=by rw[List.length_map,sizeLine_eq];lia
 refine Zkw I.kIn O c.sa c.po n.taker c.hd wi hz fun h' O' sb=>h _ ?_;have hd:∃o,h'.get? dx=some o:=let ⟨o,_,_,e',_⟩:=O'.ns;⟨o,e'⟩;refine I.write (x:=a) (e:=dx) (by rw[e];exact True.intro) (.inr ho) (fun b q hb z=>(sb.2 b hb).trans z) hd ?_;refine⟨by rw[Zd O.ne];exact ho,?_,O.ne,O'.obj,_,O'.ns,fun g=>?_,fun g hg=>?_⟩
 ·have:=Zdt f y fs;lia
 ·show ZeO ((Zas f y fs).lookup g) (if g=f then some u else mA g)
  rw[ZdF];by_cases q:g=f
  ·rw[if_pos q,if_pos q];exact ry
  ·rw[if_neg q,if_neg q];exact r g
 ·by_cases q:g=f
  ·rw[q];exact(ZdI f y fs).1
  ·refine(ZdI f y fs).2 g (wi g fun z=>hg ?_);show(if g=f then some u else mA g)=none
   rw[if_neg q];exact z
theorem Inv.made(I:Inv X pins σ H s):Inv X pins σ (upd (upd H s.heap.objs.size (.own (s.heap.objs.size+1))) (s.heap.objs.size+1) (.ins C s.heap.objs.size []))
  { s with heap:=(s.heap.push PySem.W.emptyDict).push (PySem.W.instObj C s.heap.objs.size) }:=by
 have e1:(s.heap.push PySem.W.emptyDict).get? s.heap.objs.size=some PySem.W.emptyDict:=Heap.get?_push_size s.heap rfl;have e2:((s.heap.push PySem.W.emptyDict).push (PySem.W.instObj C s.heap.objs.size)).get? (s.heap.objs.size+1)=some (PySem.W.instObj C s.heap.objs.size):=by
  have:=Heap.get?_push_size (s.heap.push PySem.W.emptyDict) (o:=PySem.W.instObj C s.heap.objs.size) rfl
  rwa [Heap.size_push] at this
 have e3:(s.heap.push PySem.W.emptyDict).Ns s.heap.objs.size (fun _=>none):=⟨PySem.W.emptyDict,#[],_,e1,rfl,(fun e he=>absurd he (by simp)),fun _=>rfl⟩;have I1:=I.laid (a:=s.heap.objs.size) (o:=.own (s.heap.objs.size+1)) (h':=s.heap.push PySem.W.emptyDict) (t':=s.toks) (fun b u q=>Heap.get?_push_of_some _ q) (Nat.le_refl _) ⟨_,e1⟩;refine I1.laid (a:=s.heap.objs.size+1) (o:=.ins C s.heap.objs.size []) (t':=s.toks) (fun b u q=>Heap.get?_push_of_some _ q) (Nat.le_of_eq (Heap.size_push _ _)) ?_;have ne:s.heap.objs.size≠s.heap.objs.size+1:=Nat.ne_of_lt (Nat.lt_succ_self _);refine⟨by rw[Zd ne,Zb],Nat.zero_le _,ne,e2,fun _=>none,(Heap.Ns1.of_empty e3).at fun o q=>Heap.get?_push_of_some _ q,fun _=>True.intro,fun y hy=>absurd rfl hy⟩
theorem Zj2{prog:Program}{w:World}{env:Env}{e:Expr}{f:Str}{pos:Pos}{s:Shared}{Q:Value->Shared->Prop}(hb:attributeBase e f env (eval e env)=eval e env)
  (h:wpAny (model prog w) A (eval e env) (fun o s₁=>wpAny (model prog w) A (getAttr o f true) Q E s₁) E s):wpAny (model prog w) A (eval (.Attribute e f pos) env) Q E s :=
 Attribute_any_ h (by rw[arm_eval_Attribute,hb])
end
def Zmd(K:PySem.W.Frag)(ta:TE)(f:Str):TE:=fun σ H Q=>ta σ H fun x H1=>∃a C dx fs v,x=.ref a/\H1 a=some (.ins C dx fs)/\Cls K C/\ZaO K C f/\fs.lookup f=some v/\Q v H1
def ZmJ(K:PySem.W.Frag)(ta tv:TE)(f:Str):TS:=fun D σ H=>tv σ H fun y H1=>ta σ H1 fun x H2=>∃a C dx fs,x=.ref a/\H2 a=some (.ins C dx fs)/\Cls K C/\ZaO K C f/\fs.length<1000 /\
 D.nx σ (upd H2 a (.ins C dx (Zas f y fs)))
def Zl7(X:Cx)(op:Operator)(rd:V->V->Hp->VK->Prop):Prop :=
 ∀(pins:List (Addr×Obj))(s:Shared)(σ : St)(H:Hp)(x y:V)(u v:Value)(Q:VK),Inv X pins σ H s->RelV x u->RelV y v->rd x y H Q->wpAny (model X.prog X.w) X.A (inplaceOp op u v) (EP X pins σ Q) X.xe s
def ZkD(K:PySem.W.Frag)(ta tv:TE)(rd:V->V->Hp->VK->Prop)(f:Str):TS:=fun D σ H=>ta σ H fun x H1=>∃a C dx fs v,x=.ref a/\H1 a=some (.ins C dx fs)/\Cls K C/\ZaO K C f/\fs.lookup f=some v /\
 tv σ H1 fun y H2=>rd v y H2 fun z H3=>∃dx' fs',H3 a=some (.ins C dx' fs')/\fs'.length<1000/\D.nx σ (upd H3 a (.ins C dx' (Zas f z fs')))
section
variable{X:Cx}{o e value:Expr}{f:Str}{pos pos' tpos:Pos}{ta tv:TE}
theorem Zaf(he:PE X e ta)(hb:attributeBase e f X.env (eval e X.env)=eval e X.env):PE X (.Attribute e f pos) (Zmd X.K ta f):=by
 intro pins s σ H Q I h;refine Zj2 hb (thn (he pins s σ H _ I h) fun u s1 ⟨x,H1,I1,rx,a,C,dx,fs,v,ex,ea,c,n,l,q⟩=>?_);subst ex;obtain rfl:u=Value.ref a:=rx;exact Zd0 I1 ea c n l fun u' s2 I2 ru=>⟨v,H1,I2,ru,q⟩
theorem Zbr(ha:PE X o ta)(hv:PE X value tv)(hs:swapsWith value (some (.Attribute o f pos')) pos.line X.env=pure false):PS X (.Assign [.Attribute o f pos'] value pos) (ZmJ X.K ta tv f):=by
 intro pins s σ H D I h;refine plainObj_wpAny_Assign_Attribute (thn (hv pins s σ H _ I h) fun u s1 ⟨y,H1,I1,ry,q⟩=>thn (ha pins s1 σ H1 _ I1 q) fun ov s2 ⟨x,H2,I2,rx,a,C,dx,fs,ex,ea,c,n,l,q2⟩=>?_) hs;subst ex;obtain rfl:ov=Value.ref a:=rx;exact Zea I2 ea c n l ry fun s3 I3=>⟨σ,_,I3,q2⟩
theorem Zfn{op:Operator}{rd:V->V->Hp->VK->Prop}(ha:PE X o ta)(hv:PE X value tv)(hop:Zl7 X op rd):PS X (.AugAssign (.Attribute o f tpos) op value pos) (ZkD X.K ta tv rd f):=by
 intro pins s σ H D I h;refine wpAny_AugAssign_AttributeAny (thn (ha pins s σ H _ I h) fun ov s1 ⟨x,H1,I1,rx,a,C,dx,fs,v,ex,ea,c,n,l,q⟩=>?_);subst ex;obtain rfl:ov=Value.ref a:=rx;refine Zd0 I1 ea c n l fun u s2 I2 ru=>thn (hv pins s2 σ H1 _ I2 q) fun w3 s3 ⟨y,H2,I3,ry,q3⟩=>thn (hop pins s3 σ H2 v y u w3 _ I3 ru ry q3) fun w4 s4 ⟨z,H3,I4,rz,dx',fs',ea',l',q4⟩=>?_;exact Zea I4 ea' c n l' rz fun s5 I5=>⟨σ,_,I5,q4⟩
def Zmh:V->V->Hp->VK->Prop:=fun x y H Q=>∃i j,x=.int i/\y=.int j/\Q (.int (i+j)) H
theorem Zju:Zl7 X .Add Zmh:=by
 rintro pins s σ H x y u v Q I rx ry ⟨i,j,rfl,rfl,q⟩;obtain⟨t,rfl⟩:=(show ∃t,u=Value.int i t from rx);obtain⟨t',rfl⟩:=(show ∃t',v=Value.int j t' from ry);exact PyProof.Rows.iadd_int ⟨.int (i+j),H,I.tok _,⟨_,rfl⟩,q⟩
end
section
variable{X:Cx}{pins:List (Addr×Obj)}{σ : St}{H:Hp}{s:Shared}{A:Around}{E:Value->Shared->Prop}{Q:Value->Shared->Prop}{c:Value}{b:Bool}
inductive TyOf(K:PySem.W.Frag)(H:Hp):V->Value->Prop where
 | non:TyOf K H .non (.type "NoneType")
 | bl (x:Bool):TyOf K H (.bl x) (.type "bool")
 | int (i:Int):TyOf K H (.int i) (.type "int")
 | str (x:Str):TyOf K H (.str x) (.type "str")
 | flt (x:UInt64):TyOf K H (.flt x) (.type "float")
 | lst {a:Addr} {xs:List V} (e:H a=some (.lst xs)):TyOf K H (.ref a) (.type "list")
 | frz {a:Addr} {o:Obj} {xs:List V} (e:H a=some (.frz o (.lst xs))):TyOf K H (.ref a) (.type "list")
 | tup {a:Addr} {xs:List V} (e:H a=some (.tup xs)):TyOf K H (.ref a) (.type "tuple")
 | dK {a:Addr} {kvs:List (Key×V)} (e:H a=some (.dK kvs)):TyOf K H (.ref a) (.type "dict")
 | dT {a:Addr} {kvs:List (List Key×V)} (e:H a=some (.dT kvs)):TyOf K H (.ref a) (.type "dict")
 | ins {a C dx:Addr} {fs:List (Str×V)} (e:H a=some (.ins C dx fs)) (cl:Cls K C) (ha:PySem.W.findIn K (.ref C) "__class__" = some (some (.builtin "object.__class__")))
   (hn:PySem.W.specialIn K (.builtin "object.__class__") "__get__" = some (some (.builtin "getset_descriptor.__get__"))) (htk:PySem.W.takesIn K (.builtin "object.__class__")=some true)
   (hm:PySem.W.mroIn K C (.type "object")=some true):TyOf K H (.ref a) (.ref C)
theorem ZhC{x:V}{u t:Value}(I:Inv X pins σ H s)(rx:RelV x u)(ty:TyOf X.K H x t)(e:PySem.W.kitOne X.K t c=some b)(h:∀tk,Q (.bool b) { s with toks:=tk }) :
  wpAny (model X.prog X.w) A (call (.builtin "isinstance") [u,c]) Q E s:=by
 cases ty with
 | non=>cases (show u=Value.none from rx);exact PySem.W.kia_one PySem.W.kitx_none I.kIn True.intro e (fun z=>nomatch z) h
 | bl y=>cases (show u=Value.bool y from rx);exact PySem.W.kia_one PySem.W.kitx_bool I.kIn True.intro e (fun z=>nomatch z) h
 | int i=>obtain⟨t,q⟩:=(show ∃t,u=Value.int i t from rx);cases q;exact PySem.W.kia_one PySem.W.kitx_int I.kIn True.intro e (fun z=>nomatch z) h
 | str y=>obtain⟨t,q⟩:=(show ∃t,u=Value.str y t from rx);cases q;exact PySem.W.kia_one PySem.W.kitx_str I.kIn True.intro e (fun z=>nomatch z) h
 | flt y=>obtain⟨t,q⟩:=(show ∃t,u=Value.float y t from rx);cases q;exact PySem.W.kia_one PySem.W.kitx_float I.kIn True.intro e (fun z=>nomatch z) h
 | @lst a xs ea =>
  cases (show u=Value.ref a from rx);obtain⟨_,_,n,_,h1⟩:=(show Zaz X.prog X.w H s.heap a (.lst xs) from I.hok a _ ea);exact PySem.W.kia_one PySem.W.kitx_list I.kIn ⟨_,h1,rfl⟩ e (fun z=>nomatch z) h
 | @frz a ob xs ea =>
  cases (show u=Value.ref a from rx);obtain⟨_,_,_,n,_,h1⟩:=(show Zaz X.prog X.w H s.heap a (.frz ob (.lst xs)) from I.hok a _ ea);exact PySem.W.kia_one PySem.W.kitx_list I.kIn ⟨_,h1,rfl⟩ e (fun z=>nomatch z) h
 | @tup a xs ea =>
  cases (show u=Value.ref a from rx);obtain⟨_,_,_,p⟩:=(show Zaz X.prog X.w H s.heap a (.tup xs) from I.hok a _ ea);obtain⟨o,h1,h2,_⟩:=p;exact PySem.W.kia_one PySem.W.kitx_tuple I.kIn ⟨o,h1,h2⟩ e (fun z=>nomatch z) h
 | @dK a kvs ea =>
  cases (show u=Value.ref a from rx);obtain⟨_,_,vs,_,p⟩:=(show Zaz X.prog X.w H s.heap a (.dK kvs) from I.hok a _ ea);obtain⟨o,es,ep,h1,h2,_⟩:=p;exact PySem.W.kia_one PySem.W.kitx_dict I.kIn ⟨o,h1,h2.1⟩ e (fun z=>nomatch z) h
 | @dT a kvs ea =>
  cases (show u=Value.ref a from rx);obtain⟨_,_,xs,_,o,es,ep,h1,h2,_⟩:=(show Zaz X.prog X.w H s.heap a (.dT kvs) from I.hok a _ ea);exact PySem.W.kia_one PySem.W.kitx_dict I.kIn ⟨o,h1,h2.1⟩ e (fun z=>nomatch z) h
 | @ins a C dx fs ea cl ha hn htk hm =>
  cases (show u=Value.ref a from rx);obtain⟨mA,O,_⟩:=ZeL I.hok ea;obtain⟨od,J,_⟩:=O.look;exact PySem.W.kia_one (PySem.W.kitx_own (cl.get _) cl.hd ha hn htk hm) I.kIn J e (fun z=>nomatch z) h
end
structure Room(k:Nat)(A:Around):Prop where
 hd:A.handled=none
 dp:A.depth+2*k+5<recursionLimit
 un:A.units+16*k+200<cLine
 gd:A.guards=some []
theorem Room.mono{j k:Nat}{A:Around}(r:Room k A)(h:j<=k):Room j A:=⟨r.hd,by have:=r.dp;lia,by have:=r.un;lia,r.gd⟩
theorem Room.deeper{k:Nat}{A:Around}(r:Room (k+1) A)(env:Env):Room k (A.deeper env) :=
 ⟨r.hd,by have:=r.dp;show A.depth+1+2*k+5<_;lia,by have:=r.un;show A.units+3+16*k+200<_;lia,r.gd⟩
theorem Zhj{A:Around}{C:Addr}{us:List Value}{kw:List (Str×Value)}:(A.under (.builtin "type.__call__" ⟨.ref C::us,kw⟩)).depth=A.depth+1:=by
 first|rfl|simp[Around.under,Code.weight,Code.isCreation,Code.isGuard,Code.isCaller,Code.frames,Code.isFrame,guardIds]
theorem Zhc{A:Around}{C:Addr}{us:List Value}{kw:List (Str×Value)}:(A.under (.builtin "type.__call__" ⟨.ref C::us,kw⟩)).units=A.units+1:=by
 first|rfl|simp[Around.under,Code.cUnits,Code.frames,Code.isFrame]
theorem ZfA{A:Around}{C:Addr}{us:List Value}{kw:List (Str×Value)}:(A.under (.builtin "type.__call__" ⟨.ref C::us,kw⟩)).guards=A.guards:=by
 have h:(Code.builtin "type.__call__" ⟨.ref C::us,kw⟩).guards=[]:=by first|rfl|simp[Code.guards,Code.isGuard,guardIds]
 unfold Around.under;dsimp only;rw[h];cases A.guards <;> rfl
theorem Room.make{k:Nat}{A:Around}(r:Room (k+1) A)(C:Addr)(us:List Value)(kw:List (Str×Value)):Room k (A.under (.builtin "type.__call__" ⟨.ref C::us,kw⟩)) :=
 ⟨r.hd,by have:=r.dp;rw[Zhj];lia,by have:=r.un;rw[Zhc];lia,by rw[ZfA];exact r.gd⟩
theorem Room.depth{k:Nat}{A:Around}(r:Room k A):A.depth<recursionLimit:=by have:=r.dp;lia
def ZlW:TA:=fun _ H Q=>Q [] H
def ZlS(ta:TE)(tr:TA):TA:=fun σ H Q=>ta σ H fun x H1=>tr σ H1 fun xs H2=>Q (x::xs) H2
section
variable{X:Cx}{e:Expr}{es:List Expr}{te:TE}{t:TA}{pos:Pos}
theorem Zf:PA X [] ZlW:=fun _ _ _ _ H Q I h=>Calls.spliced_nil ⟨[],H,I,.nil,h⟩
theorem Za(ha:PE X e te)(hr:PA X es t)(hs:starEach (e::es) X.env=(false,eval e X.env)::starEach es X.env:=by rfl):PA X (e::es) (ZlS te t):=by
 intro pos pins s σ H Q I h;rw[hs];show wpAny _ _ (spliced ((false,eval e X.env)::backTo pos (starEach es X.env))) _ _ s;refine Calls.spliced_cons (thn (ha pins s σ H _ I h) fun u s1 ⟨x,H1,I1,r1,q1⟩=>?_);exact thn (hr pos pins s1 σ H1 _ I1 q1) fun us s2 ⟨xs,H2,I2,r2,q2⟩=>⟨x::xs,H2,I2,.cons r1 r2,q2⟩
def Zmp(t:TA):TE:=fun σ H Q=>t σ H fun xs H1=>xs.length<=sizeLine/\∀p,H1 p=none->Q (.ref p) (upd H1 p (.tup xs))
def ZmA(t:TA):TE:=fun σ H Q=>t σ H fun xs H1=>xs.length<=sizeLine/\∀p,H1 p=none->Q (.ref p) (upd H1 p (.lst xs))
theorem Zax{x1}(h:PA X es t):PE X (.Tuple es x1 pos) (Zmp t):=by
 intro pins s σ H Q I hq;refine wpAny_Tuple_spliced (thn (h pos pins s σ H _ I hq) fun us s1 ⟨xs,H1,I1,r,z,q⟩=>⟨by rw[<- r.length];exact z,?_⟩);have hf:H1 s1.heap.objs.size=none:=I1.hok.fresh (Nat.le_refl _);refine⟨.ref s1.heap.objs.size,upd H1 s1.heap.objs.size (.tup xs),I1.laid (t':=s1.toks) (fun b u e=>Heap.get?_push_of_some _ e) (Nat.le_refl _) ?_,rfl,q _ hf⟩;exact⟨z,us,r,⟨_,Heap.get?_push_size _ rfl,rfl,_,rfl⟩⟩
theorem ZaH(h:PA X es t):PE X (.List es pos) (ZmA t):=by
 intro pins s σ H Q I hq;refine wpAny_List_spliced (thn (h pos pins s σ H _ I hq) fun us s1 ⟨xs,H1,I1,r,z,q⟩=>⟨by rw[<- r.length];exact z,?_⟩);have hf:H1 s1.heap.objs.size=none:=I1.hok.fresh (Nat.le_refl _);refine⟨.ref s1.heap.objs.size,upd H1 s1.heap.objs.size (.lst xs),I1.laid (t':=s1.toks) (fun b u e=>Heap.get?_push_of_some _ e) (Nat.le_refl _) ?_,rfl,q _ hf⟩;exact⟨z,us,0,r,Heap.get?_push_size _ rfl⟩
end
abbrev Sp:=List V->Hp->VK->XK->Prop
abbrev CXT:=List Env->Hp->Shared->XK->Value->Shared->Prop
structure Env0(P:Program)(w:World)(K:PySem.W.Frag)(mg:Str->Option Value)(base:Heap)(A:Around)(outer:List Env)(s:Shared)(H:Hp):Prop where
 frames:A.frames=some outer
 mod:Mod K mg base
 bs:∀b o,base.get? b=some o->s.heap.get? b=some o/\H b=none
 bsz:base.objs.size<=s.heap.objs.size
 funs:s.heap.FunFrames base outer
 frf:∀b∈frs outer,H b=none
 hok:HOk P w H s.heap
 bare:AllBare s.gens
def CE(outer:List Env)(P:Program)(w:World)(H:Hp)(s:Shared)(Q:VK)(u:Value)(s':Shared):Prop :=
 ∃v H',s'.os=s.os/\AllBare s'.gens/\Un (frs outer) [] H H' s.heap s'.heap/\HOk P w H' s'.heap/\RelV v u/\Q v H'
def CR(CX:CXT)(outer:List Env)(P:Program)(w:World)(H:Hp)(s:Shared)(Q:VK)(E:XK)(r:Result)(s':Shared):Prop :=
 match r with
 | .ok (.ret u)=>CE outer P w H s Q u s'
 | .ok _=>False
 | .error e=>CX outer H s E e s'
structure FnOk(P:Program)(w:World)(K:PySem.W.Frag)(mg:Str->Option Value)(base:Heap)(CX:CXT)(k:Nat)(f:Addr)(fd:FuncData)(ps:List Str)(sp:Sp):Prop where
 len:∀vs H Q E,sp vs H Q E->vs.length=ps.length
 run:∀(A:Around)(outer:List Env)(s:Shared)(H:Hp)(args:Args)(us:List Value)(vs:List V)(Q:VK)(E:XK),Room k A->Env0 P w K mg base A outer s H->BindsTo s fd args (ps.zip us)->Vals vs us->sp vs H Q E ->
  codeAny (model P w) A (.call (.ref f) args) (CR CX outer P w H s Q E) s
theorem Env0.make{P:Program}{w:World}{K:PySem.W.Frag}{mg:Str->Option Value}{base:Heap}{A:Around}{outer:List Env}{s:Shared}{H:Hp}(e:Env0 P w K mg base A outer s H)(C:Addr)(us:List Value)(kw:List (Str×Value)) :
  Env0 P w K mg base (A.under (.builtin "type.__call__" ⟨.ref C::us,kw⟩)) outer s H:=⟨by first|exact e.frames|(simpa[Around.under,Code.envs,Code.isFrame,pushEnvs] using e.frames),e.mod,e.bs,e.bsz,e.funs,e.frf,e.hok,e.bare⟩
section
variable{X:Cx}{pins:List (Addr×Obj)}{σ : St}{H:Hp}{s s':Shared}
theorem Inv.env0(I:Inv X pins σ H s):Env0 X.prog X.w X.K X.mg X.base X.A X.stack s H :=
 ⟨I.ok.frames,I.ok.mod,I.bs,Nat.le_trans I.ok.bsz I.sz,I.stack,I.stkFree,I.hok,I.bare⟩
theorem Inv.after{Q:VK}{u:Value}(I:Inv X pins σ H s)(h:CE X.stack X.prog X.w H s Q u s'):EP X pins σ Q u s':=by
 obtain⟨v,H',os,bare,un,hok,r,q⟩:=h;obtain⟨hh,g,d,t,os'⟩:=s';obtain rfl:os'=s.os:=os;exact⟨v,H',I.call (h':=hh) (g':=g) (d':=d) (t':=t) (ch:=[]) un hok bare (fun b z=>absurd z (by simp)),r,q⟩
end
def Zk2(sp:Sp)(dvs:List V)(E:XK)(t:TA):TE:=fun σ H Q=>t σ H fun vs H1=>sp (vs++dvs) H1 Q E
def Zi8(C:Addr)(m:Str)(sp:Sp)(dvs:List V)(E:XK)(ta:TE)(t:TA):TE:=fun σ H Q=>ta σ H fun x H1=>∃a dx fs,x=.ref a/\H1 a=some (.ins C dx fs)/\fs.lookup m=none /\
 t σ H1 fun vs H2=>sp (x::(vs++dvs)) H2 Q E
def Zlr(C:Addr)(sp:Sp)(dvs:List V)(E:XK)(t:TA):TE:=fun σ H Q=>t σ H fun vs H1=>∀x dx,H1 x=none->H1 dx=none->dx≠x ->
 sp (.ref x::(vs++dvs)) (upd (upd H1 dx (.own x)) x (.ins C dx [])) (fun v H2=>v=.non/\Q (.ref x) H2) E
def Binds(K:PySem.W.Frag)(fd:FuncData)(ps:List Str)(ds:List Value):Prop :=
 ∀(s:Shared)(us:List Value),K.In s.heap->(us++ds).length=ps.length->BindsTo s fd ⟨us,[]⟩ (ps.zip (us++ds))
theorem Binds.all{K:PySem.W.Frag}{fd:FuncData}{ps:List Str}(h:∀us:List Value,us.length=ps.length->bindArgs fd ⟨us,[]⟩=pure (ps.zip us)):Binds K fd ps []:=fun s us _ hl=>by
 rw[List.append_nil] at hl ⊢;exact .of_eq (h us hl)
def Zdr(CX:CXT)(X:Cx)(E:XK):Prop := ∀(pins:List (Addr×Obj))(σ : St)(H:Hp)(s:Shared)(e:Value)(s':Shared),Inv X pins σ H s->CX X.stack H s E e s'->X.xe e s'
section
variable{X:Cx}{CX:CXT}{k:Nat}{f C:Addr}{fd:FuncData}{ps:List Str}{sp:Sp}{dvs:List V}{ds:List Value}{E:XK}{x m:Str}{p pos apos:Pos}{e o:Expr}{es:List Expr}{ta:TE}{t:TA}
theorem Zhx{pins:List (Addr×Obj)}{σ : St}{H:Hp}{s:Shared}{Q:VK}{us:List Value}{vs:List V}(F:FnOk X.prog X.w X.K X.mg X.base CX k f fd ps sp)(hr:Room k X.A)(hb:Binds X.K fd ps ds)(hd:Vals dvs ds)(hx:Zdr CX X E)
  (I:Inv X pins σ H s) (r:Vals vs us) (h:sp (vs++dvs) H Q E):wpAny (model X.prog X.w) X.A (call (.ref f) us) (EP X pins σ Q) X.xe s:=by
 have r2:Vals (vs++dvs) (us++ds):=r.append hd;have hl:(us++ds).length=ps.length:=by rw[<- r2.length];exact F.len _ _ _ _ h
 refine wpAny_call (codeAny_mono (F.run X.A X.stack s H ⟨us,[]⟩ (us++ds) (vs++dvs) Q E hr I.env0 (hb s us I.kIn hl) r2 h) fun r s' hq=>?_);cases r with
 | error e=>exact hx pins σ H s e s' I hq
 | ok fl =>
  cases fl with
  | ret u=>exact I.after hq
  | next=>exact False.elim hq
  | brk=>exact False.elim hq
  | cont=>exact False.elim hq
theorem Zj1(F:FnOk X.prog X.w X.K X.mg X.base CX k f fd ps sp)(hr:Room k X.A)(hg:Gl X x)(hm:X.mg x=some (.ref f))(hk:PySem.W.keepIn X.K (.ref f)=true)(hb:Binds X.K fd ps ds)(hd:Vals dvs ds)(hx:Zdr CX X E)
  (ha:PA X (e::es) t) (hdb:(x == ("__debug__" : Str))=false:=by decide) (he:starEach (e::es) X.env=(false,eval e X.env)::starEach es X.env:=by rfl) (hpl:(backTo pos (starEach es X.env)).any (·.1)=false:=by rfl) :
  PE X (.Call (.Name x p) (e::es) [] pos) (Zk2 sp dvs E t):=by
 intro pins s σ H Q I h;refine wpAny_Call_Name_kw (ZfN I hg hm ?_ hdb);refine PySem.W.callWith_K (h₀ := X.base) I.ok.mod.kin hk (thn (ha pos pins s σ H _ I h) fun us s1 ⟨vs,H1,I1,r,q⟩=>⟨I1.kIn,?_⟩) he hpl;exact Zhx F hr hb hd hx I1 r q
theorem Zkv{pl:Sem Bool}(he:PE X o ta)(c:Cls X.K C)(hm:Meth X.K C m f)(F:FnOk X.prog X.w X.K X.mg X.base CX k f fd ps sp)(hr:Room k X.A)(hb:Binds X.K fd ps ds)(hd:Vals dvs ds)(hx:Zdr CX X E)(ha:PA X (e::es) t)
  (hst:starEach (e::es) X.env=(false,eval e X.env)::starEach es X.env:=by rfl) (hpl:(backTo pos (starEach es X.env)).any (·.1)=false:=by rfl)
  (ht:eval (.Call (.Attribute o m apos) (e::es) [] pos) X.env=(do
   let ov <- eval o X.env
   standAt apos.atName
   let (f,first) <- holding [ov] (getMethod ov m pl)
   callWith pos f first (backTo pos (starEach (e::es) X.env)) (backToKw pos (keywordEach [] X.env))):=by rfl) :
  PE X (.Call (.Attribute o m apos) (e::es) [] pos) (Zi8 C m sp dvs E ta t):=by
 intro pins s σ H Q I h;refine PySem.W.methodCall_KW (pl:=pl) (thn (he pins s σ H _ I h) fun u s1 ⟨x,H1,I1,rx,a,dx,fs,ex,ea,l,q⟩=>?_) ht;subst ex;obtain rfl:u=Value.ref a:=rx;refine Zd8 I1 ea c hm l ?_;refine PySem.W.callWith_K (first:=[.ref a]) (h₀ := X.base) I.ok.mod.kin hm.kp (thn (ha pos pins s1 σ H1 _ I1 q) fun us s2 ⟨vs,H2,I2,r,q2⟩=>⟨I2.kIn,?_⟩) hst hpl
 exact Zhx (us:=.ref a::us) (vs:=.ref a::vs) F hr hb hd hx I2 (.cons rfl r) q2
theorem Zi7{pl:Sem Bool}(he:PE X o ta)(c:Cls X.K C)(hm:Meth X.K C m f)(F:FnOk X.prog X.w X.K X.mg X.base CX k f fd ps sp)(hr:Room k X.A)(hb:Binds X.K fd ps ds)(hd:Vals dvs ds)(hx:Zdr CX X E)
  (ht:eval (.Call (.Attribute o m apos) [] [] pos) X.env=(do
   let ov <- eval o X.env
   standAt apos.atName
   let (f,first) <- holding [ov] (getMethod ov m pl)
   callWith pos f first (backTo pos (starEach [] X.env)) (backToKw pos (keywordEach [] X.env))):=by rfl) :
  PE X (.Call (.Attribute o m apos) [] [] pos) (Zi8 C m sp dvs E ta ZlW):=by
 intro pins s σ H Q I h;refine PySem.W.methodCall_KW (pl:=pl) (thn (he pins s σ H _ I h) fun u s1 ⟨x,H1,I1,rx,a,dx,fs,ex,ea,l,q⟩=>?_) ht;subst ex;obtain rfl:u=Value.ref a:=rx;refine Zd8 I1 ea c hm l ?_;exact PySem.W.callWith_K0 (first:=[.ref a]) I1.kIn hm.kp (Zhx (us:=[.ref a]) (vs:=[.ref a]) F hr hb hd hx I1 (.cons rfl .nil) q)
structure Mk(K:PySem.W.Frag)(C f:Addr):Prop where
 makes:PySem.W.makesIn K C=true
 init:PySem.W.findIn K (.ref C) "__init__" = some (some (.ref f))
 fn:PySem.W.isFn K (.ref f)=true
 kp:PySem.W.keepIn K (.ref C)=true
theorem Zjm{pins:List (Addr×Obj)}{σ : St}{H:Hp}{s:Shared}{Q:VK}{us:List Value}{vs:List V}(M:Mk X.K C f)(F:FnOk X.prog X.w X.K X.mg X.base CX k f fd ps sp)(hr:Room (k+1) X.A)(hb:Binds X.K fd ps ds)(hd:Vals dvs ds)
  (hx:Zdr CX X E) (I:Inv X pins σ H s) (r:Vals vs us)
  (h:∀x dx,H x=none->H dx=none->dx≠x->sp (.ref x::(vs++dvs)) (upd (upd H dx (.own x)) x (.ins C dx [])) (fun v H2=>v=.non/\Q (.ref x) H2) E) :
  wpAny (model X.prog X.w) X.A (call (.ref C) us) (EP X pins σ Q) X.xe s:=by
 have hq:=h (s.heap.objs.size+1) s.heap.objs.size (I.hok.fresh (Nat.le_succ _)) (I.hok.fresh (Nat.le_refl _)) (Nat.ne_of_lt (Nat.lt_succ_self _));have I2:=Inv.made (C:=C) I;have r2:Vals (V.ref (s.heap.objs.size+1)::(vs++dvs)) (Value.ref (s.heap.objs.size+1)::(us++ds)):=.cons rfl (r.append hd);have hl:(Value.ref (s.heap.objs.size+1)::us++ds).length=ps.length:=by
  have e:=r2.length;rw[F.len _ _ _ _ hq] at e;exact e.symm
 refine wpAny_call (ZiL (f:=f) I.kIn M.makes M.init (beq_iff_eq.mp M.fn) (codeAny_mono (F.run _ X.stack _ _ ⟨Value.ref (s.heap.objs.size+1)::us,[]⟩ (Value.ref (s.heap.objs.size+1)::(us++ds)) _ _ E (hr.make C us [])
  (I2.env0.make C us []) (hb _ (Value.ref (s.heap.objs.size+1)::us) I2.kIn hl) r2 hq) fun r s' hq'=>?_))
 cases r with
 | error e=>exact hx pins σ _ _ e s' I2 hq'
 | ok fl =>
  cases fl with
  | ret u =>
   obtain⟨v,H',I3,rv,ev,q3⟩:=I2.after hq';subst ev;exact⟨rv,⟨V.ref (s.heap.objs.size+1),H',I3,rfl,q3⟩⟩
  | next=>exact False.elim hq'
  | brk=>exact False.elim hq'
  | cont=>exact False.elim hq'
theorem Zj0(M:Mk X.K C f)(F:FnOk X.prog X.w X.K X.mg X.base CX k f fd ps sp)(hr:Room (k+1) X.A)(hg:Gl X x)(hm:X.mg x=some (.ref C))(hb:Binds X.K fd ps ds)(hd:Vals dvs ds)(hx:Zdr CX X E)
  (ha:PA X (e::es) t) (hdb:(x == ("__debug__" : Str))=false:=by decide) (he:starEach (e::es) X.env=(false,eval e X.env)::starEach es X.env:=by rfl) (hpl:(backTo pos (starEach es X.env)).any (·.1)=false:=by rfl) :
  PE X (.Call (.Name x p) (e::es) [] pos) (Zlr C sp dvs E t):=by
 intro pins s σ H Q I h;refine wpAny_Call_Name_kw (ZfN I hg hm ?_ hdb);refine PySem.W.callWith_K (h₀ := X.base) I.ok.mod.kin M.kp (thn (ha pos pins s σ H _ I h) fun us s1 ⟨vs,H1,I1,r,q⟩=>⟨I1.kIn,?_⟩) he hpl;exact Zjm M F hr hb hd hx I1 r q
end
structure FnScope(N P:List Str)(sc:Scope):Prop where
 kind:sc.kind=.function
 co:sc.isCoroutine=false
 gen:sc.isGenerator=false
 nd:N.Nodup
 pre:N.take P.length=P
 par:∀x∈P,sc.names.lookup x=some .local\/sc.names.lookup x=some .cell
 ZcP:∀y∈sc.names,y.2 ≠ .free
theorem Zfb{kindOf:Str->Option NameKind}{x:Str}:∀{binds:List (Str×Value)}{m:Str->Option Value},(∀v,(x,v)∉binds)->bindL kindOf binds m x=m x
 | [],_,_=>rfl
 | (n,v)::r,m,h=>by
  unfold bindL;rw[Zfb fun w hw=>h w (List.mem_cons_of_mem _ hw)]
  split
  ·have:x≠n:=by rintro rfl;exact h v List.mem_cons_self
   simp[this]
  ·rfl
theorem ZeU{kindOf:Str->Option NameKind}{x:Str}:∀{binds:List (Str×Value)}{m:Str->Option Value},(∀v,(x,v)∉binds)->bindC kindOf binds m x=m x
 | [],_,_=>rfl
 | (n,v)::r,m,h=>by
  unfold bindC;rw[ZeU fun w hw=>h w (List.mem_cons_of_mem _ hw)]
  split
  ·rfl
  ·have:x≠n:=by rintro rfl;exact h v List.mem_cons_self
   simp[this]
theorem Zfj{kindOf:Str->Option NameKind}{x:Str}{v:Value}:∀{P:List Str}{vs:List Value}{i:Nat}{m:Str->Option Value},P.Nodup->P[i]?= some x->vs[i]?= some v->kindOf x=some .local ->
  bindL kindOf (P.zip vs) m x=some v
 | [],_,_,_,_,h,_,_=>by simp at h
 | _::_,[],_,_,_,_,h,_=>by simp at h
 | p::P,w::vs,0,m,nd,h1,h2,hk=>by
  simp at h1 h2;subst h1;subst h2;show bindL kindOf ((p,w)::P.zip vs) m p=_;unfold bindL;rw[Zfb fun v hv=>(List.nodup_cons.mp nd).1 (List.of_mem_zip hv).1,if_pos hk];simp
 | p::P,w::vs,i+1,m,nd,h1,h2,hk=>by
  show bindL kindOf ((p,w)::P.zip vs) m x=_;unfold bindL;exact Zfj (i:=i) (List.nodup_cons.mp nd).2 (by simpa using h1) (by simpa using h2) hk
theorem Zfr{kindOf:Str->Option NameKind}{x:Str}{v:Value}:∀{P:List Str}{vs:List Value}{i:Nat}{m:Str->Option Value},P.Nodup->P[i]?= some x->vs[i]?= some v->kindOf x≠some .local ->
  bindC kindOf (P.zip vs) m x=some v
 | [],_,_,_,_,h,_,_=>by simp at h
 | _::_,[],_,_,_,_,h,_=>by simp at h
 | p::P,w::vs,0,m,nd,h1,h2,hk=>by
  simp at h1 h2;subst h1;subst h2;show bindC kindOf ((p,w)::P.zip vs) m p=_;unfold bindC;rw[ZeU fun v hv=>(List.nodup_cons.mp nd).1 (List.of_mem_zip hv).1,if_neg hk];simp
 | p::P,w::vs,i+1,m,nd,h1,h2,hk=>by
  show bindC kindOf ((p,w)::P.zip vs) m x=_;unfold bindC;exact Zfr (i:=i) (List.nodup_cons.mp nd).2 (by simpa using h1) (by simpa using h2) hk
def start(N:List Str)(vs:List V):St:=vs.map some++List.replicate (N.length-vs.length) none
def ZkL(CX:CXT)(P:Program)(w:World)(K:PySem.W.Frag)(mg:Str->Option Value)(base:Heap)(N:List Str)(qual:Str)(scope:Scope)(f:Addr)(cd:Value)(A:Around)(outer:List Env)(s:Shared)(H:Hp)(E:XK):Cx where
 prog:=P
 w:=w
 K:=K
 mg:=mg
 base:=base
 A:=A.deeper (envOfC qual scope s.heap.objs.size f cd)
 N:=N
 s₀ := s
 H₀ := H
 env:=envOfC qual scope s.heap.objs.size f cd
 outer:=outer
 stack:=envOfC qual scope s.heap.objs.size f cd::outer
 ex:=[]
 calm:=true
 fn:=fun _=>true
 pn:=[]
 xe:=fun e s'=>wpAny (model P w) (A.deeper (envOfC qual scope s.heap.objs.size f cd)) (leaving (envOfC qual scope s.heap.objs.size f cd) e) (fun _ s''=>CX outer H s E e s'') (fun e' s''=>CX outer H s E e' s'') s'
theorem Zgw{sc:Scope}{n:Nat}{x:Str}(h:sc.names.lookup x=some .cell):∃c,(cellsFrom n sc.names []).lookup x=some c:=by
 have q:=PySem.W.cellsFrom_some sc.names n [] (.inl h);exact Option.isSome_iff_exists.mp q
theorem Zhz{CX:CXT}{P:Program}{w:World}{K:PySem.W.Frag}{mg:Str->Option Value}{base:Heap}{N ps:List Str}{qual:Str}{scope:Scope}{f:Addr}{cd:Value}{A:Around}{outer:List Env}{s s1:Shared}{H:Hp}{E:XK}{us:List Value}{vs:List V}
  (S:FnScope N ps scope) (hd:A.handled=none) (e0:Env0 P w K mg base A outer s H) (hl:vs.length=ps.length) (r:Vals vs us)
  (x:InCallC s s.heap.objs.size (bindL (envOfC qual scope s.heap.objs.size f cd).kindOf (ps.zip us) fun _=>none) (cellsFrom (s.heap.objs.size+1) scope.names []) (bindC (envOfC qual scope s.heap.objs.size f cd).kindOf (ps.zip us) fun _=>none) s1) :
  Inv (ZkL CX P w K mg base N qual scope f cd A outer s H E) [] (start N vs) H s1:=by
 have hpl:ps.length<=N.length:=by have:=congrArg List.length S.pre;rw[List.length_take] at this;lia
 obtain⟨h1,tk,rfl,hk⟩:=x.done;have noA:∀b:Addr,b∉(ZkL CX P w K mg base N qual scope f cd A outer s H E).ex:=fun b z=>absurd (show b∈([]:List Addr) from z) (by simp);refine⟨⟨e0.mod,S.kind,rfl,rfl,Nat.le_refl _,fun y z c h1 h2=>?_,fun y hy=>?_,fun y c _ h=>?_,fun _=>hd,Around.frames_deeper e0.frames,.inr ⟨rfl,rfl⟩,fun b z=>absurd z (noA b),e0.bs,e0.bsz,fun b _ _=>noA b,fun b z=>absurd z (noA b),e0.funs,e0.frf⟩,
  rfl,e0.bare,Un.kept hk,⟨_,x.toInCall.ns,fun i y v h1 h2 h3=>?_⟩,fun y c h=>⟨_,x.cell y c h⟩,e0.hok.fresh (Nat.le_refl _),fun y c h=>?_,fun p hp=>absurd (show p∈([]:List (Addr×Obj)) from hp) (by simp),e0.hok.kept hk,?_⟩
 ·exact name_of_addr x.apart (PySem.mem_of_lookup h1) (PySem.mem_of_lookup h2)
 ·have hy:scope.names.lookup y=some .cell\/scope.names.lookup y=some .free:=hy;rcases hy with hy|hy
  ·exact Zgw hy
  ·exact absurd rfl (S.ZcP _ (PySem.mem_of_lookup hy))
 ·exact Nat.le_of_lt (x.above y c (PySem.mem_of_lookup h))
 ·have hi:i<vs.length:=by
   unfold start at h2;by_cases hi:i<vs.length
   ·exact hi
   ·rw[List.getElem?_append_right (by simpa using hi)] at h2;rw[List.getElem?_replicate] at h2
    split at h2 <;> cases h2
  have ha:vs[i]?= some v:=by
   unfold start at h2;rw[List.getElem?_append_left (by simpa using hi),List.getElem?_map] at h2;cases e:vs[i]? with
   | none=>rw[e] at h2;cases h2
   | some a=>rw[e] at h2;cases h2;rfl
  obtain⟨u,hu,rv⟩:=r.get ha;have hp:ps[i]?= some y:=by
   rw[<- S.pre,List.getElem?_take_of_lt (by lia)];exact h1
  have ndP:ps.Nodup:=by rw[<- S.pre];exact S.nd.sublist (List.take_sublist _ _)
  refine⟨u,rv,?_⟩;rcases S.par y (List.mem_of_getElem? hp) with k|k
  ·exact .inl ⟨k,Zfj ndP hp hu k⟩
  ·obtain⟨c,e⟩:=Zgw (n:=s.heap.objs.size+1) k;refine .inr ⟨.inl k,c,e,?_⟩;have q:=x.cell y c e;rw[Zfr ndP hp hu (by show scope.names.lookup y≠_;rw[k];decide)] at q;exact q
 ·exact e0.hok.fresh (Nat.le_of_lt (x.above y c (PySem.mem_of_lookup h)))
 ·unfold start;show _=N.length;rw[List.length_append,List.length_map,List.length_replicate];lia
theorem ZlP{CX:CXT}{P:Program}{w:World}{K:PySem.W.Frag}{mg:Str->Option Value}{base:Heap}{k:Nat}{f:Addr}{name qual:Str}{params:Arguments}{body:List Stmt}{scope:Scope}{dV kV doc pm cdv ct oc:Value}{an od:Option Addr}
  {osl:Array (Option Value)} {N ps:List Str} {sp:Sp} (lk:K.lookup f=some ⟨oc,od,.func (PySem.W.fnOf name qual params body scope dV kV doc pm an cdv ct),osl⟩) (hcd:PySem.W.codeIn K cdv qual=true) (S:FnScope N ps scope)
  (len:∀vs H Q E,sp vs H Q E->vs.length=ps.length)
  (hbody:∀(A:Around)(outer:List Env)(s:Shared)(H:Hp)(vs:List V)(Q:VK)(E:XK),Room k (A.deeper (envOfC qual scope s.heap.objs.size f cdv))->sp vs H Q E ->
   ∃t,PSs (ZkL CX P w K mg base N qual scope f cdv A outer s H E) body t/\t { nx:=fun _ H'=>Q .non H',rt:=Q } (start N vs) H) :
  FnOk P w K mg base CX (k+1) f (PySem.W.fnOf name qual params body scope dV kV doc pm an cdv ct) ps sp:=by
 refine⟨len,fun A outer s H args us vs Q E hr e0 hb r hsp=>?_⟩;have hl:=len _ _ _ _ hsp;have KX:K.In s.heap:=e0.mod.kin.keeps fun b o e=>(e0.bs b o e).1;have lim:s.heap.NoLimit:=e0.mod.nolimit.keeps fun b o e=>(e0.bs b o e).1;have hkind:∀y∈ps.zip us,scope.names.lookup y.1=some .local\/(scope.names.lookup y.1=some .cell/\((cellsFrom (s.heap.objs.size+1) scope.names []).lookup y.1).isSome=true):=fun⟨n,v⟩ hy=>by
  rcases S.par n (List.of_mem_zip hy).1 with q|q
  ·exact .inl q
  ·exact .inr ⟨q,PySem.W.cellsFrom_some _ _ _ (.inl q)⟩
 refine codeAny_call_function hr.depth (KX _ _ lk) rfl S.co S.gen rfl (PySem.W.codeRec_of KX hcd) (hb _ _ _ _ ?_);refine wpAny_newFunctionEnv_cells S.kind hkind fun env he s1 x=>?_;subst he;refine⟨lim.keeps x.toInCall.keep,codeAny_func ?_⟩;obtain⟨t,ht,hq⟩:=hbody A outer s H vs Q E (hr.deeper _) hsp;have I:Inv (ZkL CX P w K mg base N qual scope f cdv A outer s H E) [] (start N vs) H s1:=Zhz S hr.hd e0 hl r x;refine wpAny_mono (ht [] s1 (start N vs) H _ I hq) (fun fl s' hs=>?_) fun e s' hs=>hs;have fin:∀{σ':St}{H':Hp}{v:V}{u:Value},Inv (ZkL CX P w K mg base N qual scope f cdv A outer s H E) [] σ' H' s'->RelV v u->Q v H'->CE outer P w H s Q u s' :=
  fun{σ' H' v u} J rv q=>⟨v,H',J.os,J.bare,J.base,J.hok,rv,q⟩
 cases fl with
 | ret u =>
  obtain⟨v,σ',H',J,rv,q⟩:=hs;exact fin J rv q
 | next =>
  obtain⟨σ',H',J,q⟩:=hs;exact fin (v:=V.non) (u:=Value.none) J rfl q
 | brk =>
  obtain⟨_,_,_,q⟩:=hs;exact False.elim q
 | cont =>
  obtain⟨_,_,_,q⟩:=hs;exact False.elim q
section
variable{X:Cx}{x:Str}{p pos:Pos}{e:Expr}{es:List Expr}{t:TA}{id T:String}{r:List V->Hp->VK->Prop}
def tCB(r:List V->Hp->VK->Prop)(t:TA):TE:=fun σ H Q=>t σ H fun vs H1=>r vs H1 Q
theorem ZF(hc:Zb3 X (.builtin id) r)(hg:Gl X x)(hm:X.mg x=none)(hv:bootBuiltins x=some (.builtin id))(ha:PA X (e::es) t)(hn:x ≠ "__name__" := by decide) (hdb:(x == ("__debug__" : Str))=false:=by decide)
  (he:starEach (e::es) X.env=(false,eval e X.env)::starEach es X.env:=by rfl) (hpl:(backTo pos (starEach es X.env)).any (·.1)=false:=by rfl):PE X (.Call (.Name x p) (e::es) [] pos) (tCB r t):=by
 intro pins s σ H Q I h;refine wpAny_Call_Name_kw (ZgF I hg hm hv ?_ hn hdb);exact PyProof.Rows.callWith_builtin1 (thn (ha pos pins s σ H _ I h) fun us s1 ⟨vs,H1,I1,r1,q1⟩=>hc pins s1 σ H1 vs us Q I1 r1 q1) he hpl
theorem Zay(hc:Zb3 X (.type T) r)(hg:Gl X x)(hm:X.mg x=none)(hv:bootBuiltins x=some (.type T))(ha:PA X (e::es) t)(hn:x ≠ "__name__" := by decide) (hdb:(x == ("__debug__" : Str))=false:=by decide)
  (he:starEach (e::es) X.env=(false,eval e X.env)::starEach es X.env:=by rfl) (hpl:(backTo pos (starEach es X.env)).any (·.1)=false:=by rfl):PE X (.Call (.Name x p) (e::es) [] pos) (tCB r t):=by
 intro pins s σ H Q I h;refine wpAny_Call_Name_kw (ZgF I hg hm hv ?_ hn hdb);exact PyProof.Rows.callWith_type1 (thn (ha pos pins s σ H _ I h) fun us s1 ⟨vs,H1,I1,r1,q1⟩=>hc pins s1 σ H1 vs us Q I1 r1 q1) he hpl
end
end L2
namespace HT
open PySem PyProof.Rows
section
variable{prog:Program}{w:World}{A:Around}{E:Value->Shared->Prop}{s:Shared}
def sIx(n d:Nat):Option Int->Nat
 | none=>d
 | some v=>if v<0 then(v+(n:Int)).toNat else min v.toNat n
theorem ZgO(n d:Nat):sIx n d none=d:=rfl
theorem Zin(n d k:Nat):sIx n d (some (k:Int))=min k n:=by
 show(if(k:Int)<0 then((k:Int)+(n:Int)).toNat else min (k:Int).toNat n)=min k n
 rw[if_neg (by lia),Int.toNat_natCast]
end
end HT
namespace L2
open PySem PySem.Spec PyProof.Rows
abbrev TO:=St->Hp->(Option Int->Hp->Prop)->Prop
def PO(X:Cx)(e:Option Expr)(t:TO):Prop :=
 ∀(pins:List (Addr×Obj))(s:Shared)(σ : St)(H:Hp)(Q:Option Int->Hp->Prop),Inv X pins σ H s->t σ H Q ->
  wpAny (model X.prog X.w) X.A (evalPart e X.env) (fun u s'=>∃o H',Inv X pins σ H' s'/\IsPart u o/\Q o H') X.xe s
def Zj6:TO:=fun _ H Q=>Q none H
def Zl0(t:TE):TO:=fun σ H Q=>t σ H fun x H1=>∃i,x=.int i/\Q (some i) H1
section
variable{X:Cx}{e:Expr}{te:TE}{lo hi:Option Expr}{tl th:TO}{pos p2:Pos}
theorem ZhF:PO X none Zj6:=by
 intro pins s σ H Q I h;rw[evalPart_none];exact wpAny_pure ⟨none,H,I,.none,h⟩
theorem ZhY(h:PE X e te):PO X (some e) (Zl0 te):=by
 intro pins s σ H Q I hw;rw[evalPart_some];refine thn (h pins s σ H _ I hw) fun u s1 ⟨x,H1,I1,r1,q1⟩=>?_;obtain⟨i,rfl,q⟩:=q1;obtain⟨t,rfl⟩:=r1;exact⟨some i,H1,I1,.int i t,q⟩
def SlR(X:Cx)(r:V->Option Int->Option Int->Hp->VK->Prop):Prop :=
 ∀(pins:List (Addr×Obj))(s:Shared)(σ : St)(H:Hp)(x:V)(v vl vu:Value)(lo hi:Option Int)(sl:Addr)(Q:VK),Inv X pins σ H s->RelV x v->s.heap.IsSliceOf sl vl vu .none->IsPart vl lo->IsPart vu hi->r x lo hi H Q ->
  ∃T id,typeLookup (.type T) "__getitem__" = pure (some (.builtin id))/\s.TypeIs v T/\wpAny (model X.prog X.w) X.A (getItem v (.ref sl)) (EP X pins σ Q) X.xe s
def tSl(r:V->Option Int->Option Int->Hp->VK->Prop)(te:TE)(tl th:TO):TE:=fun σ H Q=>te σ H fun x H1=>tl σ H1 fun l H2=>th σ H2 fun u H3=>r x l u H3 Q
theorem Zgx{r:V->Option Int->Option Int->Hp->VK->Prop}(hr:SlR X r)(he:PE X e te)(hl:PO X lo tl)(hu:PO X hi th):PE X (.Subscript e (.Slice lo hi none p2) pos) (tSl r te tl th):=by
 intro pins s σ H Q I h;refine Subscript_ (thn (he pins s σ H _ I h) fun v s1 ⟨x,H1,I1,r1,q1⟩=>?_);refine wpAny_Slice (thn (hl pins s1 σ H1 _ I1 q1) fun vl s2 ⟨l,H2,I2,pl,q2⟩=>thn (hu pins s2 σ H2 _ I2 q2) fun vu s3 ⟨u,H3,I3,pu,q3⟩=>?_);rw[evalPart_none];refine wpAny_pure ?_;have I4:Inv X pins σ H3 { s3 with heap:=s3.heap.push { cls:=.type "slice",data:=.fields #[vl,vu,.none] } }:=I3.kept (t':=s3.toks) fun b ob q=>Heap.get?_push_of_some _ q;obtain⟨T,id,hT,ht,hg⟩:=hr pins { s3 with heap:=s3.heap.push { cls:=.type "slice",data:=.fields #[vl,vu,.none] } } σ H3 x v vl vu l u s3.heap.objs.size Q I4 r1 (Heap.IsSliceOf.new ..) pl pu q3;show wpAny (model X.prog X.w) X.A (subscriptTail e (.Slice lo hi none p2) v (.ref s3.heap.objs.size)) (EP X pins σ Q) X.xe { s3 with heap:=s3.heap.push { cls:=.type "slice",data:=.fields #[vl,vu,.none] } };exact tail_any (ops:=[.ref s3.heap.objs.size,v]) ht hT hg (by with_unfolding_all rfl)
def ZiH(xs:List V)(lo hi:Option Int):List V:=(xs.drop (HT.sIx xs.length 0 lo)).take (HT.sIx xs.length xs.length hi-HT.sIx xs.length 0 lo)
theorem Zga(xs:List V)(lo hi:Option Int):(ZiH xs lo hi).length<=xs.length:=by
 unfold ZiH;rw[List.length_take,List.length_drop];lia
end
def ixN(n:Nat)(i:Int):Option Nat:=if 0<=i then(if i<n then some i.toNat else none) else if -(n:Int)<=i then some (i+n).toNat else none
def atI{α : Type}(xs:List α)(i:Int):Option α := (ixN xs.length i).bind fun j=>xs[j]?
theorem ZiB{n:Nat}{i:Int}{j:Nat}(h:ixN n i=some j):seqIndex? i n=some j/\j<n /\ -(n:Int)<=i/\i<n:=by
 unfold ixN at h;by_cases h0:0<=i
 ·rw[if_pos h0] at h;by_cases h1:i<n
  ·rw[if_pos h1] at h;have e:i.toNat=j:=Option.some.inj h;exact⟨by rw[seqIndex_of h0 h1,e],by lia,by lia,h1⟩
  ·rw[if_neg h1] at h;cases h
 ·rw[if_neg h0] at h;by_cases h1 : -(n:Int)<=i
  ·rw[if_pos h1] at h;have e:(i+n).toNat=j:=Option.some.inj h;exact⟨by rw[seqIndex_neg (by lia) h1,e],by lia,h1,by lia⟩
  ·rw[if_neg h1] at h;cases h
theorem ZfS{α : Type}{xs:List α}{i:Int}{v : α}(h:atI xs i=some v):∃j,seqIndex? i xs.length=some j/\xs[j]?= some v/\j<xs.length /\ -(xs.length:Int)<=i/\i<xs.length:=by
 unfold atI at h;cases e:ixN xs.length i with
 | none=>rw[e] at h;cases h
 | some j =>
  rw[e] at h;obtain⟨h1,h2,h3,h4⟩:=ZiB e;exact⟨j,h1,h,h2,h3,h4⟩
theorem Zde{α : Type}{xs:List α}{j:Nat}{v : α}(h:xs[j]?= some v):atI xs (j:Int)=some v:=by
 have hj:j<xs.length:=(List.getElem?_eq_some_iff.mp h).1;have e:ixN xs.length (j:Int)=some j:=by
  unfold ixN;rw[if_pos (by lia),if_pos (by lia)];simp
 unfold atI;rw[e];exact h
theorem ZbE{α : Type}(xs:List α)(v : α):atI (xs ++ [v]) (-1)=some v:=by
 have hl:(xs ++ [v]).length=xs.length+1:=by simp
 have e:ixN (xs ++ [v]).length (-1)=some xs.length:=by
  unfold ixN;rw[hl,if_neg (by decide),if_pos (by lia)]
  congr 1
  lia
 unfold atI;rw[e];show(xs ++ [v])[xs.length]?= some v;simp
def Zka(b:Expr):Prop := ∀o i,subscripted b false o i=operate [o,i] (getItem o i)
def IxR(X:Cx)(r:R2):Prop :=
 ∀(value slice:Expr)(pins:List (Addr×Obj))(s:Shared)(σ : St)(H:Hp)(x y:V)(v u:Value)(Q:VK),Inv X pins σ H s->RelV x v->RelV y u->r x y H Q ->
  subscripted slice false v u=operate [v,u] (getItem v u)->wpAny (model X.prog X.w) X.A (subscriptTail value slice v u) (EP X pins σ Q) X.xe s
def MtR(X:Cx)(id:String)(r:V->List V->Hp->VK->Prop):Prop :=
 ∀(pins:List (Addr×Obj))(s:Shared)(σ : St)(H:Hp)(x:V)(xs:List V)(v:Value)(us:List Value)(Q:VK),Inv X pins σ H s->RelV x v->Vals xs us->r x xs H Q ->
  wpAny (model X.prog X.w) X.A (call (.builtin id) (v::us)) (EP X pins σ Q) X.xe s
section
variable{X:Cx}{a b:Expr}{ta tb:TE}{pos:Pos}
theorem Zae{r:R2}(hr:IxR X r)(ha:PE X a ta)(hb:PE X b tb)(hs:Zka b):PE X (.Subscript a b pos) (tOp r ta tb):=by
 intro pins s σ H Q I h;exact Subscript_ (ZlK ha hb I h fun v u s2 x y H2 I2 rx ry q=>hr a b pins s2 σ H2 x y v u Q I2 rx ry q (hs _ _))
def Zmf(K:PySem.W.Frag):R2:=fun x y H Q=>∃p xs i v,x=.ref p/\y=.int i/\SqL K H p xs/\atI xs i=some v/\Q v H
def Zmc(K:PySem.W.Frag):R2:=fun x y H Q=>∃p xs i v,x=.ref p/\y=.int i/\SqT K H p xs/\atI xs i=some v/\Q v H
def ZmB:R2:=fun x y H Q=>∃z i c,x=.str z/\y=.int i/\z.length<=sizeLine/\atI z.cps.toList i=some c/\Q (.str ⟨#[c]⟩) H
theorem Zaa:IxR X (Zmf X.K):=by
 intro value slice pins s σ H x y v u Q I rx ry h hs;obtain⟨p,xs,i,z,rfl,rfl,hq,he,q⟩:=h;cases rx;obtain⟨t,rfl⟩:=ry;obtain⟨its,r,pl,hz⟩:=I.list hq;obtain⟨j,h1,h2,h3,h4,h5⟩:=ZfS he;obtain⟨w,ew,rw'⟩:=r.get h2;have hl:=r.length;have hn:=Zds;have fin:EP X pins σ Q w s:=⟨z,H,I,rw',q⟩;by_cases h0:0<=i
 ·have hj:i.toNat=j:=by
   rw[seqIndex_of h0 h5] at h1;exact Option.some.inj h1
  exact item_listR pl.isList h0 (by lia) (by rw[hj];simpa using ew) fin hs
 ·have hj:(i+(its.toArray.size:Int)).toNat=j:=by
   rw[seqIndex_neg (by lia) h4] at h1;rw[List.size_toArray,<- hl];exact Option.some.inj h1
  exact subscriptTail_builtinR (x:=w) pl.isList.typeIs slot_list_getitem.lookup
   (wpAny_getItem_list_neg (Q:=fun r s'=>r=w/\EP X pins σ Q r s') pl.isList (by lia) (by rw[List.size_toArray] <;> lia) (by lia) (by rw[hj];simpa using ew) ⟨rfl,fin⟩) hs
theorem ZaX:IxR X (Zmc X.K):=by
 intro value slice pins s σ H x y v u Q I rx ry h hs;obtain⟨p,xs,i,z,rfl,rfl,hq,he,q⟩:=h;cases rx;obtain⟨t,rfl⟩:=ry;obtain⟨its,r,pl,hz⟩:=I.tuple hq;obtain⟨j,h1,h2,h3,h4,h5⟩:=ZfS he;obtain⟨w,ew,rw'⟩:=r.get h2;have hl:=r.length;have hn:=Zds;have fin:EP X pins σ Q w s:=⟨z,H,I,rw',q⟩;exact subscriptTail_builtinR (x:=w) pl.typeIs slot_tuple_getitem.lookup
  (getItem_tuple (j:=j) (Q:=fun r s'=>r=w/\EP X pins σ Q r s') pl (by lia) (by lia) (by rw[List.size_toArray,<- hl];exact h1) (by simpa using ew) ⟨rfl,fin⟩) hs
theorem ZhU:IxR X ZmB:=by
 intro value slice pins s σ H x y v u Q I rx ry h hs;obtain⟨z,i,c,rfl,rfl,hz,he,q⟩:=h;obtain⟨t,rfl⟩:=rx;obtain⟨t',rfl⟩:=ry;obtain⟨j,h1,h2,h3,h4,h5⟩:=ZfS he;have hl:z.cps.toList.length=z.length:=by simp[Str.length]
 rw[hl] at h1 h4 h5;have hn:=Zds;exact tail_any (typeIs_str s z t) slot_str_getitem.lookup (getItem_str (c:=c) (by
  have e1:decide (i < -(2 ^ 63:Int))=false:=decide_eq_false (by lia);have e2:decide (i>=2 ^ 63)=false:=decide_eq_false (by lia);rw[e1,e2,Bool.or_false]) (by rw[h1];simpa using h2) ⟨.str ⟨#[c]⟩,H,I.tok _,⟨_,rfl⟩,q⟩) hs
theorem Zhf(its:List Value)(n j:Nat)(u:Value):Obj.mapSeq (·.setIfInBounds j u) { cls:=.type "list",data:=.seq its.toArray n }= { cls:=.type "list",data:=.seq (its.set j u).toArray n }:=by
 simp[Obj.mapSeq]
theorem Inv.lst{pins:List (Addr×Obj)}{σ : St}{H:Hp}{s:Shared}{p:Addr}{xs:List V}(I:Inv X pins σ H s)(h:H p=some (.lst xs)) :
  ∃(its:List Value)(n:Nat),Vals xs its/\s.heap.get? p=some { cls:=.type "list",data:=.seq its.toArray n }/\xs.length<=sizeLine:=by
 obtain⟨z,its,n,r,e⟩:=I.hok p _ h;exact⟨its,n,r,e,z⟩
theorem Inv.lstUpd{pins:List (Addr×Obj)}{σ : St}{H:Hp}{s:Shared}{p:Addr}{xs ys:List V}{its its':List Value}{n n':Nat}{f:Obj->Obj}(I:Inv X pins σ H s)(h:H p=some (.lst xs))
  (ho:s.heap.get? p=some { cls:=.type "list",data:=.seq its.toArray n }) (hf:f { cls:=.type "list",data:=.seq its.toArray n }= { cls:=.type "list",data:=.seq its'.toArray n' }) (r:Vals ys its') (hz:ys.length<=sizeLine) (t:Nat) :
  Inv X pins σ (upd H p (.lst ys)) { s with heap:=s.heap.update p f,toks:=t }:=by
 have e:(s.heap.update p f).get? p=some { cls:=.type "list",data:=.seq its'.toArray n' }:=by
  rw[Heap.get?_update_self f ho (by rw[hf] <;> rfl),hf]
 refine I.write (x:=p) (e:=p) (by rw[h];trivial) (.inl rfl) (fun b u hb q=>(Heap.get?_update_other _ _ (Ne.symm hb)).trans q) ⟨_,e⟩ ?_;exact⟨hz,its',n',r,e⟩
def Zl5:V->V->V->Hp->(Hp->Prop)->Prop:=fun o i v H Q=>∃p xs k j,o=.ref p/\i=.int k/\H p=some (.lst xs)/\ixN xs.length k=some j/\Q (upd H p (.lst (xs.set j v)))
theorem set_list:Zl9 X Zl5:=by
 intro pins s σ H o i v ov iv u Q I ro ri rv h;obtain⟨p,xs,k,j,rfl,rfl,hp,hj,q⟩:=h;cases ro;obtain⟨t,rfl⟩:=ri;obtain⟨its,n,r,ho,hz⟩:=I.lst hp;obtain⟨h1,h2,h3,h4⟩:=ZiB hj;have hl:=r.length;have hn:=Zds;have I':Inv X pins σ (upd H p (.lst (xs.set j v))) { s with heap:=s.heap.update p (Obj.mapSeq (·.setIfInBounds j u)) } :=
  I.lstUpd hp ho (Zhf its n j u) (r.set rv j) (by rw[List.length_set];exact hz) s.toks
 by_cases h0:0<=k
 ·have hk:k.toNat=j:=by
   rw[seqIndex_of h0 h4] at h1;exact Option.some.inj h1
  exact PySem.W.ki_setAt ho h0 (by lia) (by rw[List.size_toArray,<- hl];exact h4) (by rw[hk];exact⟨_,I',q⟩)
 ·have hk:(k+(its.toArray.size:Int)).toNat=j:=by
   rw[seqIndex_neg (by lia) h3] at h1;rw[List.size_toArray,<- hl];exact Option.some.inj h1
  exact PySem.W.ki_setBack ho (by lia) (by rw[List.size_toArray,<- hl];exact h3) (by lia) (by rw[hk];exact⟨_,I',q⟩)
theorem Zfc(lo hi:Option Int)(n:Nat):(sliceBounds lo hi none n).1=((HT.sIx n 0 lo:Nat):Int)/\(sliceBounds lo hi none n).2.1=((HT.sIx n n hi:Nat):Int)/\(sliceBounds lo hi none n).2.2=1:=by
 refine⟨?_,?_,rfl⟩
 ·cases lo with
  | none=>simp[sliceBounds,HT.sIx]
  | some i =>
   simp only[sliceBounds,HT.sIx,Option.getD_none,show(1:Int) > 0 by decide,if_true];by_cases h:i<0
   ·simp only[h,if_true] <;> lia
   ·simp only[h,if_false] <;> lia
 ·cases hi with
  | none=>simp[sliceBounds,HT.sIx]
  | some i =>
   simp only[sliceBounds,HT.sIx,Option.getD_none,show(1:Int) > 0 by decide,if_true];by_cases h:i<0
   ·simp only[h,if_true] <;> lia
   ·simp only[h,if_false] <;> lia
theorem Zez(its:List Value)(lo hi:Option Int):slicePick its.toArray lo hi none=((its.drop (HT.sIx its.length 0 lo)).take (HT.sIx its.length its.length hi-HT.sIx its.length 0 lo)).toArray:=by
 obtain⟨h1,h2,h3⟩:=Zfc lo hi its.toArray.size;unfold slicePick;rw[h1,h2,h3];simp only[sliceRange_one,pick_run,List.size_toArray] <;> rfl
def ZmH(K:PySem.W.Frag):V->Option Int->Option Int->Hp->VK->Prop:=fun x lo hi H Q=>∃a xs,x=.ref a/\SqL K H a xs/\∀p,H p=none->Q (.ref p) (upd H p (.lst (ZiH xs lo hi)))
theorem Zij:SlR X (ZmH X.K):=by
 intro pins s σ H x v vl vu lo hi sl Q I rx hs pl pu h;obtain⟨a,xs,rfl,hx,q⟩:=h;cases rx;obtain⟨its,r,ht,hz⟩:=I.list hx;have hlen:=r.length;refine⟨"list",_,slot_list_getitem.lookup,ht.isList.typeIs,?_⟩;refine wpAny_getItem_list_slice ht.isList hs pl pu .none (by simp) ?_ (by rw[List.size_toArray] <;> lia)
 rw[Zez,<- hlen];refine⟨.ref s.heap.objs.size,_,I.laid (t':=s.toks) (o:=.lst (ZiH xs lo hi)) (fun b ob q=>Heap.get?_push_of_some _ q) (Nat.le_refl _) ?_,rfl,q _ (I.hok.fresh (Nat.le_refl _))⟩;exact⟨Nat.le_trans (Zga xs lo hi) hz,_,0,(r.drop (HT.sIx xs.length 0 lo)).take (HT.sIx xs.length xs.length hi-HT.sIx xs.length 0 lo),Heap.get?_push_size _ rfl⟩
theorem Z3:Zb3 X (.builtin "len") (fun xs H Q=>∃p ys,xs=[.ref p]/\(SqL X.K H p ys\/SqT X.K H p ys)/\Q (.int ys.length) H):=by
 intro pins s σ H xs us Q I r h;obtain⟨p,ys,rfl,hq,q⟩:=h;obtain⟨u,rfl,rx⟩:=vals1 r;cases rx;have hn:=Zds;rcases hq with hq|hq
 ·obtain⟨its,r',pl,hz⟩:=I.list hq;have hlen:=r'.length;exact Calls.call_len_list pl.isList (by simp only[List.size_toArray] <;> lia) ⟨.int ys.length,H,I.tok _,⟨s.toks+1,by rw[List.size_toArray,hlen]⟩,q⟩
 ·obtain⟨its,r',pl,hz⟩:=I.tuple hq;have hlen:=r'.length;exact len_tuple pl (by simp only[List.size_toArray] <;> lia) ⟨.int ys.length,H,I.tok _,⟨s.toks+1,by rw[List.size_toArray,hlen]⟩,q⟩
theorem Zfm:Zb3 X (.builtin "len") (fun xs H Q=>∃z,xs=[.str z]/\z.length<=sizeLine/\Q (.int z.length) H):=by
 intro pins s σ H xs us Q I r h;obtain⟨z,rfl,hz,q⟩:=h;obtain⟨u,rfl,t,rfl⟩:=vals1 r;have hn:=Zds;exact len_str (by lia) ⟨.int z.length,H,I.tok _,⟨_,rfl⟩,q⟩
theorem ZcN:Zb3 X (.type "list") (fun xs H Q=>∃p ys,xs=[.ref p]/\(SqL X.K H p ys\/SqT X.K H p ys)/\∀l,H l=none->Q (.ref l) (upd H l (.lst ys))):=by
 intro pins s σ H xs us Q I r h;obtain⟨p,ys,rfl,hq,q⟩:=h;obtain⟨u,rfl,rx⟩:=vals1 r;cases rx;have fin:∀(its:List Value),Vals ys its->ys.length<=sizeLine->∀(h':Heap)(c':Nat),(∀b o',s.heap.get? b=some o'->h'.get? b=some o') ->
   h'.get? s.heap.objs.size=some { cls:=.type "list",dict:=none,data:=.seq its.toArray c',slots :=#[] }->EP X pins σ Q (.ref s.heap.objs.size) { s with heap:=h' }:=fun its r' hz h' c' kp e =>
  ⟨.ref s.heap.objs.size,_,I.laid (t':=s.toks) kp (Nat.le_refl _) (show Zaz X.prog X.w _ h' _ (.lst ys) from⟨hz,its,c',r',e⟩),rfl,q _ (I.hok.fresh (Nat.le_refl _))⟩
 rcases hq with hq|hq
 ·obtain⟨its,r',pl,hz⟩:=I.list hq;have hlen:=r'.length;obtain⟨o,ho,hc,n,hd⟩:=pl.isList;exact call_list_seq p (.inl rfl) ho hc hd (fun h' c' kp e=>fin its r' hz h' c' kp e) (by simp only[List.size_toArray] <;> lia)
 ·obtain⟨its,r',pl,hz⟩:=I.tuple hq;have hlen:=r'.length;obtain⟨o,ho,hc,n,hd⟩:=pl;exact call_list_seq p (.inr rfl) ho hc hd (fun h' c' kp e=>fin its r' hz h' c' kp e) (by simp only[List.size_toArray] <;> lia)
theorem ZaA:Zb3 X (.type "tuple") (fun xs H Q=>∃p ys,xs=[.ref p]/\((SqL X.K H p ys/\∀l,H l=none->Q (.ref l) (upd H l (.tup ys)))\/(SqT X.K H p ys/\Q (.ref p) H))):=by
 intro pins s σ H xs us Q I r h;obtain⟨p,ys,rfl,h⟩:=h;obtain⟨u,rfl,rx⟩:=vals1 r;cases rx;rcases h with⟨hq,q⟩|⟨hq,q⟩
 ·obtain⟨its,r',pl,hz⟩:=I.list hq;have hlen:=r'.length;refine call_tuple_list pl.isList (fun h' kp=>?_) (by simp only[List.size_toArray] <;> lia)
  have I1:Inv X pins σ H { s with heap:=h' }:=I.kept (t':=s.toks) kp;have I2:Inv X pins σ (upd H h'.objs.size (.tup ys)) { s with heap:=h'.push { cls:=.type "tuple",data:=.seq its.toArray } } :=
   I1.laid (t':=s.toks) (fun b o e=>Heap.get?_push_of_some _ e) (Nat.le_refl _) (show Zaz X.prog X.w _ _ _ (.tup ys) from⟨hz,its,r',IsTup.new _ _⟩)
  exact⟨.ref h'.objs.size,_,I2,rfl,q _ (I1.hok.fresh (Nat.le_refl _))⟩
 ·obtain⟨its,r',pl,hz⟩:=I.tuple hq;exact call_tuple_same pl ⟨.ref p,H,I,rfl,q⟩
def tyV(K:PySem.W.Frag)(T:String)(x:V)(H:Hp):Prop:=match x with
 | .str _=>T= "str"
 | .int _=>T= "int"
 | .ref p=>(T= "list" /\ ∃xs,SqL K H p xs)\/(T= "tuple" /\ ∃o,K.lookup p=some o/\o.cls=.type "tuple" /\ o.dict=none) \/
   (T= "dict" /\ ((∃kvs,H p=some (.dK kvs))\/∃kvs,H p=some (.dT kvs)))\/(T= "set" /\ ∃S n,H p=some (.set S n))
 | _=>False
theorem Zjw{pins:List (Addr×Obj)}{σ : St}{H:Hp}{s:Shared}{T:String}{x:V}{v:Value}(I:Inv X pins σ H s)(r:RelV x v)(ty:tyV X.K T x H) :
  s.TypeIs v T/\∀a,v=.ref a->∃ob,s.heap.get? a=some ob/\ob.dict=none:=by
 cases x with
 | str z =>
  obtain⟨t,rfl⟩:=r;cases (show T= "str" from ty);exact⟨typeIs_str s z t,fun _ e=>nomatch e⟩
 | int i =>
  obtain⟨t,rfl⟩:=r;cases (show T= "int" from ty);exact⟨typeIs_int s i t,fun _ e=>nomatch e⟩
 | ref p =>
  cases r;rcases ty with⟨rfl,xs,hq⟩|⟨rfl,o,hk,hc,hd⟩|⟨rfl,hk⟩|⟨rfl,S,n,hk⟩
  ·obtain⟨its,_,pl,_⟩:=I.list hq;refine⟨pl.isList.typeIs,fun a e=>?_⟩;cases e;obtain⟨o,n,e,c,hd,_⟩:=pl;exact⟨o,e,hd⟩
  ·refine⟨⟨o,I.kIn p o hk,hc⟩,fun a e=>?_⟩;cases e;exact⟨o,I.kIn _ o hk,hd⟩
  ·have z:∃o,s.heap.get? p=some o/\o.ExactDict:=by
    rcases hk with⟨kvs,hk⟩|⟨kvs,hk⟩
    ·obtain⟨_,_,_,_,o,_,_,e,ex,_⟩:=I.hok p _ hk;exact⟨o,e,ex⟩
    ·obtain⟨_,_,_,_,o,_,_,e,ex,_⟩:=I.hok p _ hk;exact⟨o,e,ex⟩
   obtain⟨o,e,ex⟩:=z;refine⟨⟨o,e,ex.1⟩,fun a e2=>?_⟩;cases e2;exact⟨o,e,ex.2.1⟩
  ·obtain⟨o,_,_,_,e,ex,_⟩:=I.hok p _ hk;refine⟨⟨o,e,ex.1⟩,fun a e2=>?_⟩;cases e2;exact⟨o,e,ex.2.1⟩
 | _=>exact False.elim ty
def Zmq(K:PySem.W.Frag)(T:String)(r:V->List V->Hp->VK->Prop)(to:TE):TE:=fun σ H Q=>to σ H fun x H1=>tyV K T x H1/\r x [] H1 Q
def tBM(K:PySem.W.Frag)(T:String)(r:V->List V->Hp->VK->Prop)(to:TE)(t:TA):TE:=fun σ H Q=>to σ H fun x H1=>tyV K T x H1/\t σ H1 fun xs H2=>r x xs H2 Q
variable{o e:Expr}{es:List Expr}{to:TE}{t:TA}{name:Str}{apos cpos:Pos}{T id:String}{r:V->List V->Hp->VK->Prop}
theorem ZcL(pa:PlainAttrs T)(slot:Slot T name id)(hty:typeOf (.builtin id)=pure (.type "method_descriptor")) (hm:MtR X id r) (ho:PE X o to)
  (hbase:attributeBase o name X.env (eval o X.env)=eval o X.env:=by rfl) (hline:(apos.endLine == cpos.line)=true:=by rfl):PE X (.Call (.Attribute o name apos) [] [] cpos) (Zmq X.K T r to):=by
 intro pins s σ H Q I h;refine wpAny_Call_method0_late hbase hline (thn (ho pins s σ H _ I h) fun v s1 ⟨x,H1,I1,r1,ty,q1⟩=>?_);obtain⟨h1,h2⟩:=Zjw I1 r1 ty;exact⟨T,id,pa,slot,hty,h1,h2,Calls.callWith_builtin rfl (PySem.evalArgs_none (hm pins s1 σ H1 x [] v [] Q I1 r1 .nil q1))⟩
theorem Zbp(pa:PlainAttrs T)(slot:Slot T name id)(hty:typeOf (.builtin id)=pure (.type "method_descriptor")) (hm:MtR X id r) (ho:PE X o to) (ha:PA X (e::es) t)
  (hbase:attributeBase o name X.env (eval o X.env)=eval o X.env:=by rfl)
  (hfew:((backTo cpos (starEach (e::es) X.env)).all (fun x=>!x.1)&&(backToKw cpos (keywordEach [] X.env)).all (fun x=>x.1.isSome)
   && decide ((e::es).length+([]:List Keyword).length+(if([]:List Keyword).isEmpty then 0 else 1)<30))=true:=by rfl)
  (hline:(apos.endLine == cpos.line)=true:=by rfl) (hs:starEach (e::es) X.env=(false,eval e X.env)::starEach es X.env:=by rfl) (hplain:(backTo cpos (starEach es X.env)).any (·.1)=false:=by rfl) :
  PE X (.Call (.Attribute o name apos) (e::es) [] cpos) (tBM X.K T r to t):=by
 intro pins s σ H Q I h;refine wpAny_Call_method_late hbase hfew hline rfl (thn (ho pins s σ H _ I h) fun v s1 ⟨x,H1,I1,r1,ty,q1⟩=>?_);obtain⟨h1,h2⟩:=Zjw I1 r1 ty;refine⟨T,id,pa,slot,hty,h1,h2,?_⟩;have hA:=ha cpos pins s1 σ H1 _ I1 q1;rw[hs] at hA ⊢;refine Calls.callWith_builtin (by show(false || (backTo cpos (starEach es X.env)).any (·.1))=false;rw[hplain] <;> rfl) (Calls.evalArgs_plain ?_)
 exact thn hA fun us s2 ⟨vs,H2,I2,r2,q2⟩=>hm pins s2 σ H2 x vs v us Q I2 r1 r2 q2
/- xs.append(e),list.index on a module's tuple .. are MtR facts of 06m -/
end
def MtM(X:Cx)(id:String)(r:V->List V->Hp->VK->Prop):Prop :=
 ∀(pins:List (Addr×Obj))(s:Shared)(σ : St)(H:Hp)(x:V)(xs:List V)(v:Value)(us:List Value)(Q:VK),Inv X pins σ H s->RelV x v->Vals xs us->r x xs H Q ->
  wpAny (model X.prog X.w) X.A (call (.builtin id) (v::us)) (EP X pins σ Q) X.xe s
theorem Vals.one:∀{x:V}{us:List Value},Vals [x] us->∃u,us=[u]/\RelV x u
 | _,_,.cons r .nil=>⟨_,rfl,r⟩
theorem Vals.two:∀{x y:V}{us:List Value},Vals [x,y] us->∃u v,us=[u,v]/\RelV x u/\RelV y v
 | _,_,_,.cons r (.cons q .nil)=>⟨_,_,rfl,r,q⟩
theorem Vals.zero:∀{us:List Value},Vals [] us->us=[]
 | _,.nil=>rfl
theorem Vals.dropLast{xs:List V}{us:List Value}(h:Vals xs us):Vals xs.dropLast us.dropLast:=by
 induction h with
 | nil=>exact .nil
 | cons r t ih =>
  cases t with
  | nil=>exact .nil
  | cons q t'=>exact .cons r ih
theorem Zhi{α : Type}(l:List α):l.eraseIdx (l.length-1)=l.dropLast:=by
 induction l with
 | nil=>rfl
 | cons a r ih =>
  cases r with
  | nil=>rfl
  | cons b r =>
   have e:(a::b::r).length-1=((b::r).length-1)+1:=by
    have h1:(a::b::r).length=r.length+2:=rfl;have h2:(b::r).length=r.length+1:=rfl;lia
   rw[e,List.eraseIdx_cons_succ,ih]
   all_goals rfl
section
variable{X:Cx}{pins:List (Addr×Obj)}{σ : St}{H:Hp}{s:Shared}{l b:Addr}{xs ys zs:List V}
theorem Inv.lset{its its':List Value}{n:Nat}{f:Array Value->Array Value}{t':Nat}(I:Inv X pins σ H s)(hH:H l=some (.lst xs))
  (e:s.heap.get? l=some { cls:=.type "list",data:=.seq its.toArray n }) (hf:f its.toArray=its'.toArray) (hv:Vals ys its') (hz:ys.length<=sizeLine) :
  Inv X pins σ (upd H l (.lst ys)) { s with heap:=s.heap.update l (Obj.mapSeq f),toks:=t' }:=by
 have q:=PySem.IsL.update e f;rw[hf] at q;refine I.write (x:=l) (e:=l) (by rw[hH];exact trivial) (.inl rfl) (fun b' u hb hu=>(Heap.get?_update_other s.heap (Obj.mapSeq f) (Ne.symm hb)).trans hu) ⟨_,q⟩ ?_;exact⟨hz,its',_,hv,q⟩
theorem Inv.lnew{its:List Value}{t':Nat}(I:Inv X pins σ H s)(hv:Vals ys its)(hz:ys.length<=sizeLine) :
  Inv X pins σ (upd H s.heap.objs.size (.lst ys)) { s with heap:=s.heap.push { cls:=.type "list",data:=.seq its.toArray },toks:=t' } :=
 I.laid (fun _ _ q=>Heap.get?_push_of_some _ q) (Nat.le_refl _) ⟨hz,its,0,hv,Heap.get?_push_size _ rfl⟩
theorem Inv.fresh(I:Inv X pins σ H s):H s.heap.objs.size=none:=I.hok.fresh (Nat.le_refl _)
theorem Inv.lstM(I:Inv X pins σ H s)(hH:H l=some (.lst xs)):xs.length<=sizeLine/\∃(its:List Value)(n:Nat),Vals xs its/\xs.length=its.length/\s.heap.get? l=some { cls:=.type "list",data:=.seq its.toArray n }:=by
 obtain⟨z,its,n,r,e⟩:=I.hok l _ hH;exact⟨z,its,n,r,r.length,e⟩
theorem Zjs{n:Nat}(h:n<=sizeLine):Builtin.List.listTooLong n=false:=by
 unfold Builtin.List.listTooLong;exact decide_eq_false (by lia)
end
section
variable{X:Cx}
def ZkE:V->List V->Hp->VK->Prop:=fun x vs H Q=>∃l xs y,x=.ref l/\vs=[y]/\H l=some (.lst xs)/\xs.length<sizeLine/\Q .non (upd H l (.lst (xs ++ [y])))
theorem ZR:MtM X "list.append" ZkE:=by
 intro pins s σ H x vs v us Q I rx rv h;obtain⟨l,xs,y,rfl,rfl,hH,hz,q⟩:=h;cases rx;obtain⟨u,rfl,ru⟩:=rv.one;obtain⟨z,its,n,r,hl,e⟩:=I.lstM hH;refine call_meets F.slot_list_append ⟨_,e,rfl⟩ F.entry_list_append (F.args_list_append_2 _ _) (PySem.list_append l its.toArray n u (by rw[List.size_toArray];lia)) ⟨e,?_⟩;refine⟨.non,_,I.lset (its':=its ++ [u]) hH e (by simp) (r.append (.cons ru .nil)) ?_,rfl,q⟩;rw[List.length_append,List.length_singleton];lia
def ZkB:V->List V->Hp->VK->Prop:=fun x vs H Q=>∃l b xs zs,x=.ref l/\vs=[.ref b]/\H l=some (.lst xs)/\H b=some (.lst zs)/\xs.length+zs.length<=sizeLine/\Q .non (upd H l (.lst (xs++zs)))
theorem Ze7:MtM X "list.extend" ZkB:=by
 intro pins s σ H x vs v us Q I rx rv h;obtain⟨l,b,xs,zs,rfl,rfl,hH,hB,hz,q⟩:=h;cases rx;obtain⟨u,rfl,ru⟩:=rv.one;cases ru;obtain⟨z,its,n,r,hl,e⟩:=I.lstM hH;obtain⟨z2,its2,n2,r2,hl2,e2⟩:=I.lstM hB;have hsz:its.toArray.size+its2.toArray.size<=sizeLine:=by rw[List.size_toArray,List.size_toArray];lia
 have hlong : ¬ (!its.toArray.isEmpty&&Builtin.List.listTooLong (its.toArray.size+its2.toArray.size))=true:=by
  rw[Zjs hsz,Bool.and_false];exact Bool.false_ne_true
 refine call_meets F.slot_list_extend ⟨_,e,rfl⟩ F.entry_list_extend (F.args_list_extend_2 _ _)
  (AutoSeq1.list_extend_list_list_0 l its.toArray n b its2.toArray n2 hlong (by rw[List.size_toArray];lia) (by lia)) ⟨e,e2,?_⟩
 refine⟨.non,_,I.lset (its':=its++its2) hH e (by simp) (r.append r2) ?_,rfl,q⟩;rw[List.length_append];lia
def Zmv:V->List V->Hp->VK->Prop:=fun x vs H Q=>∃l xs y,x=.ref l/\vs=[]/\H l=some (.lst xs)/\xs[xs.length-1]?= some y/\Q y (upd H l (.lst xs.dropLast))
theorem Zdu:MtM X "list.pop" Zmv:=by
 intro pins s σ H x vs v us Q I rx rv h;obtain⟨l,xs,y,rfl,rfl,hH,hy,q⟩:=h;cases rx;have hus:=rv.zero;subst hus;obtain⟨z,its,n,r,hl,e⟩:=I.lstM hH;obtain⟨u,hu,ru⟩:=r.get hy;have hy':its.toArray[its.toArray.size-1]?= some u:=by
  show its.toArray[its.length-1]?= some u;rw[<- Array.getElem?_toList,<- hl];exact hu
 refine call_meets F.slot_list_pop ⟨_,e,rfl⟩ F.entry_list_pop (F.args_list_pop_1 _) (MeetsSeq.list_pop_last l its.toArray n u hy' (by rw[List.size_toArray];lia)) ⟨e,?_⟩;refine⟨y,_,I.lset (its':=its.dropLast) hH e ?_ r.dropLast ?_,ru,q⟩
 ·show its.toArray.eraseIdxIfInBounds (its.toArray.size-1)=its.dropLast.toArray;rw[List.size_toArray,List.eraseIdxIfInBounds_toArray,Zhi]
 ·rw[List.length_dropLast];lia
def ZkT:V->List V->Hp->VK->Prop:=fun x vs H Q=>∃l xs,x=.ref l/\vs=[]/\H l=some (.lst xs)/\Q .non (upd H l (.lst []))
theorem Zi6:MtM X "list.clear" ZkT:=by
 intro pins s σ H x vs v us Q I rx rv h;obtain⟨l,xs,rfl,rfl,hH,q⟩:=h;cases rx;have hus:=rv.zero;subst hus;obtain⟨z,its,n,r,hl,e⟩:=I.lstM hH;refine call_meets F.slot_list_clear ⟨_,e,rfl⟩ F.entry_list_clear (F.args_list_clear_1 _) (AutoSeq1.list_clear_list_0 l its.toArray n (by rw[List.size_toArray];lia)) ⟨e,?_⟩;exact⟨.non,_,I.lset (its':=[]) (ys:=[]) hH e rfl .nil (Nat.zero_le _),rfl,q⟩
def Zmt:R2:=fun x y H Q=>∃l b xs zs,x=.ref l/\y=.ref b/\H l=some (.lst xs)/\H b=some (.lst zs)/\xs.length+zs.length<=sizeLine/\∀p,H p=none->Q (.ref p) (upd H p (.lst (xs++zs)))
theorem ZjS:OpR X (binaryOp .Add) Zmt:=by
 intro pins s σ H x y v u Q I rx ry h;obtain⟨l,b,xs,zs,rfl,rfl,hH,hB,hz,q⟩:=h;cases rx;cases ry;obtain⟨z,its,n,r,hl,e⟩:=I.lstM hH;obtain⟨z2,its2,n2,r2,hl2,e2⟩:=I.lstM hB;refine PySem.P.add_list e e2 ?_ (by rw[List.size_toArray,List.size_toArray];lia);have ea:its.toArray++its2.toArray=(its++its2).toArray:=by simp
 rw[ea];exact⟨.ref _,_,I.lnew (t':=s.toks) (r.append r2) (by rw[List.length_append];lia),rfl,q _ I.fresh⟩
end
end L2
namespace Att
open PySem PySem.W PySem.Calls PyProof.Rows
theorem Zdm{P:Params}{h:Heap}:∀(ns:List Int)(vs:List Value),WellAll P h vs (ns.map WData.int)->IntsAre vs ns:=by
 intro ns
 induction ns with
 | nil =>
  intro vs w;rw[List.map_nil] at w;cases w;exact .nil
 | cons n ns ih =>
  intro vs w;rw[List.map_cons] at w;cases w with
  | cons a b =>
   cases a;exact .cons _ _ (ih _ b)
theorem Ziy{l:OpenLaw}{n:Nat}(hn:l.most=some n){P:Params}{h:Heap}{args:List WData}{vals:List Value}
  (hpre:l.row.toRowW.claim.pre args=true) (hwl:WellAll P h vals args) :
  ∃a vs ns,vals=[Value.ref a]/\args=[WData.list (ns.map WData.int)]/\h.get? a=some { cls:=.type "list",data:=.seq vs.toArray }/\IntsAre vs ns/\ns.length<=n:=by
 have hsh:WShape.hasAll [] args [.list .int]=true:=(pre_splitW hpre).1;have hc:l.pre.holds [] { args:=args }=true:=(pre_splitW hpre).2;obtain⟨d,r,rfl,h1,h2⟩:=hasAllW_cons hsh;obtain rfl:=hasAllW_nil h2;obtain⟨xs,rfl,h3⟩:=hasW_list h1;obtain⟨ns,rfl⟩:=items_int h3;have hlen:ns.length<=n:=by
  unfold OpenLaw.pre at hc;have h4:(WTm.not (.lt (.lit (.int (n:Int))) (.len (.arg 0)))).holds [] { args:=[.list (ns.map .int)] }=true:=by
   have h4:=(holds_andW hc).1;rw[hn] at h4;exact h4
  have h5:=condW_of h4 (w_not (w_lt w_lit (w_len_list (w_arg rfl))));rw[List.length_map] at h5;refine Nat.le_of_not_lt fun q=>?_;have q':(n:Int)<((ns.length:Nat):Int):=by lia
  first
   | (rw[decide_eq_true q'] at h5;exact absurd h5 (by decide))
   | (simp at h5;lia)
 cases hwl with
 | cons w1 w2 =>
  cases w2;cases w1 with
  | list ho hall=>exact⟨_,_,ns,rfl,rfl,ho,Zdm ns _ hall,hlen⟩
theorem ZhS(l:OpenLaw)(args:List WData):l.row.toRowW.claim.post args (.bool true) args=true :=
 postW_of (r:=l.row.toRowW) (X:=(true == true))
  (show WShape.has [] (.bool true) .bool=true by first|rfl|decide|simp[WShape.has,WShape.arms,WShape.armsAll])
  (show(WTm.eq .res (.lit (.bool true))).value [] { args:=args,res:=some (.bool true),after:=args }=some (.bool (true == true)) from w_eq_bool (w_res rfl) w_lit) rfl
theorem ZfH{l:OpenLaw}{n:Nat}{q:Program}{loose:List Str}{XP:(Str->Option Value)->Heap->Prop}{YP:World->Heap->Prop}{d:DefRec}
  (hn:l.most=some n) (hdf:d.params.defaults=[])
  (call:∀(w:World)(s₀ s₁ : Shared)(mg mb:Str->Option Value)(fa:Addr)(o:Obj)(pm cd doc:Value)(a:Addr)(vs:List Value)(ns:List Int),
   Ground q loose [] XP w s₀ mg mb s₁.heap->YP w s₁.heap ->
   s₁.heap.get? fa=some o->o.data=.func (docDef d.name d.params d.body d.scope pm cd doc)->s₁.heap.CodeRec cd d.name->mg d.name=some (.ref fa) ->
   s₁.heap.get? a=some { cls:=.type "list",data:=.seq vs.toArray }->IntsAre vs ns->ns.length<=n->s₁.gens=#[] ->
   codeAny (model l.prog w) callerA (.call (.ref fa) ⟨[.ref a],[]⟩) (fun r s'=>r=.ok (.ret (.bool true))/\OldK s₁.heap s'.heap/\s'.os=s₁.os/\AllBare s'.gens) s₁) :
  WalkO q loose XP YP l.row.toRowW d [] (fun f vs=>PySem.call f vs):=by
 intro w s₀ s₁ mg mb G Y fa o pm cd doc dV kV ho hd hcd hD hmg hg args vals as hpre hlay hrd hwl hlo;obtain rfl:dV=.none:=Dflts.none hD hdf;obtain rfl:kV=.none:=Dflts.noKw hD;obtain⟨a,vs,ns,rfl,rfl,hobj,hints,hlen⟩:=Ziy hn hpre hwl;refine enter_call (codeAny_mono (call w s₀ s₁ mg mb fa o pm cd doc a vs ns G Y ho (fd_plain hd) hcd hmg hobj hints hlen hg) fun r s' hq=>?_);obtain⟨rfl,h2,h3,h4⟩:=hq;exact⟨.inl ⟨.bool true,.bool true,[],rfl,fun _=>rfl,.bool true,ZhS l _,fun _=>⟨List.Pairwise.nil,fun _ hm=>(nomatch hm)⟩⟩,h2,h3,h4⟩
end Att
namespace L2
open PySem PySem.Spec PyProof.Rows
theorem Zfd:∀{vs:List Value}{ns:List Int},IntsAre vs ns->Vals (ns.map V.int) vs
 | _,_,.nil=>.nil
 | _,_,.cons n t h=>.cons ⟨t,rfl⟩ (Zfd h)
def Only(H:Hp):Prop := ∀b,H b=none\/∃o xs,H b=some (.frz o (.lst xs))
theorem Zi9{P:Program}{w:World}{K:PySem.W.Frag}{mg mb:Str->Option Value}{CX:CXT}{k:Nat}{fa a:Addr}{fd:FuncData}{x:Str}{sp:Sp}{s₁ : Shared}{vs:List Value}{ns:List Int}
  (KX:K.In s₁.heap) (hns:s₁.heap.Ns mainGlobals mg) (hb:s₁.heap.Ns builtinsNs mb) (hbb:∀x:Str,x ≠ "__name__" -> mb x=bootBuiltins x) (hlim:s₁.heap.NoLimit) (hg:s₁.gens=#[])
  (ha:s₁.heap.get? a=some { cls:=.type "list",data:=.seq vs.toArray }) (hi:IntsAre vs ns) (hl:ns.length<=sizeLine) (hr:Room k callerA)
  (F:∀base:Heap,K.In base->base.Ns mainGlobals mg->FnOk P w K mg base CX k fa fd [x] sp) (hbind:∀(s:Shared)(u:Value),BindsTo s fd ⟨[u],[]⟩ [(x,u)])
  (hsp:∀H:Hp,Only H->SqL K H a (ns.map V.int)->sp [.ref a] H (fun v _=>v=.bl true) fun _ _ _=>False)
  (hCX:∀H e s',CX [] H s₁ (fun _ _ _=>False) e s'->False) :
  codeAny (model P w) callerA (.call (.ref fa) ⟨[.ref a],[]⟩) (fun r s'=>r=.ok (.ret (.bool true))/\OldK s₁.heap s'.heap/\s'.os=s₁.os/\AllBare s'.gens) s₁ := by
 have rv:=Zfd hi;have lenV:=hi.length;have core:∀H:Hp,Only H->SqL K H a (ns.map V.int)->HOk P w H s₁.heap->(∀b,H b≠none->b=a)->(H a≠none->K.lookup a=none) ->
   codeAny (model P w) callerA (.call (.ref fa) ⟨[.ref a],[]⟩) (fun r s'=>r=.ok (.ret (.bool true))/\OldK s₁.heap s'.heap/\s'.os=s₁.os/\AllBare s'.gens) s₁ := by
  intro H hO hS hok hA hK;have base_of:∀{b:Addr}{o:Obj},s₁.heap.get? b=some o->H b=none->(ZiX s₁.heap H).get? b=some o:=fun e n=>Zjr e n;have noA:∀{b:Addr}{o:Obj}{es:Array DictEntry}{ep:Nat},s₁.heap.get? b=some o->o.data=.dict es ep->H b=none:=fun{b o es ep} e d=>by
   cases q:H b with
   | none=>rfl
   | some u =>
    have e':b=a:=hA b (by rw[q];simp);subst e';rw[ha] at e;cases e;have d':Data.seq vs.toArray _=Data.dict es ep:=d;cases d'
  have nsK:∀{b:Addr}{m:Str->Option Value},s₁.heap.Ns b m->(ZiX s₁.heap H).Ns b m:=fun{b m} ⟨o,es,ep,e,d,r⟩=>⟨o,es,ep,base_of e (noA e d),d,r⟩;have hKb:K.In (ZiX s₁.heap H):=fun b o e=>base_of (KX b o e) (by
   cases q:H b with
   | none=>rfl
   | some u =>
    have e':b=a:=hA b (by rw[q];simp);subst e';rw[hK (by rw[q];simp)] at e;cases e)
  have hM:Mod K mg (ZiX s₁.heap H):=⟨hKb,nsK hns,⟨mb,nsK hb,hbb⟩,let ⟨mc,h1,h2⟩:=hlim;⟨mc,nsK h1,h2⟩⟩;have e0:Env0 P w K mg (ZiX s₁.heap H) callerA [] s₁ H:=⟨rfl,hM,fun b o e=>Zj8 e,Nat.le_of_eq (ZhT _ _),trivial,fun b hb=>absurd (show b∈([]:List Addr) from hb) (by simp),hok,.of_eq hg⟩;refine codeAny_mono ((F _ hKb (nsK hns)).run callerA [] s₁ H ⟨[.ref a],[]⟩ [.ref a] [.ref a] _ _ hr e0 (hbind s₁ (.ref a)) (.cons rfl .nil) (hsp H hO hS)) fun r s' h=>?_;cases r with
  | error e=>exact(hCX H e s' h).elim
  | ok fl =>
   cases fl with
   | next=>exact False.elim h
   | brk=>exact False.elim h
   | cont=>exact False.elim h
   | ret u =>
    obtain⟨v,H',os,bare,un,hok',r',q⟩:=h;have q':v=.bl true:=q;subst q';obtain rfl:u=Value.bool true:=r';refine⟨rfl,OldK.of_keep fun b o e=>?_,os,bare⟩;cases q:H b with
    | none=>exact un.keep b o e q (by intro z;exact absurd (show b∈([]:List Addr) from z) (by simp)) (by simp)
    | some u =>
     rcases hO b with z|⟨ob,xs,z⟩
     ·rw[q] at z;cases z
     ·have z2:=un.frzs b ob _ z;obtain⟨e1,_⟩:=hok b _ z;obtain⟨e2,_⟩:=hok' b _ z2;rw[e] at e1;cases e1;exact e2
 cases hk:K.lookup a with
 | some o =>
  have e:=KX a o hk;rw[ha] at e;cases e;refine core (fun _=>none) (fun _=>.inl rfl) (.inr ⟨_,vs.toArray,_,hk,rfl,rfl,rfl,by rw[List.size_toArray,lenV];exact hl,by simpa using rv⟩) (fun b u z=>by have z':(none:Option HO)=some u:=z;cases z') (fun b z=>absurd rfl z) fun z=>absurd rfl z
 | none =>
  refine core (fun b=>if b=a then some (.frz { cls:=.type "list",data:=.seq vs.toArray } (.lst (ns.map V.int))) else none) (fun b=>?_) (.inl (.inr ⟨{ cls:=.type "list",data:=.seq vs.toArray },if_pos rfl⟩)) (fun b u z=>?_) (fun b z=>?_) fun _=>hk
  ·by_cases hb:b=a
   ·exact .inr ⟨_,_,if_pos hb⟩
   ·exact .inl (if_neg hb)
  ·by_cases hb:b=a
   ·have z':=(if_pos hb).symm.trans z;cases z';subst hb;exact⟨ha,by rw[List.length_map];exact hl,vs,_,rv,ha⟩
   ·have z':=(if_neg hb).symm.trans z;cases z'
  ·by_cases hb:b=a
   ·exact hb
   ·exact absurd (if_neg hb) z
theorem Zii{l:PySem.W.OpenLaw}{n k:Nat}{q:Program}{loose:List Str}{XP:(Str->Option Value)->Heap->Prop}{YP:World->Heap->Prop}{d:DefRec}{K:Params->PySem.W.Frag}{CX:World->CXT}{sp:World->Sp}{x:Str}
  (hn:l.most=some n) (hn2:n<=sizeLine) (hdf:d.params.defaults=[]) (hr:Room k callerA)
  (hY:∀(w:World)(h:Heap),YP w h->(K w.params).In h)
  (F:∀(w:World)(mg:Str->Option Value)(fa:Addr)(h:Heap),(K w.params).In h->h.Ns mainGlobals mg->mg d.name=some (.ref fa) ->
   ∃fd:FuncData,(∀(s:Shared)(u:Value),BindsTo s fd ⟨[u],[]⟩ [(x,u)]) /\
    ∀base:Heap,(K w.params).In base->base.Ns mainGlobals mg->FnOk l.prog w (K w.params) mg base (CX w) k fa fd [x] (sp w))
  (hsp:∀(w:World)(H:Hp)(a:Addr)(ns:List Int),ns.length<=n->Only H->SqL (K w.params) H a (ns.map V.int)->sp w [.ref a] H (fun v _=>v=.bl true) fun _ _ _=>False)
  (hCX:∀(w:World)(H:Hp)(s:Shared)(e:Value)(s':Shared),CX w [] H s (fun _ _ _=>False) e s'->False) :
  PySem.W.WalkO q loose XP YP l.row.toRowW d [] (fun f vs=>PySem.call f vs):=by
 refine Att.ZfH hn hdf fun w s₀ s₁ mg mb fa o pm cd doc a vs ns G Y ho hd hcd hmg hobj hints hlen hg=>?_;have KX:=hY w _ Y;obtain⟨fd,hb,hF⟩:=F w mg fa _ KX G.T.g hmg;exact Zi9 KX G.T.g G.T.b G.T.builtins G.T.nolimit hg hobj hints (Nat.le_trans hlen hn2) hr hF hb (fun H hO hS=>hsp w H a ns hlen hO hS) fun H e s'=>hCX w H s₁ e s'
end L2
/- THE LAST THEOREM (shape;LID,My.* are yours):
   My.Adr: a structure of the addresses that your layer names (classes,functions);My.Txt K t: a structure (Prop) of the equations over K;
   My.txt_mk:{K} {implicit addresses ..} (e1:nsIn K mainGlobals "law" = some (some (.ref f))) (e2:K.lookup f=some ⟨oc,od,.func (fnOf "law" "law" params body scope dV kV doc pm an cdv ct),sl⟩) (e3:codeIn K cdv "law" = true) .. : ∃t,My.Txt K t
set_option maxRecDepth 100000 in
set_option maxHeartbeats 0 in
theorem PySem.Challenge.cw_LID_holds : PySem.Challenge.rw_LID.Holds := by
 w_on;o_law;k_head;(case hw=>w_witness2)
 k_fill
 refine L2.Zii (l:=PySem.Challenge.rw_LID) (n:=63) (k:=40) (x := "script") (CX:=fun w=>..) (sp:=fun _=>My.sp_law) rfl (by decide) rfl ⟨rfl,by decide,by decide⟩ (fun w h Y=>PySem.W.kIn_of Y) ?F ?S ?C
 case F =>
  intro w mg fa h KX G hmg;have T:∃t,My.Txt (L2.KOf KX) t:=by
   dsimp only[L2.KOf]                          -- K must stand as «<heap const> w.params» for k_is
   refine' My.txt_mk ?e1 ?e2 ?e3 ..
   (case e1=>PySem.W.k_is)                    -- in the order: a name->its address->its object->its parts
   (case e2=>PySem.W.k_is)
   ..
  obtain⟨t,T⟩:=T;have e0:=hmg.symm.trans (PySem.W.mg_of KX G T.law);cases e0                                       -- fa is the law's own address
  exact⟨_,fun s u=>.of_eq rfl,fun base kb nb=>My.law_fn T kb nb⟩     -- if «.of_eq rfl» comes too early: refine' ⟨_,?b,fun base kb nb=>My.law_fn T kb nb⟩;exact fun s u=>.of_eq rfl
 case S=>exact fun w H a ns hl hO hS=>..
 case C=>exact ..
(the tactic k_is has no namespace: write k_is) -/
namespace L2
open PySem PySem.Spec PyProof.Rows
def inClass(s:Stmt)(j:Nat):Stmt:=match s with
 | .ClassDef _ _ _ body _ _ _ _ _ _ _=>body.getD j (.Pass ⟨0,0,0,0⟩)
 | _=>.Pass ⟨0,0,0,0⟩
def Zx(s:Stmt):Arguments:=match s with
 | .FunctionDef _ a _ _ _ _ _ _ _ _=>a
 | _=>{ posonlyargs:=[],args:=[],vararg:=none,kwonlyargs:=[],kw_defaults:=[],kwarg:=none,defaults:=[] }
def Ze(s:Stmt):List Stmt:=match s with
 | .FunctionDef _ _ b _ _ _ _ _ _ _=>b
 | _=>[]
def Zh(s:Stmt):Scope:=match s with
 | .FunctionDef _ _ _ _ _ _ sc _ _ _=>sc
 | _=>{ kind:=.function,names:=[],isGenerator:=false,isCoroutine:=false }
abbrev CX0:CXT:=fun _ _ _ _ _ _=>False
abbrev E0:XK:=fun _ _ _=>False
theorem Zjb{X:Cx}:Zdr CX0 X E0:=fun _ _ _ _ _ _ _ h=>h.elim
structure Fun(K:PySem.W.Frag)(x qual:Str)(st:Stmt)(f:Addr)(fd:FuncData):Prop where
 ex:∃(oc:Value)(od:Option Addr)(kV doc pm:Value)(an:Option Addr)(cdv ct:Value)(osl:Array (Option Value)),
  fd=PySem.W.fnOf x qual (Zx st) (Ze st) (Zh st) .none kV doc pm an cdv ct/\K.lookup f=some ⟨oc,od,.func fd,osl⟩/\PySem.W.codeIn K cdv qual=true
 kp:PySem.W.keepIn K (.ref f)=true
section
variable{P:Program}{w:World}{K:PySem.W.Frag}{mg:Str->Option Value}{base:Heap}
theorem Fun.ok{x qual:Str}{st:Stmt}{f:Addr}{fd:FuncData}{N ps:List Str}{k:Nat}{sp:Sp}(F:Fun K x qual st f fd)(S:FnScope N ps (Zh st))(len:∀vs H Q E,sp vs H Q E->vs.length=ps.length)
  (hbody:∀(cdv:Value)(A:Around)(outer:List Env)(s:Shared)(H:Hp)(vs:List V)(Q:VK)(E:XK),Room k (A.deeper (envOfC qual (Zh st) s.heap.objs.size f cdv))->sp vs H Q E ->
   ∃t,PSs (ZkL CX0 P w K mg base N qual (Zh st) f cdv A outer s H E).nox (Ze st) t/\t { nx:=fun _ H'=>Q .non H',rt:=Q } (start N vs) H):FnOk P w K mg base CX0 (k+1) f fd ps sp:=by
 obtain⟨oc,od,kV,doc,pm,an,cdv,ct,osl,rfl,lk,hcd⟩:=F.ex;refine ZlP lk hcd S len fun A outer s H vs Q E hr hsp=>?_;obtain⟨t,h,q⟩:=hbody cdv A outer s H vs Q E hr hsp;exact⟨t,h.nox,q⟩
theorem Fun.binds{x qual:Str}{st:Stmt}{f:Addr}{fd:FuncData}{ps:List Str}(F:Fun K x qual st f fd)
  (h:∀(kV doc pm:Value)(an:Option Addr)(cdv ct:Value)(us:List Value),us.length=ps.length->bindArgs (PySem.W.fnOf x qual (Zx st) (Ze st) (Zh st) .none kV doc pm an cdv ct) ⟨us,[]⟩=pure (ps.zip us)):Binds K fd ps []:=by
 obtain⟨oc,od,kV,doc,pm,an,cdv,ct,osl,rfl,lk,hcd⟩:=F.ex;exact .all (h kV doc pm an cdv ct)
theorem Z5{x qual:Str}{st:Stmt}{f:Addr}{oc:Value}{od an:Option Addr}{osl:Array (Option Value)}{kV doc pm cdv ct:Value}(l:K.lookup f=some ⟨oc,od,.func (PySem.W.fnOf x qual (Zx st) (Ze st) (Zh st) .none kV doc pm an cdv ct),osl⟩)
  (c:PySem.W.codeIn K cdv qual=true) (k:PySem.W.keepIn K (.ref f)=true):Fun K x qual st f (PySem.W.fnOf x qual (Zx st) (Ze st) (Zh st) .none kV doc pm an cdv ct):=⟨⟨oc,od,kV,doc,pm,an,cdv,ct,osl,rfl,l,c⟩,k⟩
end
section
variable{X:Cx}
theorem pv(i:Nat){x:Str}{pos:Pos}(hN:X.N[i]?= some x:=by rfl)(hv:Vis X.env.scope x:=by first|exact Or.inl rfl|exact Or.inr (Or.inl rfl)|exact Or.inr (Or.inr rfl))(hd:(x == ("__debug__" : Str))=false:=by decide)
  (hcd:(x == ("__classdict__" : Str))=false:=by decide):PE X (.Name x pos) (Zmg i):=Zlt hN hv hd hcd
end
theorem Zbu{A B:Prop}(h:B):if false=true then A else B:=by
 rw[if_neg Bool.false_ne_true];exact h
theorem Zci{A B:Prop}(h:A):if true=true then A else B:=by
 rw[if_pos rfl];exact h
theorem ZbX{c A B:Prop}[Decidable c](h1:c->A)(h2 : ¬ c->B):if c then A else B:=by
 by_cases h:c
 ·rw[if_pos h];exact h1 h
 ·rw[if_neg h];exact h2 h
def Zk(H H':Hp):Prop := ∀b o,H b=some o->H' b=some o
theorem Zk.refl(H:Hp):Zk H H:=fun _ _ h=>h
theorem Zk.trans{H H1 H2:Hp}(a:Zk H H1)(b:Zk H1 H2):Zk H H2:=fun c o h=>b c o (a c o h)
theorem Zk.free{H H':Hp}(e:Zk H H'){l:Addr}(h:H' l=Option.none):H l=Option.none:=by
 cases q:H l with
 | none=>rfl
 | some o =>
  rw[e l o q] at h;cases h
theorem Zk.seq{K:PySem.W.Frag}{H H':Hp}{a:Addr}{xs:List V}(e:Zk H H')(h:SqL K H a xs):SqL K H' a xs:=by
 rcases h with(h|⟨o,h⟩)|h
 ·exact .inl (.inl (e _ _ h))
 ·exact .inl (.inr ⟨o,e _ _ h⟩)
 ·exact .inr h
theorem Zf4:bootBuiltins "list" = some (.type "list"):=by decide +kernel
theorem Zbs:bootBuiltins "tuple" = some (.type "tuple"):=by decide +kernel
theorem Zlf:bootBuiltins "int" = some (.type "int"):=by decide +kernel
theorem ZeF:bootBuiltins "bool" = some (.type "bool"):=by decide +kernel
theorem Zei:bootBuiltins "dict" = some (.type "dict"):=by decide +kernel
theorem ZaB:bootBuiltins "isinstance" = some (.builtin "isinstance"):=by decide +kernel
section
variable{X:Cx}
theorem Zf7{x:Str}{n:String}{pos:Pos}(hg:Gl X x)(hm:X.mg x=none)(hv:bootBuiltins x=some (.type n))(hn:x ≠ "__name__" := by decide) (hd:(x == ("__debug__" : Str))=false:=by decide):PE X (.Name x pos) (tC (.ty n)) :=
 ZkI (v:=.ty n) hg hm hv rfl hn hd
theorem ZaN:Zb3 X (.builtin "isinstance") (fun xs H Q=>∃x n t b,xs=[x,.ty n]/\TyOf X.K H x t/\PySem.W.kitOne X.K t (.type n)=some b/\Q (.bl b) H):=by
 intro pins s σ H xs us Q I r h;obtain⟨x,n,t,b,rfl,ty,e,q⟩:=h;obtain⟨u,v,rfl,rx,ry⟩:=Vals.two r;obtain rfl:v=Value.type n:=ry;exact ZhC I rx ty e fun tk=>⟨.bl b,H,I.tok tk,rfl,q⟩
end
structure Has(P:Program)(w:World)(K:PySem.W.Frag)(mg:Str->Option Value)(base:Heap)(x:Str)(ps:List Str)(k:Nat)(sp:Sp):Prop where
 ex:∃(f:Addr)(fd:FuncData),FnOk P w K mg base CX0 k f fd ps sp/\Binds K fd ps []/\PySem.W.keepIn K (.ref f)=true/\mg x=some (.ref f)
section
variable{X:Cx}{x:Str}{ps:List Str}{j k:Nat}{sp:Sp}{e:Expr}{es:List Expr}{t:TA}{p pos:Pos}
theorem FnOk.room{P:Program}{w:World}{K:PySem.W.Frag}{mg:Str->Option Value}{base:Heap}{CX:CXT}{f:Addr}{fd:FuncData}(F:FnOk P w K mg base CX j f fd ps sp)(h:j<=k):FnOk P w K mg base CX k f fd ps sp :=
 ⟨F.len,fun A outer s H args us vs Q E hr=>F.run A outer s H args us vs Q E (hr.mono h)⟩
theorem Z4(G:Has X.prog X.w X.K X.mg X.base x ps j sp)(hr:Room k X.A)(hg:Gl X x)(ha:PA X (e::es) t)(hk:j<=k:=by decide)(hdb:(x == ("__debug__" : Str))=false:=by decide)
  (he:starEach (e::es) X.env=(false,eval e X.env)::starEach es X.env:=by rfl) (hpl:(backTo pos (starEach es X.env)).any (·.1)=false:=by rfl) :
  PE X (.Call (.Name x p) (e::es) [] pos) (Zk2 sp [] E0 t):=by
 obtain⟨f,fd,F,b,kp,m⟩:=G.ex;exact Zj1 (F.room hk) hr hg m kp b .nil Zjb ha hdb he hpl
end
mutual
inductive Dp(K:PySem.W.Frag)(H:Hp):V->PyData->Prop
 | non:Dp K H .non .none
 | bl (b:Bool):Dp K H (.bl b) (.bool b)
 | int (i:Int):Dp K H (.int i) (.int i)
 | str (x:Str):Dp K H (.str x) (.str x)
 | lst {a:Addr} {xs:List V} {ds:List PyData}:SqL K H a xs->DpAll K H xs ds->Dp K H (.ref a) (.list ds)
 | tup {a:Addr} {xs:List V} {ds:List PyData}:SqT K H a xs->DpAll K H xs ds->Dp K H (.ref a) (.tuple ds)
inductive DpAll(K:PySem.W.Frag)(H:Hp):List V->List PyData->Prop
 | nil:DpAll K H [] []
 | cons {v:V} {vs:List V} {d:PyData} {ds:List PyData}:Dp K H v d->DpAll K H vs ds->DpAll K H (v::vs) (d::ds)
end
section
variable{X:Cx}{pins:List (Addr×Obj)}{σ : St}{H:Hp}{s:Shared}
mutual
theorem Dp.reads(I:Inv X pins σ H s):∀{v:V}{d:PyData}{u:Value},Dp X.K H v d->RelV v u->∃as,Reads s.heap u d as
 | _,_,u,.non,r=>by
  obtain rfl:u=Value.none:=r;exact⟨_,.none⟩
 | _,_,u,.bl b,r=>by
  obtain rfl:u=Value.bool b:=r;exact⟨_,.bool b⟩
 | _,_,_,.int i,⟨t,e⟩=>by
  subst e;exact⟨_,.int i t⟩
 | _,_,_,.str x,⟨t,e⟩=>by
  subst e;exact⟨_,.str x t⟩
 | _,_,u,@Dp.lst _ _ a xs ds hq hall,r=>by
  obtain rfl:u=Value.ref a:=r;obtain⟨its,rv,⟨o,n,e,hc,_,hd⟩,_⟩:=I.list hq;obtain⟨as,ha⟩:=DpAll.reads I hall rv;exact⟨_,.list e hc hd (by simpa using ha)⟩
 | _,_,u,@Dp.tup _ _ a xs ds hq hall,r=>by
  obtain rfl:u=Value.ref a:=r;obtain⟨its,rv,⟨o,e,hc,n,hd⟩,_⟩:=I.tuple hq;obtain⟨as,ha⟩:=DpAll.reads I hall rv;exact⟨_,.tuple e hc hd (by simpa using ha)⟩
theorem DpAll.reads(I:Inv X pins σ H s):∀{vs:List V}{ds:List PyData}{us:List Value},DpAll X.K H vs ds->Vals vs us->∃as,ReadsAll s.heap us ds as
 | _,_,_,.nil,.nil=>⟨_,.nil⟩
 | _,_,_,.cons h t,.cons r rs=>by
  obtain⟨as,ha⟩:=Dp.reads I h r;obtain⟨bs,hb⟩:=DpAll.reads I t rs;exact⟨_,.cons ha hb⟩
end
end
section
variable{X:Cx}
def Zk5(K:PySem.W.Frag)(neg:Bool):R2:=fun x y H Q=>∃d e,Dp K H x d/\Dp K H y e/\d.canLay0=true/\e.canLay0=true/\min d.depth e.depth<=200/\Q (.bl (if neg then !PyData.eqv d e else PyData.eqv d e)) H
theorem Zlo(hu:X.A.units+200<cLine):OpR X (compareOp .Eq) (Zk5 X.K false):=by
 intro pins s σ H x y v u Q I rx ry h;obtain⟨d,e,hx,hy,h1,h2,hd,q⟩:=h;obtain⟨as,ra⟩:=hx.reads I rx;obtain⟨bs,rb⟩:=hy.reads I ry;exact PySem.SeqAt.compareEq_reads ra rb h1 h2 (by lia) ⟨.bl _,H,I,rfl,q⟩
theorem Zk1(hu:X.A.units+200<cLine):OpR X (compareOp .NotEq) (Zk5 X.K true):=by
 intro pins s σ H x y v u Q I rx ry h;obtain⟨d,e,hx,hy,h1,h2,hd,q⟩:=h;obtain⟨as,ra⟩:=hx.reads I rx;obtain⟨bs,rb⟩:=hy.reads I ry;exact PySem.SeqAt.compareNe_reads ra rb h1 h2 (by lia) ⟨.bl _,H,I,rfl,q⟩
theorem Zcz{A:Around}{k:Nat}(hr:Room k A):A.units+200<cLine:=by
 have:=hr.un;lia
end
def TK(H H':Hp):Prop := ∀b xs,H b=some (.tup xs)->H' b=some (.tup xs)
theorem TK.trans{H H1 H2:Hp}(a:TK H H1)(b:TK H1 H2):TK H H2:=fun c xs h=>b c xs (a c xs h)
theorem TK.new{H:Hp}{p:Addr}{o:HO}(h:H p=none):TK H (upd H p o):=fun b xs q=>by
 rw[Zd (Zi q h)];exact q
theorem TK.lst{H:Hp}{p:Addr}{xs:List V}{o:HO}(h:H p=some (.lst xs)):TK H (upd H p o):=fun b ys q=>by
 by_cases e:b=p
 ·subst e;rw[h] at q;cases q
 ·rw[Zd e];exact q
theorem Zk.tk{H H':Hp}(h:Zk H H'):TK H H':=fun b xs q=>h b _ q
theorem Zk.new{H:Hp}{p:Addr}{o:HO}(h:H p=none):Zk H (upd H p o):=fun b u q=>by
 rw[Zd (Zi q h)];exact q
theorem Zk.upd_new{H H':Hp}{p:Addr}{o:HO}(h:Zk H H')(hp:H p=none):Zk H (upd H' p o):=fun b u q=>by
 rw[Zd (Zi q hp)];exact h b u q
theorem Zm{H:Hp}{p b:Addr}{o:HO}(h:upd H p o b=none):b≠p/\H b=none:=by
 by_cases e:b=p
 ·subst e;rw[Zb] at h;cases h
 ·rw[Zd e] at h;exact⟨e,h⟩
theorem Paired.app{α β : Type}{F : α -> β -> Prop}:∀{l₁ k₁ : List α}{l₂ k₂ : List β},Paired F l₁ l₂ -> Paired F k₁ k₂ -> Paired F (l₁ ++ k₁) (l₂ ++ k₂)
 | _,_,_,_,.nil,s=>s
 | _,_,_,_,.cons r t,s=>.cons r (Paired.app t s)
theorem Zbl{α : Type}(l:List α)(a : α):(l ++ [a])[(l ++ [a]).length-1]?= some a:=by
 simp
theorem ZbO{α : Type}(l:List α)(a : α):(l ++ [a]).dropLast=l:=by
 simp
end L2
namespace Fg
open PySem L2 FgM
abbrev SL:Str := "/"
def ZdQ(t:Str):Prop:=t.cps.toList ≠ []/\∀c∈t.cps.toList,97<=c/\c<=122
def ZjX(t:Str):Prop := ∀c∈t.cps.toList,97<=c/\c<=122
theorem Zf8(x y:Str):(x++y).cps.toList=x.cps.toList++y.cps.toList:=by
 show(x.cps++y.cps).toList=_;simp
theorem Zjf{x y:Str}(hx:ZjX x)(hy:ZjX y):ZjX (x++y):=fun c hc=>by
 rw[Zf8] at hc;exact(List.mem_append.mp hc).elim (hx c) (hy c)
theorem ZdQ.let0{t:Str}(h:ZdQ t):ZjX t:=h.2
theorem Zk0{x y:Str}(hx:ZdQ x)(hy:ZjX y):ZdQ (x++y):=⟨by rw[Zf8];intro z;exact hx.1 (List.append_eq_nil_iff.mp z).1,Zjf hx.2 hy⟩
theorem ZiT{c:Nat}(h1:97<=c)(h2:c<=122):ZdQ ⟨#[c]⟩:=⟨by simp,fun d hd=>by simp at hd;lia⟩
theorem ZdQ.ne{t:Str}(h:ZdQ t):t≠SL:=fun e=>by
 subst e;have:=h.2 47 (by decide);lia
theorem ZjX.ok{t:Str}(h:ZjX t):PyData.strOk t=true:=by
 unfold PyData.strOk;rw[Array.all_eq_true_iff_forall_mem];intro c hc;have:=h c (by simpa using hc);exact decide_eq_true (by lia)
theorem Zlm:PyData.strOk SL=true:=by decide +kernel
def ABC:Str := "abcdefghijklmnopqrstuvwxyz"
theorem ZkK:∀n:_root_.Fin 26,97<=ABC.cps.toList.getD n.val 0/\ABC.cps.toList.getD n.val 0<=122/\n.val<ABC.cps.toList.length:=by decide
theorem ZhJ{i:Int}(h0:0<=i)(h1:i<26):∃c,atI ABC.cps.toList i=some c/\97<=c/\c<=122:=by
 obtain⟨n,rfl⟩:=Int.eq_ofNat_of_zero_le h0;obtain⟨a,b,c⟩:=ZkK ⟨n,by lia⟩;refine⟨_,Zde (List.getElem?_eq_getElem c),?_,?_⟩
 ·rw[List.getD_eq_getElem?_getD,List.getElem?_eq_getElem c] at a;exact a
 ·rw[List.getD_eq_getElem?_getD,List.getElem?_eq_getElem c] at b;exact b
theorem ZhX{ns:List Int}{k:Int}(h0:0<=k)(h:k<(ns.length:Int)):∃v:Int,atI (ns.map V.int) k=some (.int v):=by
 obtain⟨n,rfl⟩:=Int.eq_ofNat_of_zero_le h0;have hn:n<ns.length:=by lia
 exact⟨ns[n],Zde (by rw[List.getElem?_map,List.getElem?_eq_getElem hn];rfl)⟩
theorem Zek{ws:List Str}{n:Nat}(h:n<ws.length):atI (ws.map V.str) ((n:Nat):Int)=some (.str ws[n]):=Zde (by rw[List.getElem?_map,List.getElem?_eq_getElem h];rfl)
def Zi3(K:PySem.W.Frag):Sp:=fun vs H Q _=>∃(a:Addr)(ns:List Int),vs=[.ref a]/\SqL K H a (ns.map V.int)/\ns.length<=63/\∀H',Q (.bl true) H'
theorem Zca{n:Nat}(h:n<=100000):n<=sizeLine:=Nat.le_trans h (by decide)
theorem Zn{n:Nat}(h:n<=100000):n<sizeLine:=Nat.lt_of_le_of_lt h (by decide)
theorem Zkh(x y:Str):(x++y).length=x.length+y.length:=by
 show(x.cps++y.cps).size=_;rw[Array.size_append];rfl
theorem ZiR(xs:List V)(n:Nat):ZiH xs (some (n:Int)) none=xs.drop n:=by
 unfold ZiH;rw[HT.Zin,HT.ZgO];rw[List.take_of_length_le (by rw[List.length_drop];exact Nat.le_refl _)];by_cases h:n<=xs.length
 ·rw[Nat.min_eq_left h]
 ·rw[Nat.min_eq_right (by lia),List.drop_length,List.drop_eq_nil_of_le (by lia)]
theorem Zf5{K:PySem.W.Frag}{H:Hp}:∀ws:List Str,DpAll K H (ws.map V.str) (ws.map PyData.str)
 | []=>.nil
 | w::ws=>.cons (.str w) (Zf5 ws)
theorem ZeJ:∀{ws:List Str},(∀w∈ws,PyData.strOk w=true)->PyData.canLayAll0 (ws.map PyData.str)=true
 | [],_=>rfl
 | w::ws,h=>by
  show(PyData.strOk w&&PyData.canLayAll0 (ws.map PyData.str))=true;rw[h w (List.mem_cons_self ..),ZeJ fun x hx=>h x (List.mem_cons_of_mem _ hx)];rfl
theorem ZcE:∀ws:List Str,PyData.depthAll (ws.map PyData.str)=0
 | []=>rfl
 | w::ws=>by
  show max (PyData.depth (.str w)) (PyData.depthAll (ws.map PyData.str))=0;rw[ZcE ws];rfl
theorem ZiO(xs:List V)(n:Nat):ZiH xs none (some (n:Int))=xs.take n:=by
 unfold ZiH;rw[HT.Zin,HT.ZgO,List.drop_zero,Nat.sub_zero];by_cases h:n<=xs.length
 ·rw[Nat.min_eq_left h]
 ·rw[Nat.min_eq_right (by lia),List.take_length,List.take_of_length_le (by lia)]
end Fg
namespace L2
open PySem PySem.Spec PyProof.Rows
theorem Zd3:∀{ys:List Str}{us:List Value},Vals (ys.map V.str) us->StrsAre us ys
 | [],_,.nil=>.nil
 | y::ys,_,.cons r t=>by
  obtain⟨tk,e⟩:=r;subst e;exact .cons y tk (Zd3 t)
section
variable{X:Cx}
def rJoin(K:PySem.W.Frag):V->List V->Hp->VK->Prop:=fun x vs H Q=>∃z a ys,x=.str z/\vs=[.ref a]/\SqL K H a (ys.map V.str)/\(ys.map (·.length)).sum+ys.length*z.length<=16777216/\Q (.str (Txt.join z ys)) H
theorem Zht:MtM X "str.join" (rJoin X.K):=by
 intro pins s σ H x vs v us Q I rx rv h;obtain⟨z,a,ys,rfl,rfl,hS,hz,q⟩:=h;obtain⟨t,rfl⟩:=rx;obtain⟨u,rfl,ru⟩:=rv.one;cases ru;obtain⟨its,r,pl,_⟩:=I.list hS;exact join_list pl.isList (by simpa using Zd3 r) hz fun t' k=>⟨.str _,H,I.tok _,⟨_,rfl⟩,q⟩
end
end L2
namespace Fg
open PySem L2 FgM
def cs(x:Str):List Nat:=x.cps.toList
theorem Zjt(x y:Str):cs (x++y)=cs x++cs y:=Zf8 x y
def jn(sep:Str):List Str->List Nat
 | []=>[]
 | [x]=>cs x
 | x::y::r=>cs x++(cs sep++jn sep (y::r))
theorem Zd7(sep:Str):∀ys:List Str,cs (Str.join sep ys)=jn sep ys
 | []=>rfl
 | [x]=>rfl
 | x::y::r=>by
  show cs (x++sep++Str.join sep (y::r))=_;rw[Zjt,Zjt,Zd7 sep (y::r),List.append_assoc];rfl
theorem Zkz(sep:Str)(ys:List Str):cs (Txt.join sep ys)=jn sep ys:=by
 have e:Txt.join sep ys=Str.join sep ys:=PySem.StrLaws.glued_eq_join sep ys;rw[e,Zd7]
end Fg
namespace L2
open PySem PySem.Spec PyProof.Rows
section
variable{P:Program}{w:World}{H:Hp}{h h':Heap}{a:Addr}{o:HO}
theorem Zaz.there(x:Zaz P w H h a o):∃ob,h.get? a=some ob:=by
 cases o with
 | lst xs=>obtain⟨_,_,_,_,e⟩:=x;exact⟨_,e⟩
 | tup xs=>obtain⟨_,_,_,ob,e,_⟩:=x;exact⟨_,e⟩
 | dK kvs=>obtain⟨_,_,_,_,ob,_,_,e,_⟩:=x;exact⟨_,e⟩
 | dT kvs=>obtain⟨_,_,_,_,ob,_,_,e,_⟩:=x;exact⟨_,e⟩
 | set S n=>obtain⟨ob,_,_,_,e,_⟩:=x;exact⟨_,e⟩
 | ins C dx fs=>obtain⟨_,_,_,e,_⟩:=x;exact⟨_,e⟩
 | own y=>obtain⟨_,e⟩:=x;exact⟨_,e⟩
 | xd fs=>obtain⟨_,⟨_,_,_,e,_⟩,_⟩:=x;exact⟨_,e⟩
 | rng lo hi=>obtain⟨_,_,_,e⟩:=x;exact⟨_,e⟩
 | frz ob u=>obtain⟨e,_⟩:=x;exact⟨_,e⟩
 | tbl ps=>exact⟨_,(show h.get? a=some _ from x)⟩
 | met f y=>exact⟨_,(show h.get? a=some _ from x)⟩
 | ext φ=>obtain⟨_,⟨_,e⟩,_⟩:=x;exact⟨_,e⟩
theorem HOk.freshN(x:HOk P w H h)(e:h.get? a=none):H a=none:=by
 cases q:H a with
 | none=>rfl
 | some u =>
  obtain⟨ob,e'⟩:=(x a u q).there;rw[e] at e';cases e'
end
section
variable{X:Cx}{pins:List (Addr×Obj)}{σ : St}{H:Hp}{s:Shared}{h':Heap}
theorem Inv.laidN{a:Addr}{o:HO}{t':Nat}(I:Inv X pins σ H s)(k:∀b u,s.heap.get? b=some u->h'.get? b=some u)(hp:s.heap.get? a=none)(new:Zaz X.prog X.w (upd H a o) h' a o) :
  Inv X pins σ (upd H a o) { s with heap:=h',toks:=t' }:=by
 have hn:=I.hok.freshN hp;have ne:∀b u,s.heap.get? b=some u->b≠a:=fun b u e z=>by
  rw[z,hp] at e;cases e
 refine I.un ⟨fun b u q _ _ _=>k b u q,fun b u q _ _ _=>⟨u.slots,k b u q⟩,fun b u q n _=>by rw[Zd (ne b u q)];exact n,fun b u q _=>⟨u,k b u q⟩,
  fun b xs q=>by rw[Zd (Zi q hn)];exact q,fun b u xs q=>by rw[Zd (Zi q hn)];exact q,fun b ps q=>⟨#[],by rw[Zd (Zi q hn),q];simp⟩⟩ fun b u e=>?_
 by_cases hb:b=a
 ·subst hb;rw[Zb] at e;cases e;exact new
 ·rw[Zd hb] at e;exact(I.hok b u e).stay (fun c v _ q=>k c v q) (fun c q=>by rw[Zd (Zi q hn)];exact q) fun c xs q=>by rw[Zd (Zi q hn)];exact q
end
section
variable{X:Cx}
theorem ZgS:∀{bs:List Bool}{us:List Value},Vals (bs.map V.bl) us->∀(i:Nat)(v:Value),us[i]?= some v->∃b,bs[i]?= some b/\v=.bool b
 | [],_,.nil,i,v,e=>by simp at e
 | b::bs,_,.cons r t,0,v,e=>by
  obtain rfl:_=Value.bool b:=r;simp at e;exact⟨b,rfl,e.symm⟩
 | b::bs,_,.cons r t,i+1,v,e=>by
  obtain⟨c,h1,h2⟩:=ZgS t i v (by simpa using e);exact⟨c,by simpa using h1,h2⟩
theorem all_range:∀(bs:List Bool),((List.range bs.length).all fun i=>(bs[i]?).getD true)=bs.all id:=by
 intro bs;rw[Bool.eq_iff_iff,List.all_eq_true,List.all_eq_true];constructor
 ·intro h b hb;obtain⟨i,hi,rfl⟩:=List.getElem_of_mem hb;have:=h i (List.mem_range.mpr hi);rw[List.getElem?_eq_getElem hi] at this;exact this
 ·intro h i hi;have hi':=List.mem_range.mp hi;rw[List.getElem?_eq_getElem hi'];exact h _ (List.getElem_mem hi')
theorem Zgl(hc:X.calm=true):Zb3 X (.builtin "all") (fun xs H Q=>∃(p:Addr)(bs:List Bool),xs=[.ref p]/\SqL X.K H p (bs.map V.bl)/\Q (.bl (bs.all id)) H):=by
 intro pins s σ H xs us Q I r h;obtain⟨p,bs,rfl,hS,q⟩:=h;obtain⟨u,rfl,ru⟩:=Vals.one r;cases ru;obtain⟨its,rv,pl,hz⟩:=I.list hS;have hl:=pl.isList;have hlen:bs.length=its.length:=by
  have:=rv.length;rw[List.length_map] at this;exact this
 refine call_all_walk (wpAny_pyIter_list hl ⟨s.heap.objs.size,[s.heap.objs.size,p],[s.heap.objs.size],its.toArray.size,_,_,fun i=>(bs[i]?).getD true,rfl,
  Walks.list (A:=X.A.in1) (I.ok.hd hc) _ p (Nat.ne_of_lt pl.lt) its.toArray,⟨⟨_,Heap.get?_push_size _ rfl,rfl,rfl⟩,hl.push _⟩,fun i v s' Q' E' hP hQ=>?_,fun h' tk hk=>?_⟩)
 ·obtain⟨b,e,e2⟩:=ZgS rv i v (by simpa using hP);subst e2;simp only[e,Option.getD_some] at hQ;exact wpAny_truthy_bool hQ
 ·rw[List.size_toArray,<- hlen,all_range];refine⟨.bl _,H,I.kept (t':=tk) fun b o e=>hk b o (fun hm=>?_) (Heap.get?_push_of_some _ e),rfl,q⟩;rw[List.mem_singleton.mp hm] at e;exact Nat.lt_irrefl _ (Heap.lt_size e)
end
def azB(c:Nat):Bool:=decide (97<=c)&&decide (c<=122)
theorem Zjx(a b:Nat):decide (([a]:List Nat) < [b])=decide (a<b):=by
 have h:(([a]:List Nat) < [b])↔a<b:=by
  constructor
  ·intro h;cases h with
   | rel h=>exact h
   | cons h=>cases h
  ·intro h;exact List.Lex.rel h
 exact decide_eq_decide.mpr h
section
variable{prog:Program}{w:World}{A:Around}{E:Value->Shared->Prop}{s:Shared}
theorem Zlp{x y:Str}{t u:Tok}{Q:Value->Shared->Prop}(h:Q (.bool (!decide (y.cps.toList<x.cps.toList))) s):wpAny (model prog w) A (compareOp .LtE (.str x t) (.str y u)) Q E s:=PySem.P.le_str h
theorem Zl1{s₂ : Shared}{C:Addr}{m:Str->Option Value}{sc:Scope}{env:Env}{n:Str}{pos:Pos}{v:Value}{Q:Value->Shared->Prop}(x:InComp s₂ C m s)(hk:sc.kind=.function)(hl:sc.names.lookup n=some .local)
  (hv:m n=some v) (hd:(n == ("__debug__" : Str))=false) (h:Q v s):wpAny (model prog w) A (eval (.Name n pos) (compEnv sc C env)) Q E s:=PySem.ldK x hk hl hv h hd
theorem ZkV{scope:Scope}{C:Addr}{env:Env}{m:Str->Option Value}{x:Str}{c:Nat}{u:Tok}{j j2:Nat}{p1 p2 p3 pos:Pos}(hk:scope.kind=.function)(hx:scope.names.lookup x=some .local)(hd:(x == ("__debug__" : Str))=false)
  (hn:s.heap.Ns C m) (hm:m x=some (.str ⟨#[c]⟩ u)) :
  wpAny (model prog w) A (eval (.Compare (.Constant (.str "a") j p1) [.LtE,.LtE] [.Name x p2,.Constant (.str "z") j2 p3] pos) (compEnv scope C env)) (fun r s'=>r=.bool (azB c)/\Keeps s s') E s:=by
 have I0:=(InComp.start hn).tok (s.toks+1);have ea:("a" : Str).cps.toList=[97]:=by decide +kernel
 have ez:("z" : Str).cps.toList=[122]:=by decide +kernel
 have e1:decide (([c]:List Nat) < [97])=decide (c<97):=Zjx c 97;have e2:decide (([122]:List Nat) < [c])=decide (122<c):=Zjx 122 c;refine Compare_chain (Calls.Constant_str ?_);refine chain_link ?_;refine Zl1 I0 hk hx hm hd ?_;refine Zlp ?_;rw[ea];show wpAny (model prog w) A (truthy (.bool (!decide (([c]:List Nat) < [97])))) _ _ _;rw[e1];refine wpAny_truthy_bool ?_;by_cases h1:c<97
 ·rw[decide_eq_true h1];refine ite_ff ⟨?_,I0.done⟩;unfold azB;rw[decide_eq_false (by lia : ¬ 97<=c)];rfl
 ·rw[decide_eq_false h1];refine ite_tt ?_;refine chain_last ?_;refine Calls.Constant_str ?_;refine Zlp ?_;rw[ez];refine⟨?_,(I0.tok _).done⟩;show Value.bool (!decide (([122]:List Nat) < [c]))=_;rw[e2];unfold azB;rw[decide_eq_true (by lia:97<=c)];by_cases h2:c<=122
  ·rw[decide_eq_true h2,decide_eq_false (by lia)];rfl
  ·rw[decide_eq_false h2,decide_eq_true (by lia)];rfl
end
theorem ZjN:∀{cs:List Nat}{vs us:List Value},(∀(j:Nat)(v:Value),vs[j]?= some v->∃(c:Nat)(u:Tok),cs[j]?= some c/\v=Value.str ⟨#[c]⟩ u)->vs.length=cs.length->Paired (fun v r=>∃c u,v=Value.str ⟨#[c]⟩ u/\r=Value.bool (azB c)) vs us ->
  Vals (cs.map fun c=>.bl (azB c)) us
 | [],[],_,_,_,.nil=>.nil
 | [],v::vs,_,_,h,_=>by simp at h
 | c::cs,[],_,_,h,_=>by simp at h
 | c::cs,v::vs,_,hP,hl,.cons hr t=>by
  obtain⟨c',u',e1,e2⟩:=hP 0 v rfl;obtain⟨c2,u2,e3,e4⟩:=hr;simp at e1;subst e1;rw[e2] at e3;injection e3 with e5 _;injection e5 with e6;simp at e6;subst e6;refine .cons e4 (ZjN (fun j v hv=>?_) (by simpa using hl) t);obtain⟨c3,u3,f1,f2⟩:=hP (j+1) v (by simpa using hv);exact⟨c3,u3,by simpa using f1,f2⟩
section
variable{X:Cx}{iter:Expr}{te:TE}{scope:Scope}{x:Str}{px p1 p2 p3 p4 pos:Pos}{j j2:Nat}
theorem Zhg(hi:PE X iter te)(hc:X.calm=true)(hfree:∀y∈scope.names,y.2 ≠ .free)(hcell:∀y∈scope.names,y.2 ≠ .cell)(hk:scope.kind=.function)
  (hnames:∀y∈scope.names,y.2=.local->scope.names.lookup y.1=some .local) (hx:scope.names.lookup x=some .local) (hd:(x == ("__debug__" : Str))=false) (hs:∀v,foldedSetIterable iter X.env v=pure v) :
  PE X (.ListComp (.Compare (.Constant (.str "a") j p1) [.LtE,.LtE] [.Name x p2,.Constant (.str "z") j2 p3] p4) [⟨.Name x px,iter,[],0⟩] scope pos)
   (fun σ H Q=>te σ H fun v H1=>∃z,v=.str z/\z.length<=sizeLine/\∀p,H1 p=none->Q (.ref p) (upd H1 p (.lst (z.cps.toList.map fun c=>.bl (azB c))))):=by
 intro pins s σ H Q I h;refine wpAny_ListComp_walk (fun _=>true) (fun v r=>∃c u,v=Value.str ⟨#[c]⟩ u/\r=Value.bool (azB c)) hfree hcell hk hnames hx (thn (hi pins s σ H _ I h) fun v s1 ⟨xv,H1,I1,r1,q1⟩=>?_) hs;obtain⟨z,rfl,hz,q⟩:=q1;obtain⟨t,rfl⟩:=r1;refine wpAny_pyIter_str fun o St W hst=>⟨s1.heap.objs.size,[s1.heap.objs.size],[s1.heap.objs.size],z.cps.size,SignAt z,St,rfl,W X.A (I1.ok.hd hc),hz,hst,fun b hb=>?_,⟨?_,?_⟩,?_⟩
 ·show b<(s1.heap.push o).objs.size;rw[Heap.size_push,List.mem_singleton.mp hb];exact Nat.lt_succ_self _
 ·intro C i v s3 m3 E' hP hn hm _ _;exact wpAny_pure ⟨rfl,(InComp.start hn).done⟩
 ·intro C i v s3 m3 E' hP hp hn hm _ _;obtain⟨c,u,_,e⟩:=hP;subst e;exact wpAny_mono (ZkV hk hx hd hn hm) (fun r s4 h4=>⟨⟨c,u,rfl,h4.1⟩,h4.2⟩) fun _ _ e=>e
 ·intro D h' tk ys vs hnew hlD hplD hlen hP hF hkp;have hF':Paired (fun v r=>∃c u,v=Value.str ⟨#[c]⟩ u/\r=Value.bool (azB c)) vs ys.toList:=by
   rw[List.filter_eq_self.mpr (fun _ _=>rfl)] at hF;exact hF
  have hV:=ZjN (cs:=z.cps.toList) (fun j v hv=>by
   obtain⟨c,u,e1,e2⟩:=hP j v hv;exact⟨c,u,by rw[Array.getElem?_toList];exact e1,e2⟩) (by rw[hlen,Array.length_toList]) hF'
  have up:∀b ob,s1.heap.get? b=some ob->h'.get? b=some ob:=fun b ob e=>hkp b ob (fun hm=>by
   rw[List.mem_singleton.mp hm] at e;exact Nat.lt_irrefl _ (Heap.lt_size e)) (Heap.get?_push_of_some _ e)
  have hD:s1.heap.get? D=none:=by
   cases e:s1.heap.get? D with
   | none=>rfl
   | some ob =>
    rw[Heap.get?_push_of_some _ e] at hnew;cases hnew
  obtain⟨nD,eD⟩:=hplD;refine⟨.ref D,_,I1.laidN (a:=D) (o:=.lst (z.cps.toList.map fun c=>.bl (azB c))) (t':=tk) up hD ⟨?_,ys.toList,nD,hV,by rw[Array.toArray_toList];exact eD⟩,rfl,q D (I1.hok.freshN hD)⟩;rw[List.length_map,Array.length_toList];exact hz
end
end L2
namespace L2
open PySem
theorem ZjT:bootBuiltins "all" = some (.builtin "all"):=by decide +kernel
end L2
namespace Fg
open PySem L2 FgM
def Zk6(z:Str):Bool:=decide (1<=z.length)&&decide (z.length<=8)&&z.cps.toList.all azB
def ZfW:Sp:=fun vs H Q _=>∃z:Str,vs=[.str z]/\z.length<=100000/\∀H',Zk H H'->Q (.bl (Zk6 z)) H'
theorem Zhp:∀c:_root_.Fin 128,(Builtin.Str.occurrences ABC ⟨#[c.val]⟩ 0 ABC.length 1).isEmpty= !azB c.val:=by decide +kernel
theorem Zjo{c:Nat}(h:c<128):(Builtin.Str.occurrences ABC ⟨#[c]⟩ 0 ABC.length 1).isEmpty= !azB c:=Zhp ⟨c,h⟩
end Fg
namespace L2
open PySem PySem.Spec PyProof.Rows
section
variable{prog:Program}{w:World}{A:Around}{s:Shared}{R:Result->Shared->Prop}
abbrev no0:Value->Shared->Prop:=fun _ _=>False
theorem Zg4{elt target iter:Expr}{scope:Scope}{pos:Pos}{it acc:Value}{env:Env}(I:Nat->Shared->Prop)
  (turn:∀n s,I n s->wpAny (model prog w) A (pyNext it) (fun r s1=>match r with
   | none=>R (.ok .next) s1
   | some v=>wpAny (model prog w) A (letOwnedTupleGo target it v) (fun _ s2=>wpAny (model prog w) A (assign target env v) (fun _ s3=>wpAny (model prog w) A (eval elt env) (fun x s4 =>
     wpAny (model prog w) A (call (.builtin "list.append") [acc,x]) (fun _ s5=>∃m,m<n/\I m s5) no0 s4) no0 s3) no0 s2) no0 s1) no0 s)
  (n:Nat) (h:I n s):codeAny (model prog w) A (.compLoop (.ListComp elt [⟨target,iter,[],0⟩] scope pos) 0 it acc env) R s:=by
 refine codeAny_loop rfl I (fun n s hI=>?_) n h;show wpAny _ _ ((compTurn (.ListComp elt [⟨target,iter,[],0⟩] scope pos) 0 it acc env).onRaise (fun x=>do noteFrame x env;theTreesLotGoes x)) _ _ s;refine wpAny_noted ?_;rw[compTurn_list1];refine wpAny_bind (wpAny_standAt (wpAny_bind (wpAny_mono (turn n s hI) (fun r s1 h1=>?_) fun _ _ h'=>h'.elim)));cases r with
 | none=>exact wpAny_pure h1
 | some v =>
  refine wpAny_bind (wpAny_mono h1 (fun _ s2 h2=>?_) fun _ _ h'=>h'.elim);refine wpAny_bind (wpAny_mono h2 (fun _ s3 h3=>?_) fun _ _ h'=>h'.elim);refine wpAny_bind (wpAny_bind (wpAny_mono h3 (fun x s4 h4=>?_) fun _ _ h'=>h'.elim));exact wpAny_bind (wpAny_mono h4 (fun _ s5 h5=>wpAny_pure (wpAny_pure ⟨rfl,h5⟩)) fun _ _ h'=>h'.elim)
end
def Zaw(X:Cx)(N:List Str)(scope:Scope)(cl:List (Str×Addr))(C:Addr)(fp:List Addr)(s:Shared)(H:Hp):Cx where
 prog:=X.prog
 w:=X.w
 K:=X.K
 mg:=X.mg
 base:=X.base
 A:=X.A
 N:=N
 s₀ := s
 H₀ := H
 env:=compEnvC scope cl C X.env
 outer:=X.stack
 stack:=X.stack
 ex:=fp
 fn:=fun _=>false
 calm:=X.calm
 pn:=[]
 xe:=no0
section
variable{X:Cx}{pins:List (Addr×Obj)}{σ : St}{H:Hp}{s:Shared}
theorem ZhH{N:List Str}{scope:Scope}{cl:List (Str×Addr)}{C:Addr}{fp:List Addr}(I:Inv X pins σ H s)(hk:scope.kind=.function)(hC:s.heap.objs.size<=C)(hcl:∀x c,cl.lookup x=some c->X.env.cells.lookup x=some c)
  (hhas:∀x,((compEnvC scope cl C X.env).kindOf x=some .cell\/(compEnvC scope cl C X.env).kindOf x=some .free)->∃c,cl.lookup x=some c)
  (hf:∀b∈fp,ZeN X pins H b) (hlt:∀b∈fp,b<s.heap.objs.size):(Zaw X N scope cl C fp s H).Ok where
 mod:=I.ok.mod
 kind:=hk
 glob:=I.ok.glob
 blt:=I.ok.blt
 above:=hC
 inj:=fun x y c e1 e2=>I.ok.inj x y c (hcl x c e1) (hcl y c e2)
 has:=hhas
 cab:=fun x c e=>by cases e
 hd:=I.ok.hd
 frames:=I.ok.frames
 stk:=.inl rfl
 exf:=fun b hb=>⟨fun z=>absurd (Nat.lt_of_lt_of_le (hlt b hb) hC) (by rw[show b=C from z];exact Nat.lt_irrefl _),fun x c e=>(hf b hb).2.2.2.2.1 x c (hcl x c e)⟩
 bs:=fun b o e=>⟨(I.bs b o e).1,(I.bs b o e).2⟩
 bsz:=Nat.le_trans I.ok.bsz I.sz
 noex:=fun b o e hb=>by
  rcases(hf b hb).2.2.2.1 with z|z
  ·exact I.ok.noex b o e z
  ·exact absurd (Nat.lt_of_lt_of_le (Heap.lt_size e) (Nat.le_trans I.ok.bsz z)) (Nat.lt_irrefl _)
 exfs:=fun b hb hm=>by
  rcases List.mem_cons.mp (I.stkSub b hm) with z|z
  ·exact(hf b hb).2.1 z
  ·exact(hf b hb).2.2.1 z
 funs:=I.stack
 frf:=I.stkFree
def capσ(σ : St)(k:Nat)(cap:List (Str×Nat)):St:=List.replicate k none++cap.map fun p=>(σ[p.2]?).getD none
theorem ZcO{scope:Scope}{cl:List (Str×Addr)}{fp:List Addr}{tn:List Str}{cap:List (Str×Nat)}{h1:Heap}(I:Inv X pins σ H s)(hk:scope.kind=.function)(hcl:∀x c,cl.lookup x=some c->X.env.cells.lookup x=some c)
  (hhas:∀x,((compEnvC scope cl s.heap.objs.size X.env).kindOf x=some .cell\/(compEnvC scope cl s.heap.objs.size X.env).kindOf x=some .free)->∃c,cl.lookup x=some c)
  (hf:∀b∈fp,ZeN X pins H b) (hlt:∀b∈fp,b<s.heap.objs.size)
  (hcap:∀p∈cap,X.N[p.2]?= some p.1/\X.env.scope.names.lookup p.1=some .cell/\((compEnvC scope cl s.heap.objs.size X.env).kindOf p.1=some .cell\/(compEnvC scope cl s.heap.objs.size X.env).kindOf p.1=some .free))
  (hns:h1.Ns s.heap.objs.size (fun _=>none)) (hkp:∀b o,s.heap.get? b=some o->h1.get? b=some o) :
  Inv (Zaw X (tn++cap.map (·.1)) scope cl s.heap.objs.size fp s H) [] (capσ σ tn.length cap) H { s with heap:=h1 } where
 ok:=ZhH I hk (Nat.le_refl _) hcl hhas hf hlt
 os:=rfl
 bare:=I.bare
 base:=Un.kept hkp
 loc:=by
  refine⟨fun _=>none,hns,fun i x v e1 e2 hv=>?_⟩;unfold capσ at e2;by_cases hi:i<tn.length
  ·rw[List.getElem?_append_left (by rw[List.length_replicate];exact hi),List.getElem?_replicate,if_pos hi] at e2;cases e2
  ·have hN:(cap.map (·.1))[i-tn.length]?= some x:=by
    have:(tn++cap.map (·.1))[i]?= some x:=e1;rw[List.getElem?_append_right (by lia)] at this;exact this
   rw[List.getElem?_append_right (by rw[List.length_replicate];lia),List.length_replicate,List.getElem?_map] at e2;rw[List.getElem?_map] at hN;cases hp:cap[i-tn.length]? with
   | none=>rw[hp] at hN;cases hN
   | some p =>
    rw[hp] at hN e2;have hx:p.1=x:=Option.some.inj hN;have he:(σ[p.2]?).getD none=some v:=Option.some.inj e2;obtain⟨c1,c2,c3⟩:=hcap p (List.mem_of_getElem? hp);subst hx;have hs : σ[p.2]?= some (some v):=by
     cases q : σ[p.2]? with
     | none=>rw[q] at he;cases he
     | some z=>rw[q] at he;rw[show z=some v from he]
    obtain⟨m,hn,hl⟩:=I.loc;obtain⟨u,r,l⟩:=hl p.2 p.1 v c1 hs (.inr (.inl c2));refine⟨u,r,.inr ⟨c3,?_⟩⟩;obtain⟨c,hc⟩:=hhas p.1 c3;refine⟨c,hc,?_⟩;rcases l with⟨l1,_⟩|⟨_,c',l2,o,ho,hd⟩
    ·have:X.env.kindOf p.1=some .cell:=c2;rw[this] at l1;cases l1
    ·have:c=c':=Option.some.inj ((hcl p.1 c hc).symm.trans l2);subst this;exact⟨o,hkp _ _ ho,hd⟩
 cell:=fun x c e=>by
  obtain⟨v,o,ho,hd⟩:=I.cell x c (hcl x c e);exact⟨v,o,hkp _ _ ho,hd⟩
 free:=I.hok.fresh (Nat.le_refl _)
 freeC:=fun x c e=>I.freeC x c (hcl x c e)
 pin:=fun p hp=>by cases hp
 hok:=I.hok.kept hkp
 len:=by
  unfold capσ;show _=(tn++cap.map (·.1)).length;rw[List.length_append,List.length_append,List.length_replicate,List.length_map,List.length_map]
end
def Zk7(wi:TI)(k:Nat)(cap:List (Str×Nat))(g:TG)(te:TE):TE:=fun σ H Q=>wi σ H fun J H1=>∀p,H1 p=none->∃W:Nat->Nat->List V->St->Hp->Prop,(∃m,W 0 m [] (capσ σ k cap) (upd H1 p (.lst []))) /\
 ∀i m ys σc H2,W i m ys σc H2->H2 p=some (.lst ys)/\((J.stop i H2/\Q (.ref p) H2)\/(J.go i H2/\∀x H3,J.yld i H2 x H3->g x σc H3 fun σ3 H4=>te σ3 H4 fun v H5 =>
  H5 p=some (.lst ys)/\ys.length<sizeLine/\∃m',m'<m/\W (i+1) m' (ys ++ [v]) σ3 (upd H5 p (.lst (ys ++ [v])))))
section
variable{X:Cx}{elt iter tg:Expr}{scope:Scope}{pos:Pos}{wi:TI}{g:TG}{te:TE}{cl:List (Str×Addr)}
theorem Zd4{pins:List (Addr×Obj)}{σ : St}{H2:Hp}{s2:Shared}{it:Addr}{fp:List Addr}{tnn:Nat->Heap->Prop}{J:It}{R:Addr->Hp->Prop}{use:Option (Value->Sem Unit)}{Qp:Value->Shared->Prop}(tn:List Str)(cap:List (Str×Nat))(hg:∀C fp s H,PG (Zaw X (tn++cap.map (·.1)) scope cl C fp s H) tg g)(he:∀C fp s H,PE (Zaw X (tn++cap.map (·.1)) scope cl C fp s H) elt te)(hc:X.calm=true)(hcell:∀y∈scope.names,y.2 ≠ .cell)(hk:scope.kind=.function)(hcl:∀x c,cl.lookup x=some c->X.env.cells.lookup x=some c)(hhas:∀C x,((compEnvC scope cl C X.env).kindOf x=some .cell\/(compEnvC scope cl C X.env).kindOf x=some .free)->∃c,cl.lookup x=some c)(hcap:∀C,∀p∈cap,X.N[p.2]?= some p.1/\X.env.scope.names.lookup p.1=some .cell/\((compEnvC scope cl C X.env).kindOf p.1=some .cell\/(compEnvC scope cl C X.env).kindOf p.1=some .free))
  (I2:Inv X pins σ H2 s2) (T:Turn X.prog X.w X.K tg J fp it tnn) (st2:tnn 0 s2.heap) (f2:∀b∈fp,ZeN X pins H2 b) (q2:∀p,H2 p=none->∃W:Nat->Nat->List V->St->Hp->Prop,(∃m,W 0 m [] (capσ σ tn.length cap) (upd H2 p (.lst []))) /\
 ∀i m ys σc H2,W i m ys σc H2->H2 p=some (.lst ys)/\((J.stop i H2/\R p H2)\/(J.go i H2/\∀x H3,J.yld i H2 x H3->g x σc H3 fun σ3 H4=>te σ3 H4 fun v H5=>H5 p=some (.lst ys)/\ys.length<sizeLine/\∃m',m'<m/\W (i+1) m' (ys ++ [v]) σ3 (upd H5 p (.lst (ys ++ [v]))))))
  (hfin:∀(s3:Shared)(H3:Hp),Inv X pins σ H3 s3->(∀b∈fp,ZeN X pins H3 b)->∀(acc:Addr)(σ6:St)(H6:Hp)(s6:Shared),Inv (Zaw X (tn++cap.map (·.1)) scope cl s3.heap.objs.size fp s3 H3) [] σ6 H6 s6->R acc H6->compPost (model X.prog X.w) X.A X.xe use Qp (.ref acc) s3.heap.objs.size (.ok .next) s6) :
  wpAny (model X.prog X.w) X.A (newList []) (fun acc s₃=>wpAny (model X.prog X.w) X.A (newFunctionEnv scope X.env.globals cl [] X.env.qual none Value.none (some X.env)) (fun cenv s₄=>codeAny (model X.prog X.w) X.A (Code.compStart (.ListComp elt [⟨tg,iter,[],0⟩] scope pos) 0 (Value.ref it) acc { cenv with scope:=relabel scope X.env }) (compPost (model X.prog X.w) X.A X.xe use Qp acc cenv.locals) s₄) X.xe s₃) X.xe s2:=by
 have fresh:H2 s2.heap.objs.size=none:=I2.fresh;obtain⟨W,⟨m0,w0⟩,turn⟩:=q2 s2.heap.objs.size fresh;have lt2:∀b∈fp,b<s2.heap.objs.size:=fun b hb=>by
  obtain⟨o,ho,_⟩:=T.obj _ _ st2 b hb;exact Heap.lt_size ho
 have I3:Inv X pins σ (upd H2 s2.heap.objs.size (.lst [])) { s2 with heap:=s2.heap.push { cls:=.type "list",data:=.seq ([]:List Value).toArray } }:=I2.lnew (its:=[]) (t':=s2.toks) .nil (Nat.zero_le _);refine wpAny_newObj_type (wpAny_newFunctionEnv hcell (by intro y hy;simp at hy) (fun h1 hns1 hsb1=>?_) hk);dsimp only at hns1 hsb1 ⊢;generalize hS3:({ s2 with heap:=s2.heap.push { cls:=.type "list",dict:=none,data:=.seq ([]:List Value).toArray } }:Shared)=s3 at I3;have hh3:s2.heap.push { cls:=.type "list",dict:=none,data:=.seq ([]:List Value).toArray }=s3.heap:=by rw[<- hS3]
 rw[hh3] at hns1 hsb1 ⊢;have sz3:s3.heap.objs.size=s2.heap.objs.size+1:=by rw[<- hh3,Heap.size_push]
 have lt3:∀b∈fp,b<s3.heap.objs.size:=fun b hb=>Nat.lt_of_lt_of_le (lt2 b hb) (by rw[sz3];exact Nat.le_succ _);have f3:∀b∈fp,ZeN X pins (upd H2 s2.heap.objs.size (.lst [])) b:=fun b hb=>⟨by rw[Zd (Nat.ne_of_lt (lt2 b hb))];exact(f2 b hb).1,(f2 b hb).2⟩;have keep3:∀b o,s3.heap.get? b=some o->h1.get? b=some o:=fun b o q=>hsb1.extBut b o (Nat.ne_of_lt (Heap.lt_size q)) (Heap.get?_push_of_some _ q);have st3:tnn 0 h1:=T.keep _ _ _ st2 fun b hb o q=>keep3 b o (by rw[<- hh3];exact Heap.get?_push_of_some _ q);have I4:=(ZcO (tn:=tn) I3 hk hcl (hhas _) f3 lt3 (hcap _) hns1 keep3).tok (s2.toks+([]:List (Str×Value)).length);have loop:codeAny (model X.prog X.w) X.A (.compLoop (.ListComp elt [⟨tg,iter,[],0⟩] scope pos) 0 (.ref it) (.ref s2.heap.objs.size) (compEnvC scope cl s3.heap.objs.size X.env))
   (compPost (model X.prog X.w) X.A X.xe use Qp (.ref s2.heap.objs.size) s3.heap.objs.size) { s3 with heap:=h1,toks:=s2.toks+([]:List (Str×Value)).length }:=by
  refine Zg4 (fun n s'=>∃i ys σ' H',Inv (Zaw X (tn++cap.map (·.1)) scope cl s3.heap.objs.size fp s3 (upd H2 s2.heap.objs.size (.lst []))) [] σ' H' s'/\tnn i s'.heap/\(∀b∈fp,H' b=none)/\W i n ys σ' H') ?_ m0
   ⟨0,[],_,_,I4,st3,fun b hb=>(f3 b hb).1,w0⟩
  rintro n s5 ⟨i,ys,σ5,H5,I5,st5,fr5,w5⟩;obtain⟨hD,alt⟩:=turn i n ys σ5 H5 w5;have stat:∀{H':Hp},(∀b∈fp,H' b=none)->∀b∈fp,ZeN (Zaw X (tn++cap.map (·.1)) scope cl s3.heap.objs.size fp s3 (upd H2 s2.heap.objs.size (.lst []))) [] H' b :=
   fun hn b hb=>⟨hn b hb,(I4.ok.exf b hb).1,I4.ok.exfs b hb,.inl hb,(I4.ok.exf b hb).2,fun p hp=>by cases hp⟩
  rcases alt with⟨stop,qn⟩|⟨go,step⟩
  ·refine thn (T.done (Zaw X (tn++cap.map (·.1)) scope cl s3.heap.objs.size fp s3 (upd H2 s2.heap.objs.size (.lst []))) rfl rfl rfl hc i [] s5 σ5 H5 no0 I5 (stat fr5) st5 stop) fun r s6 ⟨hr,I6⟩=>?_;subst hr;exact hfin s3 _ I3 f3 _ σ5 H5 s6 I6 qn
  ·refine thn (T.item (Zaw X (tn++cap.map (·.1)) scope cl s3.heap.objs.size fp s3 (upd H2 s2.heap.objs.size (.lst []))) rfl rfl rfl hc i [] s5 σ5 H5 no0 I5 (stat fr5) st5 go) fun r s6 ⟨u,hr,h6⟩=>?_;subst hr;refine thn h6 fun _ s7 ⟨x,H7,I7,r7,y7,st7,fr7⟩=>?_;have I7':=I7.pinned (stat fr7) (T.obj _ _ st7);refine thn (hg _ _ _ _ _ s7 σ5 H7 x u _ I7' r7 (step x H7 y7)) fun _ s8 ⟨σ8,H8,I8,q8⟩=>?_;refine thn (he _ _ _ _ _ s8 σ8 H8 _ I8 q8) fun xv s9 ⟨v9,H9,I9,r9,q9⟩=>?_;obtain⟨hD9,hl9,m',hm',w9⟩:=q9;refine thn (ZR _ s9 σ8 H9 (.ref s2.heap.objs.size) [v9] (.ref s2.heap.objs.size) [xv] (fun z H'=>z=.non/\H'=upd H9 s2.heap.objs.size (.lst (ys ++ [v9]))) I9 rfl (.cons r9 .nil)
    ⟨s2.heap.objs.size,ys,v9,rfl,rfl,hD9,hl9,rfl,rfl⟩) fun z s10 ⟨zv,H10,I10,_,_,eH⟩=>?_
   subst eH;refine⟨m',hm',i+1,ys ++ [v9],σ8,_,I10.unpinned,T.keep _ _ _ st7 fun b hb o q=>(I10.pin (b,o) (List.mem_append_right _ (List.mem_append_right _ (ZaQ hb q)))).1,fun b hb=>?_,w9⟩;obtain⟨o,q,d⟩:=T.obj _ _ st7 b hb;exact(I10.pin (b,o) (List.mem_append_right _ (List.mem_append_right _ (ZaQ hb q)))).2.1
 subst hS3;exact codeAny_compStart_list loop (T.self X.A 0 _ _ _ st3 loop)
theorem Zct(tn:List Str)(cap:List (Str×Nat))(hi:PI X tg iter wi)(hg:∀C fp s H,PG (Zaw X (tn++cap.map (·.1)) scope cl C fp s H) tg g)(he:∀C fp s H,PE (Zaw X (tn++cap.map (·.1)) scope cl C fp s H) elt te)
  (hc:X.calm=true) (hclos:closureFor scope X.env=pure cl) (hcell:∀y∈scope.names,y.2 ≠ .cell) (hk:scope.kind=.function) (hnames:∀y∈scope.names,y.2=.local->scope.names.lookup y.1=some .local)
  (hcl:∀x c,cl.lookup x=some c->X.env.cells.lookup x=some c)
  (hhas:∀C x,((compEnvC scope cl C X.env).kindOf x=some .cell\/(compEnvC scope cl C X.env).kindOf x=some .free)->∃c,cl.lookup x=some c)
  (hcap:∀C,∀p∈cap,X.N[p.2]?= some p.1/\X.env.scope.names.lookup p.1=some .cell/\((compEnvC scope cl C X.env).kindOf p.1=some .cell\/(compEnvC scope cl C X.env).kindOf p.1=some .free))
  (hs:∀v,foldedSetIterable iter X.env v=pure v):PE X (.ListComp elt [⟨tg,iter,[],0⟩] scope pos) (Zk7 wi tn.length cap g te):=by
 intro pins s σ H Q I h;rw[eval_ListComp];refine wpAny_comprehension_free (use:=none) rfl hs hclos hk hnames (thn (hi pins s σ H _ I h) fun v s1 h1=>thn h1 fun itv s2 h2=>?_);obtain⟨it,fp,tnn,J,H2,e,I2,T,st2,f2,q2⟩:=h2;subst e;refine Zd4 (R:=fun p H6=>Q (.ref p) H6) tn cap hg he hc hcell hk hcl hhas hcap I2 T st2 f2 q2 fun s3 H3 I3 f3 acc σ6 H6 s6 I6 q6=>?_;obtain⟨m,hn,_⟩:=I6.loc;refine⟨m,hn,fun h' sb=>?_⟩;have nC:∀b o,s3.heap.get? b=some o->b≠s3.heap.objs.size:=fun b o q=>Nat.ne_of_lt (Heap.lt_size q);have u:Un (frs X.stack) fp H3 H6 s3.heap h':=by
  have u0:=I6.base;refine⟨fun b o q n hb hx=>(sb.2 b (nC b o q)).trans (u0.keep b o q n hb hx),fun b o q n hb hx=>?_,u0.free,fun b o q hx=>?_,u0.tups,u0.frzs,u0.tbls⟩
  ·obtain⟨sl,e⟩:=u0.slot b o q n hb hx;exact⟨sl,(sb.2 b (nC b o q)).trans e⟩
  ·obtain⟨o',e⟩:=u0.there b o q hx;exact⟨o',(sb.2 b (nC b o q)).trans e⟩
 have free6:H6 s3.heap.objs.size=none:=I6.free;have ok6:HOk X.prog X.w H6 h':=fun b o q=>(I6.hok b o q).stay (fun c v hcv r=>(sb.2 c (by
  rcases hcv with z|z
  ·rw[z];exact Zi q free6
  ·exact Zi z free6)).trans r) (fun _ q=>q) fun _ _ q=>q
 have I':=I3.call (g':=s6.gens) (d':=s6.drawn) (t':=s6.toks) (ch:=fp) u ok6 I6.bare fun b hb=>⟨(f3 b hb).2.2.2.1,(f3 b hb).2.1,(f3 b hb).2.2.2.2.1,(f3 b hb).2.2.2.2.2⟩;have e:({ s6 with heap:=h' }:Shared)= { s3 with heap:=h',gens:=s6.gens,drawn:=s6.drawn,toks:=s6.toks }:=by
  have ho:s6.os=s3.os:=I6.os;obtain⟨a1,a2,a3,a4,a5⟩:=s6;obtain⟨b1,b2,b3,b4,b5⟩:=s3;simp only at ho;subst ho;rfl
 rw[e];exact⟨.ref _,H6,I',rfl,q6⟩
end
section
variable{prog:Program}{w:World}{A:Around}{s:Shared}{R:Result->Shared->Prop}
theorem ZgZ{elt ct target iter:Expr}{scope:Scope}{pos:Pos}{it acc:Value}{env:Env}(I:Nat->Shared->Prop)
  (turn:∀n s,I n s->wpAny (model prog w) A (pyNext it) (fun r s1=>match r with
   | none=>R (.ok .next) s1
   | some v=>wpAny (model prog w) A (letOwnedTupleGo target it v) (fun _ s2=>wpAny (model prog w) A (assign target env v) (fun _ s3=>wpAny (model prog w) A (isTrue ct env (eval ct env)) (fun ok s3' =>
     if ok=true then wpAny (model prog w) A (eval elt env) (fun x s4 =>
     wpAny (model prog w) A (call (.builtin "list.append") [acc,x]) (fun _ s5=>∃m,m<n/\I m s5) no0 s4) no0 s3' else ∃m,m<n/\I m s3') no0 s3) no0 s2) no0 s1) no0 s)
  (n:Nat) (h:I n s):codeAny (model prog w) A (.compLoop (.ListComp elt [⟨target,iter,[ct],0⟩] scope pos) 0 it acc env) R s:=by
 refine codeAny_loop rfl I (fun n s hI=>?_) n h;show wpAny _ _ ((compTurn (.ListComp elt [⟨target,iter,[ct],0⟩] scope pos) 0 it acc env).onRaise (fun x=>do noteFrame x env;theTreesLotGoes x)) _ _ s;refine wpAny_noted ?_;rw[compTurn_list];refine wpAny_bind (wpAny_standAt (wpAny_bind (wpAny_mono (turn n s hI) (fun r s1 h1=>?_) fun _ _ h'=>h'.elim)));cases r with
 | none=>exact wpAny_pure h1
 | some v =>
  refine wpAny_bind (wpAny_mono h1 (fun _ s2 h2=>?_) fun _ _ h'=>h'.elim);refine wpAny_bind (wpAny_mono h2 (fun _ s3 h3=>?_) fun _ _ h'=>h'.elim);refine wpAny_bind (wpAny_tests_one (wpAny_mono h3 (fun ok s3' h3'=>?_) fun _ _ h'=>h'.elim));cases ok with
  | true =>
   simp only[if_true] at h3' ⊢;refine wpAny_bind (wpAny_bind (wpAny_mono h3' (fun x s4 h4=>?_) fun _ _ h'=>h'.elim));exact wpAny_bind (wpAny_mono h4 (fun _ s5 h5=>wpAny_pure (wpAny_pure ⟨rfl,h5⟩)) fun _ _ h'=>h'.elim)
  | false =>
   simp only[Bool.false_eq_true,if_false] at h3' ⊢;exact wpAny_pure ⟨rfl,h3'⟩
end
def ZjO(wi:TI)(k:Nat)(cap:List (Str×Nat))(g:TG)(tt:TT)(te:TE):TE:=fun σ H Q=>wi σ H fun J H1=>∀p,H1 p=none->∃W:Nat->Nat->List V->St->Hp->Prop,(∃m,W 0 m [] (capσ σ k cap) (upd H1 p (.lst []))) /\
 ∀i m ys σc H2,W i m ys σc H2->H2 p=some (.lst ys)/\((J.stop i H2/\Q (.ref p) H2)\/(J.go i H2/\∀x H3,J.yld i H2 x H3->g x σc H3 fun σ3 H4=>tt σ3 H4 fun b H4'=>if b=true then te σ3 H4' fun v H5 =>
  H5 p=some (.lst ys)/\ys.length<sizeLine/\∃m',m'<m/\W (i+1) m' (ys ++ [v]) σ3 (upd H5 p (.lst (ys ++ [v])))
  else ∃m',m'<m/\W (i+1) m' ys σ3 H4'))
section
variable{X:Cx}{elt ct iter tg:Expr}{scope:Scope}{pos:Pos}{wi:TI}{g:TG}{tt:TT}{te:TE}{cl:List (Str×Addr)}
theorem Zd1{pins:List (Addr×Obj)}{σ : St}{H2:Hp}{s2:Shared}{it:Addr}{fp:List Addr}{tnn:Nat->Heap->Prop}{J:It}{R:Addr->Hp->Prop}{use:Option (Value->Sem Unit)}{Qp:Value->Shared->Prop}(tn:List Str)(cap:List (Str×Nat))(hg:∀C fp s H,PG (Zaw X (tn++cap.map (·.1)) scope cl C fp s H) tg g)(ht:∀C fp s H,PT (Zaw X (tn++cap.map (·.1)) scope cl C fp s H) ct tt)(he:∀C fp s H,PE (Zaw X (tn++cap.map (·.1)) scope cl C fp s H) elt te)(hc:X.calm=true)(hcell:∀y∈scope.names,y.2 ≠ .cell)(hk:scope.kind=.function)(hcl:∀x c,cl.lookup x=some c->X.env.cells.lookup x=some c)(hhas:∀C x,((compEnvC scope cl C X.env).kindOf x=some .cell\/(compEnvC scope cl C X.env).kindOf x=some .free)->∃c,cl.lookup x=some c)(hcap:∀C,∀p∈cap,X.N[p.2]?= some p.1/\X.env.scope.names.lookup p.1=some .cell/\((compEnvC scope cl C X.env).kindOf p.1=some .cell\/(compEnvC scope cl C X.env).kindOf p.1=some .free))
  (I2:Inv X pins σ H2 s2) (T:Turn X.prog X.w X.K tg J fp it tnn) (st2:tnn 0 s2.heap) (f2:∀b∈fp,ZeN X pins H2 b) (q2:∀p,H2 p=none->∃W:Nat->Nat->List V->St->Hp->Prop,(∃m,W 0 m [] (capσ σ tn.length cap) (upd H2 p (.lst []))) /\
 ∀i m ys σc H2,W i m ys σc H2->H2 p=some (.lst ys)/\((J.stop i H2/\R p H2)\/(J.go i H2/\∀x H3,J.yld i H2 x H3->g x σc H3 fun σ3 H4=>tt σ3 H4 fun b H4'=>if b=true then te σ3 H4' fun v H5=>H5 p=some (.lst ys)/\ys.length<sizeLine/\∃m',m'<m/\W (i+1) m' (ys ++ [v]) σ3 (upd H5 p (.lst (ys ++ [v]))) else ∃m',m'<m/\W (i+1) m' ys σ3 H4')))
  (hfin:∀(s3:Shared)(H3:Hp),Inv X pins σ H3 s3->(∀b∈fp,ZeN X pins H3 b)->∀(acc:Addr)(σ6:St)(H6:Hp)(s6:Shared),Inv (Zaw X (tn++cap.map (·.1)) scope cl s3.heap.objs.size fp s3 H3) [] σ6 H6 s6->R acc H6->compPost (model X.prog X.w) X.A X.xe use Qp (.ref acc) s3.heap.objs.size (.ok .next) s6) :
  wpAny (model X.prog X.w) X.A (newList []) (fun acc s₃=>wpAny (model X.prog X.w) X.A (newFunctionEnv scope X.env.globals cl [] X.env.qual none Value.none (some X.env)) (fun cenv s₄=>codeAny (model X.prog X.w) X.A (Code.compStart (.ListComp elt [⟨tg,iter,[ct],0⟩] scope pos) 0 (Value.ref it) acc { cenv with scope:=relabel scope X.env }) (compPost (model X.prog X.w) X.A X.xe use Qp acc cenv.locals) s₄) X.xe s₃) X.xe s2:=by
 have fresh:H2 s2.heap.objs.size=none:=I2.fresh;obtain⟨W,⟨m0,w0⟩,turn⟩:=q2 s2.heap.objs.size fresh;have lt2:∀b∈fp,b<s2.heap.objs.size:=fun b hb=>by
  obtain⟨o,ho,_⟩:=T.obj _ _ st2 b hb;exact Heap.lt_size ho
 have I3:Inv X pins σ (upd H2 s2.heap.objs.size (.lst [])) { s2 with heap:=s2.heap.push { cls:=.type "list",data:=.seq ([]:List Value).toArray } }:=I2.lnew (its:=[]) (t':=s2.toks) .nil (Nat.zero_le _);refine wpAny_newObj_type (wpAny_newFunctionEnv hcell (by intro y hy;simp at hy) (fun h1 hns1 hsb1=>?_) hk);dsimp only at hns1 hsb1 ⊢;generalize hS3:({ s2 with heap:=s2.heap.push { cls:=.type "list",dict:=none,data:=.seq ([]:List Value).toArray } }:Shared)=s3 at I3;have hh3:s2.heap.push { cls:=.type "list",dict:=none,data:=.seq ([]:List Value).toArray }=s3.heap:=by rw[<- hS3]
 rw[hh3] at hns1 hsb1 ⊢;have sz3:s3.heap.objs.size=s2.heap.objs.size+1:=by rw[<- hh3,Heap.size_push]
 have lt3:∀b∈fp,b<s3.heap.objs.size:=fun b hb=>Nat.lt_of_lt_of_le (lt2 b hb) (by rw[sz3];exact Nat.le_succ _);have f3:∀b∈fp,ZeN X pins (upd H2 s2.heap.objs.size (.lst [])) b:=fun b hb=>⟨by rw[Zd (Nat.ne_of_lt (lt2 b hb))];exact(f2 b hb).1,(f2 b hb).2⟩;have keep3:∀b o,s3.heap.get? b=some o->h1.get? b=some o:=fun b o q=>hsb1.extBut b o (Nat.ne_of_lt (Heap.lt_size q)) (Heap.get?_push_of_some _ q);have st3:tnn 0 h1:=T.keep _ _ _ st2 fun b hb o q=>keep3 b o (by rw[<- hh3];exact Heap.get?_push_of_some _ q);have I4:=(ZcO (tn:=tn) I3 hk hcl (hhas _) f3 lt3 (hcap _) hns1 keep3).tok (s2.toks+([]:List (Str×Value)).length);have loop:codeAny (model X.prog X.w) X.A (.compLoop (.ListComp elt [⟨tg,iter,[ct],0⟩] scope pos) 0 (.ref it) (.ref s2.heap.objs.size) (compEnvC scope cl s3.heap.objs.size X.env))
   (compPost (model X.prog X.w) X.A X.xe use Qp (.ref s2.heap.objs.size) s3.heap.objs.size) { s3 with heap:=h1,toks:=s2.toks+([]:List (Str×Value)).length }:=by
  refine ZgZ (fun n s'=>∃i ys σ' H',Inv (Zaw X (tn++cap.map (·.1)) scope cl s3.heap.objs.size fp s3 (upd H2 s2.heap.objs.size (.lst []))) [] σ' H' s'/\tnn i s'.heap/\(∀b∈fp,H' b=none)/\W i n ys σ' H') ?_ m0
   ⟨0,[],_,_,I4,st3,fun b hb=>(f3 b hb).1,w0⟩
  rintro n s5 ⟨i,ys,σ5,H5,I5,st5,fr5,w5⟩;obtain⟨hD,alt⟩:=turn i n ys σ5 H5 w5;have stat:∀{H':Hp},(∀b∈fp,H' b=none)->∀b∈fp,ZeN (Zaw X (tn++cap.map (·.1)) scope cl s3.heap.objs.size fp s3 (upd H2 s2.heap.objs.size (.lst []))) [] H' b :=
   fun hn b hb=>⟨hn b hb,(I4.ok.exf b hb).1,I4.ok.exfs b hb,.inl hb,(I4.ok.exf b hb).2,fun p hp=>by cases hp⟩
  rcases alt with⟨stop,qn⟩|⟨go,step⟩
  ·refine thn (T.done (Zaw X (tn++cap.map (·.1)) scope cl s3.heap.objs.size fp s3 (upd H2 s2.heap.objs.size (.lst []))) rfl rfl rfl hc i [] s5 σ5 H5 no0 I5 (stat fr5) st5 stop) fun r s6 ⟨hr,I6⟩=>?_;subst hr;exact hfin s3 _ I3 f3 _ σ5 H5 s6 I6 qn
  ·refine thn (T.item (Zaw X (tn++cap.map (·.1)) scope cl s3.heap.objs.size fp s3 (upd H2 s2.heap.objs.size (.lst []))) rfl rfl rfl hc i [] s5 σ5 H5 no0 I5 (stat fr5) st5 go) fun r s6 ⟨u,hr,h6⟩=>?_;subst hr;refine thn h6 fun _ s7 ⟨x,H7,I7,r7,y7,st7,fr7⟩=>?_;have I7':=I7.pinned (stat fr7) (T.obj _ _ st7);refine thn (hg _ _ _ _ _ s7 σ5 H7 x u _ I7' r7 (step x H7 y7)) fun _ s8 ⟨σ8,H8,I8,q8⟩=>?_;refine thn (ht _ _ _ _ _ s8 σ8 H8 _ I8 q8) fun ok s8' ⟨H8',I8',q8'⟩=>?_;cases ok with
   | true =>
    simp only[if_true] at q8' ⊢;refine thn (he _ _ _ _ _ s8' σ8 H8' _ I8' q8') fun xv s9 ⟨v9,H9,I9,r9,q9⟩=>?_;obtain⟨hD9,hl9,m',hm',w9⟩:=q9;refine thn (ZR _ s9 σ8 H9 (.ref s2.heap.objs.size) [v9] (.ref s2.heap.objs.size) [xv] (fun z H'=>z=.non/\H'=upd H9 s2.heap.objs.size (.lst (ys ++ [v9]))) I9 rfl (.cons r9 .nil)
     ⟨s2.heap.objs.size,ys,v9,rfl,rfl,hD9,hl9,rfl,rfl⟩) fun z s10 ⟨zv,H10,I10,_,_,eH⟩=>?_
    subst eH;refine⟨m',hm',i+1,ys ++ [v9],σ8,_,I10.unpinned,T.keep _ _ _ st7 fun b hb o q=>(I10.pin (b,o) (List.mem_append_right _ (List.mem_append_right _ (ZaQ hb q)))).1,fun b hb=>?_,w9⟩;obtain⟨o,q,d⟩:=T.obj _ _ st7 b hb;exact(I10.pin (b,o) (List.mem_append_right _ (List.mem_append_right _ (ZaQ hb q)))).2.1
   | false =>
    simp only[Bool.false_eq_true,if_false] at q8' ⊢;obtain⟨m',hm',w9⟩:=q8';refine⟨m',hm',i+1,ys,σ8,_,I8'.unpinned,T.keep _ _ _ st7 fun b hb o q=>(I8'.pin (b,o) (List.mem_append_right _ (List.mem_append_right _ (ZaQ hb q)))).1,fun b hb=>?_,w9⟩;obtain⟨o,q,d⟩:=T.obj _ _ st7 b hb;exact(I8'.pin (b,o) (List.mem_append_right _ (List.mem_append_right _ (ZaQ hb q)))).2.1
 subst hS3;exact codeAny_compStart_list loop (T.self X.A 0 _ _ _ st3 loop)
theorem ZcG(tn:List Str)(cap:List (Str×Nat))(hi:PI X tg iter wi)(hg:∀C fp s H,PG (Zaw X (tn++cap.map (·.1)) scope cl C fp s H) tg g)(ht:∀C fp s H,PT (Zaw X (tn++cap.map (·.1)) scope cl C fp s H) ct tt)(he:∀C fp s H,PE (Zaw X (tn++cap.map (·.1)) scope cl C fp s H) elt te)
  (hc:X.calm=true) (hclos:closureFor scope X.env=pure cl) (hcell:∀y∈scope.names,y.2 ≠ .cell) (hk:scope.kind=.function) (hnames:∀y∈scope.names,y.2=.local->scope.names.lookup y.1=some .local)
  (hcl:∀x c,cl.lookup x=some c->X.env.cells.lookup x=some c)
  (hhas:∀C x,((compEnvC scope cl C X.env).kindOf x=some .cell\/(compEnvC scope cl C X.env).kindOf x=some .free)->∃c,cl.lookup x=some c)
  (hcap:∀C,∀p∈cap,X.N[p.2]?= some p.1/\X.env.scope.names.lookup p.1=some .cell/\((compEnvC scope cl C X.env).kindOf p.1=some .cell\/(compEnvC scope cl C X.env).kindOf p.1=some .free))
  (hs:∀v,foldedSetIterable iter X.env v=pure v):PE X (.ListComp elt [⟨tg,iter,[ct],0⟩] scope pos) (ZjO wi tn.length cap g tt te):=by
 intro pins s σ H Q I h;rw[eval_ListComp];refine wpAny_comprehension_free (use:=none) rfl hs hclos hk hnames (thn (hi pins s σ H _ I h) fun v s1 h1=>thn h1 fun itv s2 h2=>?_);obtain⟨it,fp,tnn,J,H2,e,I2,T,st2,f2,q2⟩:=h2;subst e;refine Zd1 (R:=fun p H6=>Q (.ref p) H6) tn cap hg ht he hc hcell hk hcl hhas hcap I2 T st2 f2 q2 fun s3 H3 I3 f3 acc σ6 H6 s6 I6 q6=>?_;obtain⟨m,hn,_⟩:=I6.loc;refine⟨m,hn,fun h' sb=>?_⟩;have nC:∀b o,s3.heap.get? b=some o->b≠s3.heap.objs.size:=fun b o q=>Nat.ne_of_lt (Heap.lt_size q);have u:Un (frs X.stack) fp H3 H6 s3.heap h':=by
  have u0:=I6.base;refine⟨fun b o q n hb hx=>(sb.2 b (nC b o q)).trans (u0.keep b o q n hb hx),fun b o q n hb hx=>?_,u0.free,fun b o q hx=>?_,u0.tups,u0.frzs,u0.tbls⟩
  ·obtain⟨sl,e⟩:=u0.slot b o q n hb hx;exact⟨sl,(sb.2 b (nC b o q)).trans e⟩
  ·obtain⟨o',e⟩:=u0.there b o q hx;exact⟨o',(sb.2 b (nC b o q)).trans e⟩
 have free6:H6 s3.heap.objs.size=none:=I6.free;have ok6:HOk X.prog X.w H6 h':=fun b o q=>(I6.hok b o q).stay (fun c v hcv r=>(sb.2 c (by
  rcases hcv with z|z
  ·rw[z];exact Zi q free6
  ·exact Zi z free6)).trans r) (fun _ q=>q) fun _ _ q=>q
 have I':=I3.call (g':=s6.gens) (d':=s6.drawn) (t':=s6.toks) (ch:=fp) u ok6 I6.bare fun b hb=>⟨(f3 b hb).2.2.2.1,(f3 b hb).2.1,(f3 b hb).2.2.2.2.1,(f3 b hb).2.2.2.2.2⟩;have e:({ s6 with heap:=h' }:Shared)= { s3 with heap:=h',gens:=s6.gens,drawn:=s6.drawn,toks:=s6.toks }:=by
  have ho:s6.os=s3.os:=I6.os;obtain⟨a1,a2,a3,a4,a5⟩:=s6;obtain⟨b1,b2,b3,b4,b5⟩:=s3;simp only at ho;subst ho;rfl
 rw[e];exact⟨.ref _,H6,I',rfl,q6⟩
end
end L2
namespace PySem.SeqAt
open AutoSeq1 (wpAny_loadPart')
open MeetsSeq MeetsSeq2 MeetsSeq3 SeqRoads2
end PySem.SeqAt
namespace Fg
open PySem L2 FgM PySem.SeqAt
theorem Zj4(x y:Str):PyData.eqv (.str x) (.str y)=decide (x=y):=by
 show(x == y)=_;by_cases e:x=y
 ·subst e;simp
 ·rw[decide_eq_false e];exact beq_eq_false_iff_ne.mpr e
theorem ZgK:∀xs ys:List Str,PyData.eqvAll (xs.map PyData.str) (ys.map PyData.str)=decide (xs=ys)
 | [],[]=>rfl
 | [],_::_=>by simp[PyData.eqvAll]
 | _::_,[]=>by simp[PyData.eqvAll]
 | x::xs,y::ys=>by
  show(PyData.eqv (.str x) (.str y)&&PyData.eqvAll (xs.map PyData.str) (ys.map PyData.str))=_;rw[Zj4,ZgK xs ys];by_cases e:x=y <;> by_cases e2:xs=ys <;> simp[e,e2]
def OkW(ws:List Str):Prop := ∀x∈ws,PyData.strOk x=true
end Fg
namespace L2
open PySem PySem.Spec PyProof.Rows
section
variable{X:Cx}
def ZlQ(K:PySem.W.Frag)(n:Nat)(neg:Bool):R2:=fun x y H Q=>∃d e,Dp K H x d/\Dp K H y e/\d.canLay0=true/\e.canLay0=true/\min d.depth e.depth<=n/\Q (.bl (if neg then !PyData.eqv d e else PyData.eqv d e)) H
end
def CW(n:Nat)(Pv:Nat->List V->St->Hp->Prop):Nat->Nat->List V->St->Hp->Prop:=fun i m ys σ H=>m=n-i/\i<=n/\Pv i ys σ H
theorem CW.next{n i:Nat}{Pv:Nat->List V->St->Hp->Prop}{ys:List V}{σ : St}{H:Hp}(hi:i<n)(h:Pv (i+1) ys σ H):∃m',m'<n-i/\CW n Pv (i+1) m' ys σ H:=⟨_,by lia,rfl,hi,h⟩
theorem nd1{x:Str}:[x].Nodup:=by simp
theorem Zfq{K:PySem.W.Frag}{a p:Addr}{xs:List V}{g:TG}{te:TE}{R:Hp->Prop}{σ0:St}{H0:Hp}(Pv:Nat->List V->St->Hp->Prop)(h0:Pv 0 [] σ0 H0)
  (hl:∀i ys σ H,i<=xs.length->Pv i ys σ H->SqL K H a xs/\H p=some (.lst ys))
  (hs:∀i ys x σ H,i<xs.length->xs[i]?= some x->Pv i ys σ H->g x σ H fun σ3 H4=>te σ3 H4 fun v H5=>H5 p=some (.lst ys)/\ys.length<sizeLine/\∃m',m'<xs.length-i/\CW xs.length Pv (i+1) m' (ys ++ [v]) σ3 (upd H5 p (.lst (ys ++ [v]))))
  (hd:∀ys σ H,Pv xs.length ys σ H->R H) :
  ∃W:Nat->Nat->List V->St->Hp->Prop,(∃m,W 0 m [] σ0 H0)/\∀i m ys σc H2,W i m ys σc H2->H2 p=some (.lst ys)/\(((Itl K a).stop i H2/\R H2)\/((Itl K a).go i H2/\∀x H3,(Itl K a).yld i H2 x H3->g x σc H3 fun σ3 H4=>te σ3 H4 fun v H5 =>
   H5 p=some (.lst ys)/\ys.length<sizeLine/\∃m',m'<m/\W (i+1) m' (ys ++ [v]) σ3 (upd H5 p (.lst (ys ++ [v]))))):=by
 refine⟨CW xs.length Pv,⟨_,rfl,Nat.zero_le _,h0⟩,?_⟩;rintro i m ys σ H ⟨rfl,hi,hp⟩;obtain⟨h1,h2⟩:=hl i ys σ H hi hp;refine⟨h2,?_⟩;by_cases hlt:i<xs.length
 ·refine .inr ⟨⟨xs,xs[i],h1,List.getElem?_eq_getElem hlt⟩,?_⟩;rintro x H3 ⟨rfl,hx⟩;exact hs i ys x σ _ hlt (hx xs h1) hp
 ·refine .inl ⟨⟨xs,h1,by lia⟩,hd ys σ H ?_⟩;have e:i=xs.length:=by lia
  rw[<- e];exact hp
theorem ZcP{scope:Scope}{env:Env}(h:∀y∈scope.names,y.2 ≠ .cell/\y.2 ≠ .free){cl:List (Str×Addr)}:∀(C:Addr)(x:Str),((compEnvC scope cl C env).kindOf x=some .cell\/(compEnvC scope cl C env).kindOf x=some .free)->∃c,cl.lookup x=some c:=by
 have key:∀(l:List (Str×NameKind))(x:Str),(∀y∈l,y.2 ≠ .cell/\y.2 ≠ .free)->∀k,(l.map fun(n,k)=>if(k ==.free&&env.scope.kind ==.function&&env.kindOf n == some .cell) then(n,.cell) else(n,k)).lookup x=some k->k ≠ .cell/\k ≠ .free:=by
  intro l
  induction l with
  | nil=>intro x _ k e;simp at e
  | cons y l ih =>
   intro x hy k e;obtain⟨n,kd⟩:=y;have hk:=hy _ (List.mem_cons_self ..);have e0:(kd == NameKind.free&&env.scope.kind ==.function&&env.kindOf n == some .cell)=false:=by
    have:(kd == NameKind.free)=false:=by
     cases kd <;> first|rfl|exact absurd rfl hk.2
    rw[this];rfl
   simp only[List.map_cons,e0,Bool.false_eq_true,if_false,List.lookup_cons] at e;cases hx:x == n with
   | true =>
    rw[hx] at e;cases e;exact hk
   | false =>
    rw[hx] at e;exact ih x (fun y hm=>hy y (List.mem_cons_of_mem _ hm)) k e
 intro C x hx;rcases hx with e|e
 ·exact absurd rfl (key _ x h _ e).1
 ·exact absurd rfl (key _ x h _ e).2
section
variable{X:Cx}{elt iter tg:Expr}{scope:Scope}{pos:Pos}{wi:TI}{g:TG}{te:TE}{cl:List (Str×Addr)}
theorem ZfL{y:Str}{py spos:Pos}{n0:Nat}(hN:X.N.Nodup)(hi0:X.N[n0]?= some y)(hx:Loc X.env.scope y)(tn:List Str)(cap:List (Str×Nat))(hi:PI X tg iter wi)(hg:∀C fp s H,PG (Zaw X (tn++cap.map (·.1)) scope cl C fp s H) tg g)(he:∀C fp s H,PE (Zaw X (tn++cap.map (·.1)) scope cl C fp s H) elt te)
  (hc:X.calm=true) (hclos:closureFor scope X.env=pure cl) (hcell:∀y∈scope.names,y.2 ≠ .cell) (hk:scope.kind=.function) (hnames:∀y∈scope.names,y.2=.local->scope.names.lookup y.1=some .local)
  (hcl:∀x c,cl.lookup x=some c->X.env.cells.lookup x=some c)
  (hhas:∀C x,((compEnvC scope cl C X.env).kindOf x=some .cell\/(compEnvC scope cl C X.env).kindOf x=some .free)->∃c,cl.lookup x=some c)
  (hcap:∀C,∀p∈cap,X.N[p.2]?= some p.1/\X.env.scope.names.lookup p.1=some .cell/\((compEnvC scope cl C X.env).kindOf p.1=some .cell\/(compEnvC scope cl C X.env).kindOf p.1=some .free))
  (hs:∀v,foldedSetIterable iter X.env v=pure v) (hsw:swapsWith (.ListComp elt [⟨tg,iter,[],0⟩] scope pos) (some (.Name y py)) spos.line X.env=pure true) (hf:X.fn y=true\/X.env.scope.names.lookup y=some .local:=by first|exact .inl rfl|exact .inr rfl|assumption) :
  PS X (.Assign [.Name y py] (.ListComp elt [⟨tg,iter,[],0⟩] scope pos) spos) (ZlA (Zk7 wi tn.length cap g te) (ZfB n0)):=by
 intro pins s σ H D I h;rw[exec_Assign_Name_used _ _ _ _ hsw];refine wpAny_bind (wpAny_standAt (wpAny_bind ?_));show wpAny _ X.A (do let _ <- comprehension (.ListComp elt [⟨tg,iter,[],0⟩] scope pos) scope X.env _ (newList []) false (eval iter X.env) (some (assign (.Name y py) X.env))) _ _ s;refine wpAny_bind (wpAny_mono (wpAny_comprehension_free (use:=some (assign (.Name y py) X.env)) (Q:=fun _ s'=>SP X pins D .next s') rfl hs hclos hk hnames (thn (hi pins s σ H _ I h) fun v s1 h1=>thn h1 fun itv s2 h2=>?_)) (fun _ s' hq=>wpAny_pure (wpAny_pure hq)) fun _ _ e=>e)
 obtain⟨it,fp,tnn,J,H2,e,I2,T,st2,f2,q2⟩:=h2;subst e;refine Zd4 (R:=fun p H6=>ZfB n0 (.ref p) σ H6 (fun σ' H'=>D.nx σ' H')) tn cap hg he hc hcell hk hcl hhas hcap I2 T st2 f2 q2 fun s3 H3 I3 f3 acc σ6 H6 s6 I6 q6=>?_;obtain⟨m,hn,_⟩:=I6.loc;have I':Inv X pins σ H6 s6:=I3.call' (ch:=fp) I6.os I6.base I6.hok I6.bare fun b hb=>⟨(f3 b hb).2.2.2.1,(f3 b hb).2.1,(f3 b hb).2.2.2.2.1,(f3 b hb).2.2.2.2.2⟩;have fC:ZeN X pins H6 s3.heap.objs.size:=I3.fpOk (Nat.le_refl _) I6.free;show wpAny _ X.A (assign (.Name y py) X.env (.ref acc)) _ _ s6;refine wpAny_assign_Name (Zdp (v:=.ref acc) I' hN hi0 hx rfl (fun s7 I7 ⟨a,sb,ha⟩=>?_) hf);have nCa:s3.heap.objs.size≠a:=by
  rcases ha with z|z
  ·rw[z];exact fC.2.1
  ·exact(fC.2.2.2.2.1 _ _ z).symm
 exact⟨m,hn.sameBut sb nCa,fun h' sb'=>⟨_,H6,I7.turned (t':=s7.toks) (fun b o hb e=>(sb'.2 b hb).trans e) fC.1 fC.2.1 fC.2.2.2.1 fC.2.2.2.2.1 fC.2.2.2.2.2,q6⟩⟩
end
section
variable{X:Cx}{elt ct iter tg:Expr}{scope:Scope}{pos:Pos}{wi:TI}{g:TG}{tt:TT}{te:TE}{cl:List (Str×Addr)}
theorem Zb4{y:Str}{py spos:Pos}{n0:Nat}(hN:X.N.Nodup)(hi0:X.N[n0]?= some y)(hx:Loc X.env.scope y)(tn:List Str)(cap:List (Str×Nat))(hi:PI X tg iter wi)(hg:∀C fp s H,PG (Zaw X (tn++cap.map (·.1)) scope cl C fp s H) tg g)(ht:∀C fp s H,PT (Zaw X (tn++cap.map (·.1)) scope cl C fp s H) ct tt)(he:∀C fp s H,PE (Zaw X (tn++cap.map (·.1)) scope cl C fp s H) elt te)
  (hc:X.calm=true) (hclos:closureFor scope X.env=pure cl) (hcell:∀y∈scope.names,y.2 ≠ .cell) (hk:scope.kind=.function) (hnames:∀y∈scope.names,y.2=.local->scope.names.lookup y.1=some .local)
  (hcl:∀x c,cl.lookup x=some c->X.env.cells.lookup x=some c)
  (hhas:∀C x,((compEnvC scope cl C X.env).kindOf x=some .cell\/(compEnvC scope cl C X.env).kindOf x=some .free)->∃c,cl.lookup x=some c)
  (hcap:∀C,∀p∈cap,X.N[p.2]?= some p.1/\X.env.scope.names.lookup p.1=some .cell/\((compEnvC scope cl C X.env).kindOf p.1=some .cell\/(compEnvC scope cl C X.env).kindOf p.1=some .free))
  (hs:∀v,foldedSetIterable iter X.env v=pure v) (hsw:swapsWith (.ListComp elt [⟨tg,iter,[ct],0⟩] scope pos) (some (.Name y py)) spos.line X.env=pure true) (hf:X.fn y=true\/X.env.scope.names.lookup y=some .local:=by first|exact .inl rfl|exact .inr rfl|assumption) :
  PS X (.Assign [.Name y py] (.ListComp elt [⟨tg,iter,[ct],0⟩] scope pos) spos) (ZlA (ZjO wi tn.length cap g tt te) (ZfB n0)):=by
 intro pins s σ H D I h;rw[exec_Assign_Name_used _ _ _ _ hsw];refine wpAny_bind (wpAny_standAt (wpAny_bind ?_));show wpAny _ X.A (do let _ <- comprehension (.ListComp elt [⟨tg,iter,[ct],0⟩] scope pos) scope X.env _ (newList []) false (eval iter X.env) (some (assign (.Name y py) X.env))) _ _ s;refine wpAny_bind (wpAny_mono (wpAny_comprehension_free (use:=some (assign (.Name y py) X.env)) (Q:=fun _ s'=>SP X pins D .next s') rfl hs hclos hk hnames (thn (hi pins s σ H _ I h) fun v s1 h1=>thn h1 fun itv s2 h2=>?_)) (fun _ s' hq=>wpAny_pure (wpAny_pure hq)) fun _ _ e=>e)
 obtain⟨it,fp,tnn,J,H2,e,I2,T,st2,f2,q2⟩:=h2;subst e;refine Zd1 (R:=fun p H6=>ZfB n0 (.ref p) σ H6 (fun σ' H'=>D.nx σ' H')) tn cap hg ht he hc hcell hk hcl hhas hcap I2 T st2 f2 q2 fun s3 H3 I3 f3 acc σ6 H6 s6 I6 q6=>?_;obtain⟨m,hn,_⟩:=I6.loc;have I':Inv X pins σ H6 s6:=I3.call' (ch:=fp) I6.os I6.base I6.hok I6.bare fun b hb=>⟨(f3 b hb).2.2.2.1,(f3 b hb).2.1,(f3 b hb).2.2.2.2.1,(f3 b hb).2.2.2.2.2⟩;have fC:ZeN X pins H6 s3.heap.objs.size:=I3.fpOk (Nat.le_refl _) I6.free;show wpAny _ X.A (assign (.Name y py) X.env (.ref acc)) _ _ s6;refine wpAny_assign_Name (Zdp (v:=.ref acc) I' hN hi0 hx rfl (fun s7 I7 ⟨a,sb,ha⟩=>?_) hf);have nCa:s3.heap.objs.size≠a:=by
  rcases ha with z|z
  ·rw[z];exact fC.2.1
  ·exact(fC.2.2.2.2.1 _ _ z).symm
 exact⟨m,hn.sameBut sb nCa,fun h' sb'=>⟨_,H6,I7.turned (t':=s7.toks) (fun b o hb e=>(sb'.2 b hb).trans e) fC.1 fC.2.1 fC.2.2.2.1 fC.2.2.2.2.1 fC.2.2.2.2.2,q6⟩⟩
end
section
variable{κ : Type}[DecidableEq κ]
def Zbe(kvs:List (κ × V))(k : κ):Option V:=(kvs.find? fun kv=>decide (kv.1=k)).map (·.2)
def putK(kvs:List (κ × V))(k : κ)(v:V):List (κ × V) :=
 if(kvs.any fun kv=>decide (kv.1=k))=true then kvs.map (fun kv=>if kv.1=k then(kv.1,v) else kv) else kvs ++ [(k,v)]
theorem ZaT{p : κ × V}{r:List (κ × V)}{k : κ}(e:p.1=k):Zbe (p::r) k=some p.2:=by simp[Zbe,List.find?_cons,e]
theorem ZaU{p : κ × V}{r:List (κ × V)}{k : κ}(e : ¬ p.1=k):Zbe (p::r) k=Zbe r k:=by simp[Zbe,List.find?_cons,e]
theorem ZaS(k : κ):∀kvs:List (κ × V),(kvs.any fun kv=>decide (kv.1=k))=(Zbe kvs k).isSome
 | []=>rfl
 | p::r=>by
  rw[List.any_cons];by_cases e:p.1=k
  ·simp only[ZaT e,decide_eq_true e,Bool.true_or,Option.isSome_some]
  ·rw[ZaU e,decide_eq_false e,Bool.false_or];exact ZaS k r
theorem Zgt(k j : κ)(y:V):∀kvs:List (κ × V),Zbe (kvs.map fun kv=>if kv.1=k then(kv.1,y) else kv) j=(Zbe kvs j).map fun x=>if j=k then y else x
 | []=>rfl
 | p::r=>by
  have ih:=Zgt k j y r;rw[List.map_cons];by_cases h:p.1=k
  ·rw[if_pos h];by_cases e:p.1=j
   ·rw[ZaT (p:=(p.1,y)) e,ZaT e,Option.map_some,if_pos (e.symm.trans h)]
   ·rw[ZaU (p:=(p.1,y)) e,ZaU e,ih]
  ·rw[if_neg h];by_cases e:p.1=j
   ·rw[ZaT (p:=p) e,ZaT e,Option.map_some,if_neg (fun z=>h (e.trans z))]
   ·rw[ZaU (p:=p) e,ZaU e,ih]
theorem Zfo(k j : κ)(y:V):∀kvs:List (κ × V),Zbe kvs k=none->Zbe (kvs ++ [(k,y)]) j=if j=k then some y else Zbe kvs j
 | [],_=>by
  by_cases e:k=j
  ·rw[if_pos e.symm];exact ZaT (p:=(k,y)) e
  ·rw[if_neg (fun z=>e z.symm)];exact ZaU (p:=(k,y)) e
 | p::r,hn=>by
  rw[List.cons_append];have hk : ¬ p.1=k:=fun z=>by rw[ZaT z] at hn;cases hn
  rw[ZaU hk] at hn;have ih:=Zfo k j y r hn;by_cases e:p.1=j
  ·rw[ZaT e,ZaT e,if_neg (fun z=>hk (e.trans z))]
  ·rw[ZaU e,ZaU e,ih]
theorem ZeD(kvs:List (κ × V))(k j : κ)(y:V):Zbe (putK kvs k y) j=if j=k then some y else Zbe kvs j:=by
 unfold putK;by_cases a:(kvs.any fun kv=>decide (kv.1=k))=true
 ·rw[if_pos a,Zgt];rw[ZaS] at a;by_cases e:j=k
  ·obtain⟨x,hx⟩:=Option.isSome_iff_exists.mp a;rw[if_pos e,e,hx,Option.map_some,if_pos rfl]
  ·rw[if_neg e];cases Zbe kvs j with
   | none=>rfl
   | some x=>rw[Option.map_some,if_neg e]
 ·rw[if_neg a];refine Zfo k j y kvs ?_;rw[ZaS] at a;cases q:Zbe kvs k with
  | none=>rfl
  | some x=>rw[q] at a;exact(a rfl).elim
theorem Za5(kvs:List (κ × V))(k : κ)(v:V):(putK kvs k v).length<=kvs.length+1:=by
 unfold putK
 split
 ·rw[List.length_map];lia
 ·rw[List.length_append,List.length_cons,List.length_nil];lia
theorem ZeK{kvs:List (κ × V)}{k : κ}(v:V)(h:Zbe kvs k=none):putK kvs k v=kvs ++ [(k,v)]:=by
 unfold putK;rw[ZaS,h];exact if_neg (by decide)
theorem ZeO.isSome_eq{o:Option V}{u:Option Value}(r:ZeO o u):o.isSome=u.isSome:=by
 cases o with
 | none=>cases u with
  | none=>rfl
  | some _=>exact(show False from r).elim
 | some _=>cases u with
  | none=>exact(show False from r).elim
  | some _=>rfl
theorem ZeO.getD{o:Option V}{u:Option Value}{d:V}{d':Value}(r:ZeO o u)(rd:RelV d d'):RelV (o.getD d) (u.getD d'):=by
 cases o with
 | none=>cases u with
  | none=>exact rd
  | some _=>exact(show False from r).elim
 | some _=>cases u with
  | none=>exact(show False from r).elim
  | some _=>exact r
theorem KV.val{kvs:List (κ × V)}{vs:List (κ × Value)}(r:KV kvs vs)(k : κ):ZeO (Zbe kvs k) (valueAt vs k):=by
 unfold KV at r
 induction r with
 | nil=>exact True.intro
 | @cons p q ps qs h t ih =>
  obtain⟨h1,h2⟩:=h;by_cases e:p.1=k
  ·have e':q.1=k:=h1.symm.trans e;have b:valueAt (q::qs) k=some q.2:=by simp[valueAt,List.find?_cons,e']
   rw[ZaT e,b];exact h2
  ·have e' : ¬ q.1=k:=fun z=>e (h1.trans z);have b:valueAt (q::qs) k=valueAt qs k:=by simp[valueAt,List.find?_cons,e']
   rw[ZaU e,b];exact ih
theorem KV.any{kvs:List (κ × V)}{vs:List (κ × Value)}(r:KV kvs vs)(k : κ):(kvs.any fun kv=>decide (kv.1=k))=vs.any fun kv=>decide (kv.1=k):=by
 unfold KV at r
 induction r with
 | nil=>rfl
 | cons h t ih=>rw[List.any_cons,List.any_cons,ih,h.1]
theorem KV.repl{kvs:List (κ × V)}{vs:List (κ × Value)}(r:KV kvs vs)(k : κ){y:V}{u:Value}(ry:RelV y u) :
  KV (kvs.map fun kv=>if kv.1=k then(kv.1,y) else kv) (vs.map fun kv=>if kv.1=k then(kv.1,u) else kv):=by
 unfold KV at r ⊢
 induction r with
 | nil=>exact .nil
 | @cons p q ps qs h t ih =>
  rw[List.map_cons,List.map_cons];refine .cons ?_ ih;obtain⟨h1,h2⟩:=h;by_cases e:p.1=k
  ·rw[if_pos e,if_pos (h1.symm.trans e)];exact⟨h1,ry⟩
  ·rw[if_neg e,if_neg (fun z=>e (h1.trans z))];exact⟨h1,h2⟩
theorem KV.put{kvs:List (κ × V)}{vs:List (κ × Value)}(r:KV kvs vs)(k : κ){y:V}{u:Value}(ry:RelV y u):KV (putK kvs k y) (stored vs k u):=by
 unfold putK stored;rw[r.any k];by_cases e:(vs.any fun kv=>decide (kv.1=k))=true
 ·rw[if_pos e,if_pos e];exact r.repl k ry
 ·rw[if_neg e,if_neg e];exact Paired.snoc r ⟨rfl,ry⟩
theorem KV.length{kvs:List (κ × V)}{vs:List (κ × Value)}(r:KV kvs vs):kvs.length=vs.length:=Paired.length r
end
theorem ZeY{P:Program}{w:World}{k:Key}{u:Value}(r:RelV (kV k) u):(Zao P w).is k u=true:=by
 cases k with
 | inl i=>obtain⟨t,e⟩:=(show ∃t,u=Value.int i t from r);subst e;exact Zfu P w i t
 | inr x=>obtain⟨t,e⟩:=(show ∃t,u=Value.str x t from r);subst e;exact ZfY P w x t
theorem Ze1{P:Program}{w:World}:∀{ks:List Key}{us:List Value},Vals (ks.map kV) us->ItemsAre (Zao P w) ks us
 | [],_,r=>by rw[List.map_nil] at r;cases r;exact .nil
 | k::ks,_,r=>by
  rw[List.map_cons] at r;cases r with
  | cons h t=>exact .cons (ZeY h) (Ze1 t)
abbrev KT(H:Hp):List (List Key×V)->List (List Key×Addr×Value)->Prop:=Paired fun p q=>p.1=q.1/\H q.2.1=some (.tup (p.1.map kV))/\RelV p.2 q.2.2
theorem KT.val{H:Hp}{kvs:List (List Key×V)}{xs:List (List Key×Addr×Value)}(r:KT H kvs xs)(k:List Key):ZeO (Zbe kvs k) ((atKey xs k).map (·.2)):=by
 induction r with
 | nil=>exact True.intro
 | @cons p q ps qs h t ih =>
  obtain⟨h1,_,h2⟩:=h;by_cases e:p.1=k
  ·have e':q.1=k:=h1.symm.trans e;have b:atKey (q::qs) k=some q.2:=by simp[atKey,List.find?_cons,e']
   rw[ZaT e,b];exact h2
  ·have e' : ¬ q.1=k:=fun z=>e (h1.trans z);have b:atKey (q::qs) k=atKey qs k:=by simp[atKey,List.find?_cons,e']
   rw[ZaU e,b];exact ih
theorem KT.repl{H:Hp}{kvs:List (List Key×V)}{xs:List (List Key×Addr×Value)}(r:KT H kvs xs)(k:List Key){y:V}{u:Value}(ry:RelV y u) :
  KT H (kvs.map fun kv=>if kv.1=k then(kv.1,y) else kv) (xs.map (putAt k u)):=by
 induction r with
 | nil=>exact .nil
 | @cons p q ps qs h t ih =>
  rw[List.map_cons,List.map_cons];refine .cons ?_ ih;obtain⟨h1,h2,h3⟩:=h;unfold putAt;by_cases e:p.1=k
  ·rw[if_pos e,if_pos (h1.symm.trans e)];exact⟨h1,h2,ry⟩
  ·rw[if_neg e,if_neg (fun z=>e (h1.trans z))];exact⟨h1,h2,h3⟩
theorem KT.put{H:Hp}{kvs:List (List Key×V)}{xs:List (List Key×Addr×Value)}(r:KT H kvs xs)(k:List Key){b:Addr}{y:V}{u:Value}(hb:H b=some (.tup (k.map kV)))(ry:RelV y u) :
  KT H (putK kvs k y) (storedH xs k b u):=by
 have e:(kvs.any fun kv=>decide (kv.1=k))=(atKey xs k).isSome:=by
  rw[ZaS,(r.val k).isSome_eq,Option.isSome_map]
 unfold putK storedH;rw[e];by_cases q:(atKey xs k).isSome=true
 ·rw[if_pos q,if_pos q];exact r.repl k ry
 ·rw[if_neg q,if_neg q];exact Paired.snoc r ⟨rfl,hb,ry⟩
theorem KT.keeps{H H':Hp}{kvs:List (List Key×V)}{xs:List (List Key×Addr×Value)}(r:KT H kvs xs)(ht:∀b ys,H b=some (.tup ys)->H' b=some (.tup ys)):KT H' kvs xs :=
 Paired.mapP r fun _ _ z=>⟨z.1,ht _ _ z.2.1,z.2.2⟩
section
variable{P:Program}{w:World}{H:Hp}{h:Heap}{a:Addr}
theorem ZkX{u:HO}(ok:HOk P w H h)(e:Rd H a u):Zaz P w H h a u:=e.ok ok
theorem Ze2{kvs:List (Key×V)}(ok:HOk P w H h)(e:Rd H a (.dK kvs)):kvs.length<=sizeLine/\(a == sysModules)=false/\∃vs,KV kvs vs/\h.DictOf (Zao P w) a vs :=
 show Zaz P w H h a (.dK kvs) from ZkX ok e
theorem Zkm{kvs:List (Key×V)}(ok:HOk P w H h)(e:H a=some (.dK kvs)):kvs.length<=sizeLine/\(a == sysModules)=false/\∃vs,KV kvs vs/\h.DictOf (Zao P w) a vs:=Ze2 ok (.inl e)
theorem Zdo{ks:List Key}(ok:HOk P w H h)(e:H a=some (.tup (ks.map kV))):(tupleKind (Zao P w)).is h ks a:=by
 obtain⟨_,its,r,o,h1,h2,n,h3⟩:=(show Zaz P w H h a (.tup (ks.map kV)) from ok a _ e);exact⟨o,its.toArray,n,h1,h2,h3,by simpa using Ze1 r⟩
theorem ZfQ{kvs:List (List Key×V)}(ok:HOk P w H h)(e:Rd H a (.dT kvs)):kvs.length<=sizeLine/\(a == sysModules)=false /\
  ∃xs,KT H kvs xs/\h.DictOfH (tupleKind (Zao P w)) a xs:=by
 obtain⟨z,y,xs,r,o,es,ep,h1,h2,h3,h4,h5⟩:=(show Zaz P w H h a (.dT kvs) from ZkX ok e);refine⟨z,y,xs,r,o,es,ep,h1,h2,h3,h4,fun x hx=>?_,h5⟩;have all:∀{l:List (List Key×V)}{m:List (List Key×Addr×Value)},KT H l m->∀x∈m,(tupleKind (Zao P w)).is h x.1 x.2.1:=by
  intro l m q
  induction q with
  | nil=>intro x hx;exact nomatch hx
  | @cons p q ps qs hq t ih =>
   intro x hx;rcases List.mem_cons.mp hx with e|hx
   ·subst e;exact Zdo ok (by rw[<- hq.1];exact hq.2.1)
   ·exact ih x hx
 exact all r x hx
theorem Zl4{kvs:List (List Key×V)}(ok:HOk P w H h)(e:H a=some (.dT kvs)):kvs.length<=sizeLine/\(a == sysModules)=false /\
  ∃xs,KT H kvs xs/\h.DictOfH (tupleKind (Zao P w)) a xs:=ZfQ ok (.inl e)
end
def ZcX(H:Hp)(a:Addr)(y:V)(r:Option V):Prop :=
 (∃kvs k,Rd H a (.dK kvs)/\y=kV k/\r=Zbe kvs k)\/∃kvs k b,Rd H a (.dT kvs)/\y=.ref b/\H b=some (.tup (k.map kV))/\r=Zbe kvs k
def Zit(H:Hp)(a:Addr)(y v:V)(H':Hp):Prop :=
 (∃kvs k,H a=some (.dK kvs)/\y=kV k/\kvs.length<sizeLine/\H'=upd H a (.dK (putK kvs k v))) \/
 ∃kvs k b,H a=some (.dT kvs)/\y=.ref b/\H b=some (.tup (k.map kV))/\kvs.length<sizeLine/\H'=upd H a (.dT (putK kvs k v))
theorem ZcX.k{H:Hp}{a:Addr}{kvs:List (Key×V)}{k:Key}(e:H a=some (.dK kvs)):ZcX H a (kV k) (Zbe kvs k):=.inl ⟨kvs,k,.inl e,rfl,rfl⟩
theorem ZcX.t{H:Hp}{a b:Addr}{kvs:List (List Key×V)}{k:List Key}(e:H a=some (.dT kvs))(eb:H b=some (.tup (k.map kV))):ZcX H a (.ref b) (Zbe kvs k):=.inr ⟨kvs,k,b,.inl e,rfl,eb,rfl⟩
theorem Zit.k{H:Hp}{a:Addr}{kvs:List (Key×V)}{k:Key}{v:V}(e:H a=some (.dK kvs))(hl:kvs.length<sizeLine):Zit H a (kV k) v (upd H a (.dK (putK kvs k v))):=.inl ⟨kvs,k,e,rfl,hl,rfl⟩
theorem Zit.t{H:Hp}{a b:Addr}{kvs:List (List Key×V)}{k:List Key}{v:V}(e:H a=some (.dT kvs))(eb:H b=some (.tup (k.map kV)))(hl:kvs.length<sizeLine) :
  Zit H a (.ref b) v (upd H a (.dT (putK kvs k v))):=.inr ⟨kvs,k,b,e,rfl,eb,hl,rfl⟩
section
variable{X:Cx}{pins:List (Addr×Obj)}{σ : St}{H:Hp}{s:Shared}{a:Addr}{y v:V}{u r:Value}{o:Option V}{A:Around}{E:Value->Shared->Prop}
theorem Inv.big(I:Inv X pins σ H s):sysModules<s.heap.objs.size:=by
 have h:mainGlobals<s.heap.objs.size:=(I.mod.glob.keeps I.bk).lt;exact Nat.lt_trans (by decide) h
theorem Zim{Q:Value->Shared->Prop}(hu:A.units+1<cLine)(I:Inv X pins σ H s)(g:ZcX H a y (some v))(ry:RelV y u)(h:∀w' s',Inv X pins σ H s'->RelV v w'->Q w' s') :
  wpAny (model X.prog X.w) A (getItem (.ref a) u) Q E s:=by
 rcases g with⟨kvs,k,e,ey,l⟩|⟨kvs,k,b,e,ey,eb,l⟩
 ·subst ey;obtain⟨z,hd,vs,rel,dd⟩:=Ze2 I.hok e;obtain⟨w',hw,rw'⟩:=ZeO.some_of (v:=v) (o:=valueAt vs k) (by rw[l];exact rel.val k);exact wpAny_getItem_of (ZeY ry) dd.mapOf hw (h w' _ (I.tok _) rw')
 ·subst ey;cases (show u=Value.ref b from ry);obtain⟨z,hd,xs,rel,dd⟩:=ZfQ I.hok e;obtain⟨w',hw,rw'⟩:=ZeO.some_of (v:=v) (o:=(atKey xs k).map (·.2)) (by rw[l];exact rel.val k);obtain⟨p,hp,hp2⟩:=Option.map_eq_some_iff.mp hw;refine wpAny_getItem_heap (tupleKind_room_in1 hu) (Zdo I.hok eb) dd hp ?_;rw[hp2];exact h w' _ (I.tok _) rw'
theorem Zmr{Q:Value->Shared->Prop}(hu:A.units+1<cLine)(I:Inv X pins σ H s)(g:ZcX H a y o)(ry:RelV y u)(h:∀s',Inv X pins σ H s'->Q (.bool o.isSome) s') :
  wpAny (model X.prog X.w) A (compareOp .In u (.ref a)) Q E s:=by
 rcases g with⟨kvs,k,e,ey,l⟩|⟨kvs,k,b,e,ey,eb,l⟩
 ·subst ey;obtain⟨z,hd,vs,rel,dd⟩:=Ze2 I.hok e;refine wpAny_in_of (ZeY ry) hd dd.mapOf ?_;rw[<- (rel.val k).isSome_eq,<- l];exact h _ (I.tok _)
 ·subst ey;cases (show u=Value.ref b from ry);obtain⟨z,hd,xs,rel,dd⟩:=ZfQ I.hok e;refine wpAny_in_heap (tupleKind_room_in1 hu) (Zdo I.hok eb) hd dd ?_;have q:=(rel.val k).isSome_eq;rw[Option.isSome_map] at q;rw[<- q,<- l];exact h _ (I.tok _)
theorem Zkq{Q:Value->Shared->Prop}(hu:A.units+1<cLine)(I:Inv X pins σ H s)(g:ZcX H a y o)(ry:RelV y u)(h:∀s',Inv X pins σ H s'->Q (.bool (!o.isSome)) s') :
  wpAny (model X.prog X.w) A (compareOp .NotIn u (.ref a)) Q E s:=by
 rcases g with⟨kvs,k,e,ey,l⟩|⟨kvs,k,b,e,ey,eb,l⟩
 ·subst ey;obtain⟨z,hd,vs,rel,dd⟩:=Ze2 I.hok e;refine wpAny_notIn_of (ZeY ry) hd dd.mapOf ?_;rw[<- (rel.val k).isSome_eq,<- l];exact h _ (I.tok _)
 ·subst ey;cases (show u=Value.ref b from ry);obtain⟨z,hd,xs,rel,dd⟩:=ZfQ I.hok e;refine wpAny_notIn_heap (tupleKind_room_in1 hu) (Zdo I.hok eb) hd dd ?_;have q:=(rel.val k).isSome_eq;rw[Option.isSome_map] at q;rw[<- q,<- l];exact h _ (I.tok _)
theorem ZfX{h':Heap}{t':Nat}{ob:HO}(I:Inv X pins σ H s)(mu:Mut (H a))(hs:Heap.SameBut a s.heap h')(he:∃q,h'.get? a=some q)(new:Zaz X.prog X.w (upd H a ob) h' a ob) :
  Inv X pins σ (upd H a ob) { s with heap:=h',toks:=t' } :=
 I.write (x:=a) (e:=a) mu (.inl rfl) (fun b q hb z=>(hs.2 b hb).trans z) he new
theorem ZjP{P:Program}{w:World}{H':Hp}{h':Heap}{kvs:List (Key×V)}{vs:List (Key×Value)}(z:kvs.length<=sizeLine)(hd:(a == sysModules)=false)(rel:KV kvs vs)(dd:h'.DictOf (Zao P w) a vs) :
  Zaz P w H' h' a (.dK kvs):=⟨z,hd,vs,rel,dd⟩
theorem Zhn{H':Hp}{Q:Unit->Shared->Prop}(hu:A.units+1<cLine)(I:Inv X pins σ H s)(g:Zit H a y v H')(ry:RelV y u)(rv:RelV v r)(h:∀s',Inv X pins σ H' s'->Q () s') :
  wpAny (model X.prog X.w) A (setItem (.ref a) u r) Q E s:=by
 rcases g with⟨kvs,k,e,ey,l,eH⟩|⟨kvs,k,b,e,ey,eb,l,eH⟩
 ·subst ey eH;obtain⟨z,hd,vs,rel,dd⟩:=Zkm I.hok e;have hz:vs.length<=sizeLine:=by rw[<- rel.length];exact z
  have hl:(putK kvs k v).length<=sizeLine:=by have:=Za5 kvs k v;lia
  refine wpAny_setItem_pairs (hsz:=hz) (ZeY ry) dd fun h' dd' hs=>h _ ?_;have he:∃q,h'.get? a=some q:=let ⟨q,_,_,hq,_⟩:=dd';⟨q,hq⟩;exact ZfX I (by rw[e];exact True.intro) hs he (ZjP hl hd (rel.put k rv) dd')
 ·subst ey eH;cases (show u=Value.ref b from ry);obtain⟨z,hd,xs,rel,dd⟩:=Zl4 I.hok e;have hz:xs.length<=sizeLine:=by rw[<- Paired.length rel];exact z
  have hl:(putK kvs k v).length<=sizeLine:=by have:=Za5 kvs k v;lia
  refine wpAny_setItem_heap (hsz:=hz) (tupleKind_room_in1 hu) (Zdo I.hok eb) dd fun h' dd' hs=>h _ ?_;obtain⟨q,es,ep,hq,h2,h3,h4,_,h5⟩:=dd';refine ZfX I (by rw[e];exact True.intro) hs ⟨q,hq⟩ ⟨hl,hd,_,(rel.put k eb rv).keeps fun c ys ec=>?_,q,es,ep,hq,h2,h3,h4,h5⟩;rw[Zd (ZfT ec e (fun z=>nomatch z))]
  exact ec
end
section
variable{X:Cx}{pins:List (Addr×Obj)}{σ : St}{H:Hp}{s:Shared}{a:Addr}{kvs:List (Key×V)}{k:Key}{u:Value}{A:Around}{E:Value->Shared->Prop}
theorem ZlE{Q:Value->Shared->Prop}(I:Inv X pins σ H s)(e:Rd H a (.dK kvs))(h:∀t s',Inv X pins σ H s'->Q (.int kvs.length t) s'):wpAny (model X.prog X.w) A (call (.builtin "len") [.ref a]) Q E s:=by
 obtain⟨z,hd,vs,rel,dd⟩:=Ze2 I.hok e;refine call_len_dict hd dd (by rw[<- rel.length];rw[sizeLine_eq] at z;lia) ?_;rw[<- rel.length];exact h _ _ (I.tok _)
end
def Zme(i:Expr):Prop := ∀ov iv,subscripted i false ov iv=operate [ov,iv] (getItem ov iv)
theorem Zkk{prog:Program}{w:World}{A:Around}{E:Value->Shared->Prop}{s:Shared}{env:Env}{value slice:Expr}{pos:Pos}{T id:String}{Q:Value->Shared->Prop}
  (hl:typeLookup (.type T) "__getitem__" = pure (some (.builtin id))) (hs:Zme slice)
  (h:wpAny (model prog w) A (eval value env) (fun o s₁=>wpAny (model prog w) A (eval slice env) (fun i s₂=>s₂.TypeIs o T/\wpAny (model prog w) A (getItem o i) Q E s₂) E s₁) E s) :
  wpAny (model prog w) A (eval (.Subscript value slice pos) env) Q E s:=by
 refine Subscript_ (wpAny_mono h (fun o s₁ h₁=>wpAny_mono h₁ (fun i s₂ h₂=>?_) fun _ _ x=>x) fun _ _ x=>x);obtain⟨hT,h₂⟩:=h₂;unfold subscriptTail;refine wpAny_bind ?_;rw[getitemInPython_of_ne hT.not_modules];refine wpAny_bind (wpAny_specialOf hT hl ?_);have fin:wpAny (model prog w) A (subscripted slice false o i) (fun r s₃=>wpAny (model prog w) A (letTemporaryGo value o r >>= fun _=>pure r) Q E s₃) E s₂ := by
  rw[hs o i];exact wpAny_operating (wpAny_mono h₂ (fun r s₃ h₃=>wpAny_bind (wpAny_letTemporaryGo (wpAny_pure h₃))) fun _ _ x=>x)
 first
  | exact wpAny_pure (wpAny_bind fin)
  | exact wpAny_bind (wpAny_pure (wpAny_bind fin))
  | exact wpAny_bind fin
theorem Zge{X:Cx}{pins:List (Addr×Obj)}{σ : St}{H:Hp}{s:Shared}{a:Addr}{y:V}{o:Option V}(I:Inv X pins σ H s)(g:ZcX H a y o):s.TypeIs (.ref a) "dict" := by
 rcases g with⟨kvs,k,e,_,_⟩|⟨kvs,k,b,e,_,_,_⟩
 ·obtain⟨_,_,vs,_,dd⟩:=Ze2 I.hok e;exact dd.typeIs
 ·obtain⟨_,_,xs,_,dd⟩:=ZfQ I.hok e;exact dd.typeIs
def ZlZ(td ty:TE):TE:=fun σ H Q=>td σ H fun x H1=>ty σ H1 fun y H2=>∃a v,x=.ref a/\ZcX H2 a y (some v)/\Q v H2
def Zmy(ty td:TE):TE:=fun σ H Q=>ty σ H fun y H1=>td σ H1 fun x H2=>∃a o,x=.ref a/\ZcX H2 a y o/\Q (.bl o.isSome) H2
def ZjZ(ty td:TE):TE:=fun σ H Q=>ty σ H fun y H1=>td σ H1 fun x H2=>∃a o,x=.ref a/\ZcX H2 a y o/\Q (.bl (!o.isSome)) H2
def ZlM(td ty tv:TE):TS:=fun D σ H=>tv σ H fun v H1=>td σ H1 fun x H2=>ty σ H2 fun y H3=>∃a H4,x=.ref a/\Zit H3 a y v H4/\D.nx σ H4
section
variable{X:Cx}{o i e value:Expr}{pos pos' tpos:Pos}{td ty tv:TE}
theorem Zkd(hu:X.A.units+1<cLine)(ho:PE X o td)(hi:PE X i ty)(hs:Zme i):PE X (.Subscript o i pos) (ZlZ td ty):=by
 intro pins s σ H Q I h;refine Zkk PySem.F.slot_dict_getitem.lookup hs (thn (ho pins s σ H _ I h) fun u s1 ⟨x,H1,I1,rx,q1⟩=>thn (hi pins s1 σ H1 _ I1 q1) fun iv s2 ⟨y,H2,I2,ry,a,v,ex,g,q2⟩=>?_);subst ex;obtain rfl:u=Value.ref a:=rx;exact⟨Zge I2 g,Zim hu I2 g ry fun w' s3 I3 rw'=>⟨v,H2,I3,rw',q2⟩⟩
theorem Zdi(hu:X.A.units+1<cLine)(hi:PE X i ty)(ho:PE X o td):PC X .In i o (Zmy ty td):=by
 intro pins s σ H Q I h;refine thn (hi pins s σ H _ I h) fun iv s1 ⟨y,H1,I1,ry,q1⟩=>thn (ho pins s1 σ H1 _ I1 q1) fun u s2 ⟨x,H2,I2,rx,a,ov,ex,g,q2⟩=>?_;subst ex;obtain rfl:u=Value.ref a:=rx;exact Zmr hu I2 g ry fun s3 I3=>⟨.bl ov.isSome,H2,I3,rfl,q2⟩
theorem ZhN(hu:X.A.units+1<cLine)(hi:PE X i ty)(ho:PE X o td):PC X .NotIn i o (ZjZ ty td):=by
 intro pins s σ H Q I h;refine thn (hi pins s σ H _ I h) fun iv s1 ⟨y,H1,I1,ry,q1⟩=>thn (ho pins s1 σ H1 _ I1 q1) fun u s2 ⟨x,H2,I2,rx,a,ov,ex,g,q2⟩=>?_;subst ex;obtain rfl:u=Value.ref a:=rx;exact Zkq hu I2 g ry fun s3 I3=>⟨.bl (!ov.isSome),H2,I3,rfl,q2⟩
theorem Zdk(hu:X.A.units+1<cLine)(ho:PE X o td)(hi:PE X i ty)(hv:PE X value tv)(hs:swapsWith value (some (.Subscript o i pos')) pos.line X.env=pure false) :
  PS X (.Assign [.Subscript o i pos'] value pos) (ZlM td ty tv):=by
 intro pins s σ H D I h;refine wpAny_Assign_Subscript (thn (hv pins s σ H _ I h) fun r s1 ⟨v,H1,I1,rv,q1⟩=>thn (ho pins s1 σ H1 _ I1 q1) fun u s2 ⟨x,H2,I2,rx,q2⟩=>thn (hi pins s2 σ H2 _ I2 q2) fun iv s3 ⟨y,H3,I3,ry,a,H4,ex,g,q3⟩=>?_) hs;subst ex;obtain rfl:u=Value.ref a:=rx;exact Zhn hu I3 g ry rv fun s4 I4=>⟨σ,H4,I4,q3⟩
end
theorem Zi1{P:Program}{w:World}{H:Hp}(h:Heap)(hb:sysModules<h.objs.size):Zaz P w H (h.push { cls:=.type "dict",data:=.dict #[] }) h.objs.size (.dK []) :=
 ⟨Nat.zero_le _,beq_eq_false_iff_ne.mpr (Ne.symm (Nat.ne_of_lt hb)),[],.nil,Heap.DictOf.new h⟩
theorem ZiM{P:Program}{w:World}{H:Hp}(h:Heap)(hb:sysModules<h.objs.size):Zaz P w H (h.push { cls:=.type "dict",data:=.dict #[] }) h.objs.size (.dT []) :=
 ⟨Nat.zero_le _,beq_eq_false_iff_ne.mpr (Ne.symm (Nat.ne_of_lt hb)),[],.nil,_,#[],0,Heap.get?_push_size _ rfl,⟨rfl,rfl,rfl⟩,rfl,rfl,List.nodup_nil⟩
def ZkN:TE:=fun _ H Q=>∀p,H p=none->Q (.ref p) (upd H p (.dK []))
def Zlb:TE:=fun _ H Q=>∀p,H p=none->Q (.ref p) (upd H p (.dT []))
section
variable{X:Cx}{pos:Pos}
theorem Zc8:PE X (.Dict [] [] pos) ZkN:=fun pins s σ H Q I h =>
 wpAny_Dict_empty ⟨.ref s.heap.objs.size,_,I.laid (a:=s.heap.objs.size) (o:=.dK []) (t':=s.toks) (fun _ _ q=>Heap.get?_push_of_some _ q) (Nat.le_refl _) (Zi1 s.heap I.big),rfl,h _ (I.hok.fresh (Nat.le_refl _))⟩
theorem ZeB:PE X (.Dict [] [] pos) Zlb:=fun pins s σ H Q I h =>
 wpAny_Dict_empty ⟨.ref s.heap.objs.size,_,I.laid (a:=s.heap.objs.size) (o:=.dT []) (t':=s.toks) (fun _ _ q=>Heap.get?_push_of_some _ q) (Nat.le_refl _) (ZiM s.heap I.big),rfl,h _ (I.hok.fresh (Nat.le_refl _))⟩
end
structure M2(X:Cx)(o:Expr)(m:Str)(apos:Pos)(e f:Expr)(cpos:Pos):Prop where
 base:attributeBase o m X.env (eval o X.env)=eval o X.env
 few:((backTo cpos (starEach [e,f] X.env)).all (fun x=>!x.1)&&(backToKw cpos (keywordEach [] X.env)).all (fun x=>x.1.isSome)
  && decide (([e,f]:List Expr).length+([]:List Keyword).length+(if([]:List Keyword).isEmpty then 0 else 1)<30))=true
 line:(apos.endLine == cpos.line)=true
 trees:backTo cpos (starEach [e,f] X.env)=[(false,eval e X.env),(false,eval f X.env)]
def IsD(H:Hp)(a:Addr):Prop:=(∃kvs,Rd H a (.dK kvs))\/∃kvs,Rd H a (.dT kvs)
theorem ZjM{X:Cx}{pins:List (Addr×Obj)}{σ : St}{H:Hp}{s:Shared}{a:Addr}(I:Inv X pins σ H s)(d:IsD H a) :
  s.TypeIs (.ref a) "dict" /\ (∀b,Value.ref a=.ref b->∃ob,s.heap.get? b=some ob/\ob.dict=none)/\(a == sysModules)=false:=by
 rcases d with⟨kvs,e⟩|⟨kvs,e⟩
 ·obtain⟨_,hd,vs,_,dd⟩:=Ze2 I.hok e;refine⟨dd.typeIs,fun b q=>?_,hd⟩;cases q;obtain⟨ob,_,_,h1,h2,_⟩:=dd;exact⟨ob,h1,h2.2.1⟩
 ·obtain⟨_,hd,xs,_,dd⟩:=ZfQ I.hok e;refine⟨dd.typeIs,fun b q=>?_,hd⟩;cases q;obtain⟨ob,_,_,h1,h2,_⟩:=dd;exact⟨ob,h1,h2.2.1⟩
section
variable{X:Cx}{pins:List (Addr×Obj)}{σ : St}{H:Hp}{s:Shared}{a:Addr}{y d:V}{u r:Value}{o:Option V}{A:Around}{E:Value->Shared->Prop}
theorem ZkW{Q:Value->Shared->Prop}(hu:A.units+1<cLine)(I:Inv X pins σ H s)(g:ZcX H a y o)(ry:RelV y u)(rd:RelV d r)(h:∀w' s',Inv X pins σ H s'->RelV (o.getD d) w'->Q w' s') :
  wpAny (model X.prog X.w) A (call (.builtin "dict.get") [.ref a,u,r]) Q E s:=by
 rcases g with⟨kvs,k,e,ey,l⟩|⟨kvs,k,b,e,ey,eb,l⟩
 ·subst ey;obtain⟨z,hd,vs,rel,dd⟩:=Ze2 I.hok e;refine call_meetsIn PySem.F.slot_dict_get dd.typeIs PySem.F.entry_dict_get (PySem.F.args_dict_get_3 _ _ _) (meets_dict_get_default (Zao X.prog X.w) a (ZeY ry) hd r) ⟨_,dd.mapOf,h _ _ (I.tok _) ?_⟩;rw[l];exact(rel.val k).getD rd
 ·subst ey;cases (show u=Value.ref b from ry);obtain⟨z,hd,xs,rel,dd⟩:=ZfQ I.hok e;refine call_meetsIn PySem.F.slot_dict_get dd.typeIs PySem.F.entry_dict_get (PySem.F.args_dict_get_3 _ _ _) (meetsH_dict_get_default (tupleKind (Zao X.prog X.w)) a b hd r) ⟨tupleKind_room_in1 hu,k,xs,Zdo I.hok eb,dd,h _ _ (I.tok _) ?_⟩;rw[l];exact(rel.val k).getD rd
end
def Zlk(td ty tx:TE):TE:=fun σ H Q=>td σ H fun x H1=>∃a,x=.ref a/\IsD H1 a/\ty σ H1 fun y H2=>tx σ H2 fun z H3=>∃o,ZcX H3 a y o/\Q (o.getD z) H3
section
variable{X:Cx}{o e f:Expr}{apos cpos:Pos}{td ty tx:TE}
theorem Zex(hu:X.A.units+1<cLine)(ho:PE X o td)(he:PE X e ty)(hf:PE X f tx)(m:M2 X o "get" apos e f cpos):PE X (.Call (.Attribute o "get" apos) [e,f] [] cpos) (Zlk td ty tx):=by
 intro pins s σ H Q I h;refine wpAny_Call_method m.base m.few m.line PySem.F.plainAttrs_dict PySem.F.slot_dict_get PySem.F.type_dict_get (thn (ho pins s σ H _ I h) fun u s1 ⟨x,H1,I1,rx,a,ex,d,q1⟩=>?_);subst ex;obtain rfl:u=Value.ref a:=rx;obtain⟨t1,t2,_⟩:=ZjM I1 d;refine⟨t1,t2,?_⟩;rw[m.trees];refine Calls.callWith_builtin rfl (Calls.evalArgs_plain (Calls.spliced_cons (thn (he pins s1 σ H1 _ I1 q1) fun iv s2 ⟨y,H2,I2,ry,q2⟩ =>
  Calls.spliced_cons (thn (hf pins s2 σ H2 _ I2 q2) fun fv s3 ⟨z,H3,I3,rz,ov,g,q3⟩=>Calls.spliced_nil ?_))))
 exact ZkW hu I3 g ry rz fun w' s4 I4 rw'=>⟨_,H3,I4,rw',q3⟩
end
section
variable{κ : Type}[DecidableEq κ]
theorem Zgk{kvs:List (κ × V)}{k : κ}(h:Zbe kvs k=none) : ¬ k∈kvs.map (·.1):=by
 intro m;obtain⟨p,hp,e⟩:=List.mem_map.mp m;have q:(kvs.any fun kv=>decide (kv.1=k))=true:=List.any_eq_true.mpr ⟨p,hp,decide_eq_true e⟩;rw[ZaS,h] at q;exact absurd q (by simp)
theorem ZhP{kvs:List (κ × V)}{k : κ}{v:V}(h:Zbe kvs k=some v):k∈kvs.map (·.1):=by
 have q:(kvs.any fun kv=>decide (kv.1=k))=true:=by
  rw[ZaS,h]
  all_goals rfl
 obtain⟨p,hp,e⟩:=List.any_eq_true.mp q;exact List.mem_map.mpr ⟨p,hp,of_decide_eq_true e⟩
end
structure HasM(P:Program)(w:World)(K:PySem.W.Frag)(mg:Str->Option Value)(base:Heap)(C:Addr)(m:Str)(ps:List Str)(j:Nat)(sp:Sp):Prop where
 ex:∃f fd,FnOk P w K mg base CX0 j f fd ps sp/\Binds K fd ps []/\Meth K C m f
structure HasC(P:Program)(w:World)(K:PySem.W.Frag)(mg:Str->Option Value)(base:Heap)(C:Addr)(x:Str)(ps:List Str)(j:Nat)(sp:Sp):Prop where
 ex:∃f fd,FnOk P w K mg base CX0 j f fd ps sp/\Binds K fd ps []/\Mk K C f/\mg x=some (.ref C)
section
variable{X:Cx}{C:Addr}{m x:Str}{ps:List Str}{j k:Nat}{sp:Sp}{o e:Expr}{es:List Expr}{ta:TE}{t:TA}{p pos apos:Pos}
theorem Zbm{pl:Sem Bool}(G:HasM X.prog X.w X.K X.mg X.base C m ps j sp)(hr:Room k X.A)(he:PE X o ta)(c:Cls X.K C)(ha:PA X (e::es) t)(hk:j<=k:=by decide)
  (hst:starEach (e::es) X.env=(false,eval e X.env)::starEach es X.env:=by rfl) (hpl:(backTo pos (starEach es X.env)).any (·.1)=false:=by rfl)
  (ht:eval (.Call (.Attribute o m apos) (e::es) [] pos) X.env=(do
   let ov <- eval o X.env
   standAt apos.atName
   let (f,first) <- holding [ov] (getMethod ov m pl)
   callWith pos f first (backTo pos (starEach (e::es) X.env)) (backToKw pos (keywordEach [] X.env))):=by rfl):PE X (.Call (.Attribute o m apos) (e::es) [] pos) (Zi8 C m sp [] E0 ta t):=by
 obtain⟨f,fd,F,b,hm⟩:=G.ex;exact Zkv (pl:=pl) he c hm (F.room hk) hr b .nil Zjb ha hst hpl ht
theorem Za7{pl:Sem Bool}(G:HasM X.prog X.w X.K X.mg X.base C m ps j sp)(hr:Room k X.A)(he:PE X o ta)(c:Cls X.K C)(hk:j<=k:=by decide)
  (ht:eval (.Call (.Attribute o m apos) [] [] pos) X.env=(do
   let ov <- eval o X.env
   standAt apos.atName
   let (f,first) <- holding [ov] (getMethod ov m pl)
   callWith pos f first (backTo pos (starEach [] X.env)) (backToKw pos (keywordEach [] X.env))):=by rfl):PE X (.Call (.Attribute o m apos) [] [] pos) (Zi8 C m sp [] E0 ta ZlW):=by
 obtain⟨f,fd,F,b,hm⟩:=G.ex;exact Zi7 (pl:=pl) he c hm (F.room hk) hr b .nil Zjb ht
end
end L2
namespace Fg
open PySem L2 FgM
theorem Zix{K:PySem.W.Frag}{H:Hp}{a b:Addr}{xs ys:List Str}{n:Nat}{neg:Bool}{Q:VK}(hA:SqL K H a (xs.map V.str))(hB:SqL K H b (ys.map V.str))(o1:OkW xs)(o2:OkW ys)(hn:1<=n)
  (q:Q (.bl (if neg then !decide (xs=ys) else decide (xs=ys))) H):ZlQ K n neg (.ref a) (.ref b) H Q:=by
 refine⟨.list (xs.map PyData.str),.list (ys.map PyData.str),.lst hA (Zf5 xs),.lst hB (Zf5 ys),ZeJ o1,ZeJ o2,?_,?_⟩
 ·show min (PyData.depthAll (xs.map PyData.str)+1) (PyData.depthAll (ys.map PyData.str)+1)<=n;rw[ZcE,ZcE];exact hn
 ·have e:PyData.eqv (.list (xs.map PyData.str)) (.list (ys.map PyData.str))=decide (xs=ys):=ZgK xs ys;rw[e];exact q
end Fg
namespace FgM
end FgM
namespace L2
open PySem PySem.Spec PyProof.Rows
theorem FnOk.none{P:Program}{w:World}{K:PySem.W.Frag}{mg:Str->Option Value}{base:Heap}{CX:CXT}{k:Nat}{f:Addr}{fd:FuncData}{ps:List Str}{sp:Sp}(h:∀vs H Q E,¬ sp vs H Q E):FnOk P w K mg base CX k f fd ps sp :=
 ⟨fun vs H Q E z=>absurd z (h vs H Q E),fun A outer s H args us vs Q E hr e0 hb r z=>absurd z (h vs H Q E)⟩
theorem lookup_mem{β : Type}{x:Str}{c : β}:∀{l:List (Str × β)},l.lookup x=some c->(x,c)∈l
 | [],h=>by cases h
 | (y,d)::l,h=>by
  rw[List.lookup_cons] at h;cases e:x == y with
  | true =>
   rw[e] at h;cases h;rw[beq_iff_eq.mp e];exact List.mem_cons_self ..
  | false =>
   rw[e] at h;exact List.mem_cons_of_mem _ (lookup_mem h)
theorem Zeb{env:Env}{cl:List (Str×Addr)}(h:∀p∈cl,env.cells.lookup p.1=some p.2):∀x c,cl.lookup x=some c->env.cells.lookup x=some c:=fun x c e=>h (x,c) (lookup_mem e)
theorem Zcv{scope:Scope}{env:Env}{cl:List (Str×Addr)}(h:∀y∈scope.names,(y.2=.cell\/y.2=.free)->∃c,cl.lookup y.1=some c):∀(C:Addr)(x:Str),((compEnvC scope cl C env).kindOf x=some .cell\/(compEnvC scope cl C env).kindOf x=some .free)->∃c,cl.lookup x=some c:=by
 have key:∀(k:NameKind)(x:Str),(k=.cell\/k=.free)->(scope.names.map fun(n,k)=>if(k ==.free&&env.scope.kind ==.function&&env.kindOf n == some .cell) then(n,.cell) else(n,k)).lookup x=some k->∃c,cl.lookup x=some c:=by
  intro k x hk e;obtain⟨⟨n,k0⟩,hy,he⟩:=List.mem_map.mp (lookup_mem e);by_cases hc:(k0 ==.free&&env.scope.kind ==.function&&env.kindOf n == some .cell)=true
  ·simp only[hc,if_true] at he;have h0:k0=.free:=by
    simp only[Bool.and_eq_true] at hc;have:=hc.1.1;cases k0 <;> first|rfl|exact absurd this (by decide)
   injection he with e1 e2;subst e1;exact h _ hy (.inr h0)
  ·simp only[hc] at he;injection he with e1 e2;subst e1 e2;exact h _ hy hk
 intro C x hx;rcases hx with e|e
 ·exact key _ x (.inl rfl) e
 ·exact key _ x (.inr rfl) e
theorem Zf2{X:Cx}{K:PySem.W.Frag}(h:X.K=K):IxR X (Zmc K):=by
 subst h;exact ZaX
def Zab:Stmt->List Stmt
 | .For _ _ b _ _=>b
 | .While _ b _ _=>b
 | .If _ b _ _=>b
 | _=>[]
def Zef:Stmt->List Stmt
 | .If _ _ b _=>b
 | _=>[]
theorem Zq{X:Cx}{b:List Stmt}{D:Ends}{σ : St}{H:Hp}(s:List Stmt){t:TS}(h:PSs X s t)(k:∀u,PSs X s u->u=t->∃t,PSs X b t/\t D σ H):∃t,PSs X b t/\t D σ H:=k t h rfl
theorem Zo{u t:TS}(e:u=t){D:Ends}{σ : St}{H:Hp}(h:t D σ H):u D σ H:=e ▸ h
theorem Zf6{α : Type}:∀{us:List α},us.length=1->∃a,us=[a]
 | [a],_=>⟨a,rfl⟩
theorem Zly{α : Type}{n:Nat}:∀{us:List α},us.length=n+1->∃a vs,us=a::vs/\vs.length=n
 | a::vs,h=>⟨a,vs,rfl,Nat.succ.inj h⟩
theorem Zhl{α : Type}{us:List α}(h:us.length=2):∃a b,us=[a,b]:=by
 obtain⟨a,vs,rfl,h2⟩:=Zly h;obtain⟨b,rfl⟩:=Zf6 h2;exact⟨a,b,rfl⟩
theorem ZkG{α : Type}{us:List α}(h:us.length=3):∃a b c,us=[a,b,c]:=by
 obtain⟨a,vs,rfl,h2⟩:=Zly h;obtain⟨b,c,rfl⟩:=Zhl h2;exact⟨a,b,c,rfl⟩
theorem ZlI{α : Type}{us:List α}(h:us.length=4):∃a b c d,us=[a,b,c,d]:=by
 obtain⟨a,vs,rfl,h2⟩:=Zly h;obtain⟨b,c,d,rfl⟩:=ZkG h2;exact⟨a,b,c,d,rfl⟩
theorem Zmi{α : Type}{us:List α}(h:us.length=5):∃a b c d e,us=[a,b,c,d,e]:=by
 obtain⟨a,vs,rfl,h2⟩:=Zly h;obtain⟨b,c,d,e,rfl⟩:=ZlI h2;exact⟨a,b,c,d,e,rfl⟩
theorem Vals.inv{v:V}{vs:List V}{us:List Value}(h:Vals (v::vs) us):∃u us',us=u::us'/\RelV v u/\Vals vs us':=by
 cases h with
 | cons r t=>exact⟨_,_,rfl,r,t⟩
theorem Vals.end_{us:List Value}(h:Vals [] us):us=[]:=by
 cases h;rfl
end L2
namespace L2
open PySem PySem.Spec PyProof.Rows PySem.W
variable{X:Cx}
end L2
namespace Srt
open PySem PyProof.Rows
def Zfy:Bool->Keyed->Array Keyed->Nat->Nat->Nat->StateT SortSt Sem (Option Nat):=sortPriv% PySem.Builtin.gallop
def ZiV:Array Keyed->Array Keyed->StateT SortSt Sem (Array Keyed):=sortPriv% PySem.Builtin.mergeLo
def Zi5:Array Keyed->Array Keyed->StateT SortSt Sem (Array Keyed):=sortPriv% PySem.Builtin.mergeHi
structure Like(st st':SortSt):Prop where
 arr:arrOf st'=arrOf st
 kind:kindOf st'=kindOf st
 fail:failedOf st'=failedOf st
 pend:pendingOf st'=pendingOf st
theorem Like.refl(st:SortSt):Like st st:=⟨rfl,rfl,rfl,rfl⟩
theorem Like.trans{a b c:SortSt}(x:Like a b)(y:Like b c):Like a c:=⟨y.arr.trans x.arr,y.kind.trans x.kind,y.fail.trans x.fail,y.pend.trans x.pend⟩
section
variable{prog:Program}{w:World}{A:Around}{E:Value->Shared->Prop}{s:Shared}{κ : SortKind}{Ok:Keyed->Prop}{st:SortSt}
theorem ZJ{arr:Array Keyed}{i:Nat}{Q:Keyed->SortSt->Prop}(hi:i<arr.size)(h:∀p,p∈arr.toList->arr[i]?= some p->Q p st):wpS (model prog w) A E s (elem' arr i) Q st:=by
 have e:arr[i]?= some arr[i]:=getElem?_pos arr i hi;rw[elem'_eq,e];exact wpS_pure (h _ (by simp) e)
end
def Out(a b:Array Keyed)(out:Array Keyed)(ia ib:Nat):Prop:=out.toList.Perm (a.toList.take ia++b.toList.take ib)
section
variable{a b out:Array Keyed}{ia ib:Nat}
theorem Zlg{α : Type}(x y z w:List α):(x++y++(z++w)).Perm (x++z++(y++w)):=by
 rw[List.append_assoc,List.append_assoc];refine List.Perm.append_left x ?_;rw[<- List.append_assoc,<- List.append_assoc];exact List.Perm.append_right w List.perm_append_comm
theorem Out.done(h:Out a b out ia ib):(out++a.extract ia a.size++b.extract ib b.size).toList.Perm (a.toList++b.toList):=by
 rw[Array.toList_append,Array.toList_append,Array.toList_extract,Array.toList_extract];have e1:a.toList.extract ia a.size=a.toList.drop ia:=by rw[List.extract_eq_drop_take];apply List.take_of_length_le;rw[List.length_drop,Array.length_toList];exact Nat.le_refl _
 have e2:b.toList.extract ib b.size=b.toList.drop ib:=by rw[List.extract_eq_drop_take];apply List.take_of_length_le;rw[List.length_drop,Array.length_toList];exact Nat.le_refl _
 rw[e1,e2,List.append_assoc];refine(List.Perm.append_right _ h).trans ((Zlg ..).trans ?_);rw[List.take_append_drop,List.take_append_drop]
theorem Out.last(h:Out a b out ia ib):(out++b.extract ib b.size++a.extract ia a.size).toList.Perm (a.toList++b.toList):=by
 refine List.Perm.trans ?_ h.done;rw[Array.toList_append,Array.toList_append,Array.toList_append,Array.toList_append,List.append_assoc,List.append_assoc];exact List.Perm.append_left _ List.perm_append_comm
theorem Out.extA{k:Nat}(h:Out a b out ia ib)(hk:ia+k<=a.size):Out a b (out++a.extract ia (ia+k)) (ia+k) ib:=by
 unfold Out;rw[Array.toList_append,Array.toList_extract,List.extract_eq_drop_take];have e:a.toList.take (ia+k)=a.toList.take ia++(a.toList.drop ia).take k:=List.take_add ..;rw[e,show ia+k-ia=k by lia];refine(List.Perm.append_right _ h).trans ?_;rw[List.append_assoc,List.append_assoc];exact List.Perm.append_left _ List.perm_append_comm
theorem Out.extB{k:Nat}(h:Out a b out ia ib)(hk:ib+k<=b.size):Out a b (out++b.extract ib (ib+k)) ia (ib+k):=by
 unfold Out;rw[Array.toList_append,Array.toList_extract,List.extract_eq_drop_take];have e:b.toList.take (ib+k)=b.toList.take ib++(b.toList.drop ib).take k:=List.take_add ..;rw[e,show ib+k-ib=k by lia];refine(List.Perm.append_right _ h).trans ?_;rw[List.append_assoc]
theorem Zey{α : Type}{xs:List α}{i:Nat}{p : α}(h:xs[i]?= some p):xs.take (i+1)=xs.take i ++ [p]:=by
 obtain⟨hi,e⟩:=List.getElem?_eq_some_iff.mp h;rw[List.take_succ_eq_append_getElem hi,e]
theorem Out.pushA{p:Keyed}(h:Out a b out ia ib)(hp:a[ia]?= some p):Out a b (out.push p) (ia+1) ib:=by
 have hp':a.toList[ia]?= some p:=by rw[<- hp];simp
 unfold Out;rw[Array.toList_push,Zey hp'];refine(List.Perm.append_right _ h).trans ?_;rw[List.append_assoc,List.append_assoc];exact List.Perm.append_left _ List.perm_append_comm
theorem Out.pushB{p:Keyed}(h:Out a b out ia ib)(hp:b[ib]?= some p):Out a b (out.push p) ia (ib+1):=by
 have hp':b.toList[ib]?= some p:=by rw[<- hp];simp
 unfold Out;rw[Array.toList_push,Zey hp'];refine(List.Perm.append_right _ h).trans ?_;rw[List.append_assoc]
theorem Zmu{p:Keyed}(hp:b[0]?= some p):Out a b #[p] 0 1:=by
 have h0:Out a b #[] 0 0:=by
  unfold Out;rw[List.take_zero,List.take_zero];exact List.Perm.refl _
 exact h0.pushB hp
end
section
variable{prog:Program}{w:World}{A:Around}{E:Value->Shared->Prop}{s:Shared}{κ : SortKind}{Ok:Keyed->Prop}{st:SortSt}
theorem Za1(st:SortSt)(g:Nat):Like st (SortSt.mk' (kindOf st) (arrOf st) (pendingOf st) g (failedOf st)):=⟨rfl,rfl,rfl,rfl⟩
end
def Zc6(a b:Array Keyed)(out:Array Keyed)(na nb:Nat):Prop:=out.toList.Perm (a.toList.drop na++b.toList.drop nb)
section
variable{a b out:Array Keyed}{na nb:Nat}
theorem ex0(a:Array Keyed)(n:Nat):(a.extract 0 n).toList=a.toList.take n:=by
 rw[Array.toList_extract,List.extract_eq_drop_take,List.drop_zero,Nat.sub_zero]
theorem Zc6.done(h:Zc6 a b out na nb):(a.extract 0 na++b.extract 0 nb++out.reverse).toList.Perm (a.toList++b.toList):=by
 rw[Array.toList_append,Array.toList_append,ex0,ex0,Array.toList_reverse];refine(List.Perm.append_left _ ((List.reverse_perm _).trans h)).trans ((Zlg ..).trans ?_);rw[List.take_append_drop,List.take_append_drop]
theorem Zc6.first(h:Zc6 a b out na nb):(b.extract 0 nb++a.extract 0 na++out.reverse).toList.Perm (a.toList++b.toList):=by
 refine List.Perm.trans ?_ h.done;rw[Array.toList_append,Array.toList_append,Array.toList_append,Array.toList_append];exact List.Perm.append_right _ List.perm_append_comm
theorem Zgs{α : Type}{xs:List α}{i:Nat}{p : α}(h:xs[i]?= some p):xs.drop i=p::xs.drop (i+1):=by
 obtain⟨hi,e⟩:=List.getElem?_eq_some_iff.mp h;rw[<- e];exact List.drop_eq_getElem_cons hi
theorem Zc6.pushA{p:Keyed}(h:Zc6 a b out na nb)(h1:1<=na)(hp:a[na-1]?= some p):Zc6 a b (out.push p) (na-1) nb:=by
 have hp':a.toList[na-1]?= some p:=by rw[<- hp];simp
 unfold Zc6;rw[Array.toList_push,Zgs hp',Nat.sub_add_cancel h1];refine(List.Perm.append_right _ h).trans ?_;exact List.perm_append_comm
theorem Zc6.pushB{p:Keyed}(h:Zc6 a b out na nb)(h1:1<=nb)(hp:b[nb-1]?= some p):Zc6 a b (out.push p) na (nb-1):=by
 have hp':b.toList[nb-1]?= some p:=by rw[<- hp];simp
 unfold Zc6;rw[Array.toList_push,Zgs hp',Nat.sub_add_cancel h1];refine(List.Perm.append_right _ h).trans ?_;rw[List.append_assoc];refine List.Perm.append_left _ ?_;exact List.perm_append_comm
theorem Zgn{α : Type}(xs:List α){i j:Nat}(h:i<=j):xs.drop i=(xs.drop i).take (j-i)++xs.drop j:=by
 have:=List.take_append_drop (j-i) (xs.drop i);rw[List.drop_drop,Nat.add_sub_cancel' h] at this;exact this.symm
theorem Zc6.extA{k:Nat}(h:Zc6 a b out na nb)(hk:k<=na):Zc6 a b (out++(a.extract k na).reverse) k nb:=by
 unfold Zc6;rw[Array.toList_append,Array.toList_reverse,Array.toList_extract,List.extract_eq_drop_take];refine(List.Perm.append h (List.reverse_perm _)).trans ?_;refine List.perm_append_comm.trans ?_;rw[<- List.append_assoc,<- Zgn a.toList hk]
theorem Zc6.extB{k:Nat}(h:Zc6 a b out na nb)(hk:k<=nb):Zc6 a b (out++(b.extract k nb).reverse) na k:=by
 unfold Zc6;rw[Array.toList_append,Array.toList_reverse,Array.toList_extract,List.extract_eq_drop_take];refine(List.Perm.append h (List.reverse_perm _)).trans ?_;rw[List.append_assoc];refine List.Perm.append_left _ (List.perm_append_comm.trans ?_);rw[<- Zgn b.toList hk]
theorem ZlL{p:Keyed}(h1:1<=a.size)(hp:a[a.size-1]?= some p):Zc6 a b #[p] (a.size-1) b.size:=by
 have h0:Zc6 a b #[] a.size b.size:=by
  unfold Zc6;rw[List.drop_eq_nil_of_le (by rw[Array.length_toList];exact Nat.le_refl _),List.drop_eq_nil_of_le (by rw[Array.length_toList];exact Nat.le_refl _)];exact List.Perm.refl _
 exact h0.pushA h1 hp
end
structure Pm(st st':SortSt):Prop where
 arr:(arrOf st').toList.Perm (arrOf st).toList
 kind:kindOf st'=kindOf st
 fail:failedOf st'=failedOf st
 pend:pendingOf st'=pendingOf st
theorem Pm.refl(st:SortSt):Pm st st:=⟨List.Perm.refl _,rfl,rfl,rfl⟩
theorem Pm.trans{a b c:SortSt}(x:Pm a b)(y:Pm b c):Pm a c:=⟨y.arr.trans x.arr,y.kind.trans x.kind,y.fail.trans x.fail,y.pend.trans x.pend⟩
theorem Pm.size{a b:SortSt}(x:Pm a b):(arrOf b).size=(arrOf a).size:=by
 have:=x.arr.length_eq;rw[Array.length_toList,Array.length_toList] at this;exact this
theorem Pm.ok{a b:SortSt}{Ok:Keyed->Prop}(x:Pm a b)(h:∀p∈(arrOf a).toList,Ok p):∀p∈(arrOf b).toList,Ok p:=fun p hp=>h p (x.arr.mem_iff.mp hp)
theorem Pm.mirror(st:SortSt)(i j:Nat):Pm st (setArr st (mirror (arrOf st) i j ((j-i) / 2))):=⟨Array.perm_iff_toList_perm.mp (mirror_perm _ _ _ _),rfl,rfl,rfl⟩
theorem Pm.bubble(st:SortSt)(i j:Nat):Pm st (setArr st (bubble (arrOf st) i (i-j))):=⟨Array.perm_iff_toList_perm.mp (bubble_perm _ _ _),rfl,rfl,rfl⟩
def Cov:List (Nat×Nat×Nat)->Nat->Nat->Prop
 | [],lo,hi=>lo=hi
 | x::r,lo,hi=>x.1=lo/\1<=x.2.1/\Cov r (lo+x.2.1) hi
theorem Cov.le:∀{l:List (Nat×Nat×Nat)}{lo hi:Nat},Cov l lo hi->lo+l.length<=hi
 | [],lo,hi,h=>Nat.le_of_eq h
 | x::r,lo,hi,⟨_,h1,h2⟩=>by
  have:=Cov.le h2;rw[List.length_cons];lia
theorem Cov.push:∀{l:List (Nat×Nat×Nat)}{lo hi n p:Nat},Cov l lo hi->1<=n->Cov (l ++ [(hi,n,p)]) lo (hi+n)
 | [],lo,hi,n,p,h,h1=>by
  have e:lo=hi:=h;subst e;exact⟨rfl,h1,rfl⟩
 | x::r,lo,hi,n,p,⟨a,b,c⟩,h1=>⟨a,b,c.push h1⟩
theorem Cov.at:∀{l:List (Nat×Nat×Nat)}{i lo hi sa na p sb nb q:Nat},Cov l lo hi->l[i]?= some (sa,na,p)->l[i+1]?= some (sb,nb,q) ->
  sb=sa+na/\1<=na/\1<=nb/\sb+nb<=hi/\Cov ((l.set i (sa,na+nb,p)).eraseIdx (i+1)) lo hi
 | x::y::r,0,lo,hi,sa,na,p,sb,nb,q,⟨a,b,c1,c2,c3⟩,h1,h2=>by
  have e1:x=(sa,na,p):=by simpa using h1
  have e2:y=(sb,nb,q):=by simpa using h2
  subst e1;subst e2;have a':sa=lo:=a;have c1':sb=lo+na:=c1;have hle:=c3.le;subst a';refine⟨c1',b,c2,?_,rfl,?_,?_⟩
  ·have:sa+na+nb<=hi:=by
    have h3:sa+na+nb+r.length<=hi:=hle;lia
   lia
  ·show 1<=na+nb;have:1<=na:=b;lia
  ·show Cov r (sa+(na+nb)) hi;rw[<- Nat.add_assoc];exact c3
 | x::r,i+1,lo,hi,sa,na,p,sb,nb,q,⟨a,b,c⟩,h1,h2=>by
  obtain⟨k1,k2,k3,k4,k5⟩:=Cov.at (l:=r) (i:=i) c (by simpa using h1) (by simpa using h2);exact⟨k1,k2,k3,k4,a,b,k5⟩
 | [x],0,_,_,_,_,_,_,_,_,_,_,h2=>by simp at h2
 | [],_,_,_,_,_,_,_,_,_,_,h1,_=>by simp at h1
theorem Cov.last:∀{l:List (Nat×Nat×Nat)}{lo hi:Nat}(f:Nat×Nat×Nat->Nat×Nat×Nat)(_:∀x,(f x).1=x.1/\(f x).2.1=x.2.1)(i:Nat),Cov l lo hi->Cov (l.modify i f) lo hi
 | [],lo,hi,f,hf,i,h=>by cases i <;> exact h
 | x::r,lo,hi,f,hf,0,⟨a,b,c⟩=>by
  refine⟨(hf x).1.trans a,by rw[(hf x).2];exact b,?_⟩;rw[(hf x).2];exact c
 | x::r,lo,hi,f,hf,i+1,⟨a,b,c⟩=>⟨a,b,Cov.last f hf i c⟩
theorem splice(base:Nat):∀(m:List Keyed)(n:Nat)(arr:Array Keyed),base+n+m.length<=arr.size ->
  ((m.zipIdx n).foldl (fun(a:Array Keyed)(x:Keyed×Nat)=>match x with|(p,j)=>a.setIfInBounds (base+j) p) arr).toList=arr.toList.take (base+n)++m++arr.toList.drop (base+n+m.length)
 | [],n,arr,_=>by
  show arr.toList=_;rw[List.append_nil,List.length_nil,Nat.add_zero,List.take_append_drop]
 | p::m,n,arr,h=>by
  rw[List.length_cons] at h;rw[List.zipIdx_cons,List.foldl_cons];have hs:(arr.setIfInBounds (base+n) p).size=arr.size:=Array.size_setIfInBounds;rw[splice base m (n+1) _ (by rw[hs];lia),Array.toList_setIfInBounds];have hl:base+n<arr.toList.length:=by rw[Array.length_toList];lia
  rw[<- Nat.add_assoc,List.take_set,List.drop_set_of_lt (by lia)];have e1:(arr.toList.take (base+n+1)).set (base+n) p=arr.toList.take (base+n) ++ [p]:=by
   rw[List.take_succ_eq_append_getElem hl,List.set_append_right _ _ (by rw[List.length_take];lia)];rw[show base+n-(arr.toList.take (base+n)).length=0 by rw[List.length_take];lia];rfl
  rw[e1,List.length_cons,show base+n+1+m.length=base+n+(m.length+1) by lia];simp
section
variable{prog:Program}{w:World}{A:Around}{E:Value->Shared->Prop}{s:Shared}{κ : SortKind}{Ok:Keyed->Prop}{st:SortSt}
structure SB(a₀ : Array Keyed)(κ : SortKind)(hi:Nat)(st:SortSt):Prop where
 arr:(arrOf st).toList.Perm a₀.toList
 kind:kindOf st= κ
 fail:failedOf st=none
 cov:Cov (pendingOf st).toList 0 hi
theorem SB.size{a₀ : Array Keyed}{hi:Nat}(x:SB a₀ κ hi st):(arrOf st).size=a₀.size:=by
 have:=x.arr.length_eq;rw[Array.length_toList,Array.length_toList] at this;exact this
theorem SB.ok{a₀ : Array Keyed}{hi:Nat}(x:SB a₀ κ hi st)(h:∀p∈a₀.toList,Ok p):∀p∈(arrOf st).toList,Ok p:=fun p hp=>h p (x.arr.mem_iff.mp hp)
theorem SB.pm{a₀ : Array Keyed}{hi:Nat}{st':SortSt}(x:SB a₀ κ hi st)(p:Pm st st'):SB a₀ κ hi st':=⟨p.arr.trans x.arr,p.kind.trans x.kind,p.fail.trans x.fail,by rw[p.pend];exact x.cov⟩
theorem Zkg{v:SortSt}{Q:PUnit->SortSt->Prop}(h:Q ⟨⟩ v):wpS (model prog w) A E s (set v:StateT SortSt Sem PUnit) Q st:=by
 unfold wpS;rw[StateT.run_set];exact wpAny_pure ⟨rfl,h⟩
theorem ZiD(base:Nat)(m:List Keyed)(arr:Array Keyed)(h:base+m.length<=arr.size) :
  (m.zipIdx.foldl (fun(a:Array Keyed)(x:Keyed×Nat)=>a.setIfInBounds (base+x.2) x.1) arr).toList=arr.toList.take base++m++arr.toList.drop (base+m.length):=splice base m 0 arr h
theorem ZjV(L:List Keyed){m b e:Nat}(h1:m<=b)(h2:b<=e):L.extract m b++L.extract b e=(L.drop m).take (e-m):=by
 rw[List.extract_eq_drop_take,List.extract_eq_drop_take,show e-m=(b-m)+(e-b) by lia,List.take_add,List.drop_drop,Nat.add_sub_cancel' h1]
theorem ZgP{L r:List Keyed}{m c:Nat}(h:r.Perm ((L.drop m).take c))(hc:r.length=c):(L.take m++r++L.drop (m+r.length)).Perm L:=by
 subst hc;have e:L=L.take m++(L.drop m).take r.length++L.drop (m+r.length):=by
  rw[List.append_assoc,<- List.drop_drop,List.take_append_drop,List.take_append_drop]
 refine List.Perm.trans ?_ (List.Perm.of_eq e.symm);exact List.Perm.append_right _ (List.Perm.append_left _ h)
end
section
variable{prog:Program}{w:World}{A:Around}{E:Value->Shared->Prop}{s:Shared}
theorem Ze3{vs:List Value}{xs:Array Keyed}(h:xs.toList.Perm (pairsOf vs).toList):(xs.map (·.2)).toList.Perm vs:=by
 rw[Array.toList_map];refine(h.map (·.2)).trans (List.Perm.of_eq ?_);rw[pairsOf_toList,show(fun p:Keyed=>p.2)=Prod.snd from rfl,List.map_snd_zip (Nat.le_refl _)]
end
end Srt
namespace L2
open PySem PySem.Spec PyProof.Rows
theorem Ziz{us us':List Value}(h:us'.Perm us):∀{vs:List V},Vals vs us->∃vs',vs'.Perm vs/\Vals vs' us':=by
 induction h with
 | nil=>exact fun r=>⟨_,List.Perm.refl _,r⟩
 | cons x _ ih =>
  intro vs r;cases r with
  | cons a t =>
   obtain⟨ws,p,r'⟩:=ih t;exact⟨_::ws,p.cons _,.cons a r'⟩
 | swap x y l =>
  intro vs r;cases r with
  | cons a t =>
   cases t with
   | cons b t=>exact⟨_,List.Perm.swap ..,.cons b (.cons a t)⟩
 | trans _ _ ih1 ih2 =>
  intro vs r;obtain⟨ws,p,r1⟩:=ih2 r;obtain⟨ws',p',r2⟩:=ih1 r1;exact⟨ws',p'.trans p,r2⟩
theorem Zbd:∀{vs:List V}{us:List Value},Vals vs us->∀u∈us,∃v∈vs,RelV v u
 | _,_,.cons a t,u,hu=>by
  rcases List.mem_cons.mp hu with rfl|hu
  ·exact⟨_,List.mem_cons_self ..,a⟩
  ·obtain⟨v,hv,r⟩:=Zbd t u hu;exact⟨v,List.mem_cons_of_mem _ hv,r⟩
end L2
namespace L2
open PySem PySem.Spec PyProof.Rows PySem.W
def ZgB(h:Heap)(d:Addr)(es:Array DictEntry)(ep:Nat):Prop := ∃o,h.get? d=some o/\o.ExactDict/\o.data=.dict es ep
theorem ZgB.tyIs{s:Shared}{d:Addr}{es:Array DictEntry}{ep:Nat}(x:ZgB s.heap d es ep):s.TypeIs (.ref d) "dict" := let ⟨o,ho,hc,_⟩:=x;⟨o,ho,hc.1⟩
theorem ZgB.to{h h':Heap}{d:Addr}{es:Array DictEntry}{ep:Nat}(x:ZgB h d es ep)(e:∀o,h.get? d=some o->h'.get? d=some o):ZgB h' d es ep:=let ⟨o,ho,r⟩:=x;⟨o,e _ ho,r⟩
section
variable{prog:Program}{w:World}{A:Around}{E:Value->Shared->Prop}{s:Shared}{it d:Addr}{es:Array DictEntry}{i ep:Nat}
theorem Zje{Q:Value->Shared->Prop}(lo:(d == sysModules)=false)(x:ZgB s.heap d es ep)
  (q:Q (.ref s.heap.objs.size) { s with heap:=s.heap.push { cls:=.type "dict_keyiterator",data:=.fields #[.ref d,.int 0 0,.int es.size 0,.int ep 0] } }):wpAny (model prog w) A (pyIter (.ref d)) Q E s:=by
 obtain⟨o,ho,hx,hdat⟩:=id x;have hT:=x.tyIs;refine wpAny_pyIter_slot hT PySem.F.slot_dict_iter (wpAny_call_entry PySem.F.slot_dict_iter hT PySem.F.entry_dict_iter ?_ (PySem.F.args_dict_iter_1 _));unfold Builtin.«dict.__iter__»;refine wpAny_bind ?_;unfold Builtin.Dict.dictSlotNone;refine wpAny_bind (wpAny_notOrdered_dict hT ?_);refine wpAny_pure (?_:wpAny _ _ (Builtin.Dict.showsAll d >>= _) _ _ s);unfold Builtin.Dict.showsAll;rw[if_neg (by rw[lo];exact Bool.false_ne_true)];refine wpAny_bind (wpAny_pure (wpAny_bind (wpAny_dictEntries ho hdat (wpAny_bind (wpAny_dictEpoch ho hdat ?_)))));exact wpAny_bind (wpAny_newObj_type (wpAny_pure ⟨_,rfl,"dict_keyiterator",_,⟨_,Heap.get?_push_size _ rfl,rfl⟩,PySem.F.slot_dict_keyiterator_next.lookup,q⟩))
theorem ZiP{Q:Option Value->Shared->Prop}(st:s.heap.IsKeyIter it d i es.size ep)(x:ZgB s.heap d es ep)(hi:i<es.size)
  (q:∀h',h'.IsKeyIter it d (i+1) es.size ep->Heap.SameBut it s.heap h'->Q (some es[i].key) { s with heap:=h' }):wpAny (model prog w) A (pyNext (.ref it)) Q E s:=by
 obtain⟨o,ho,hc,hd⟩:=id st;obtain⟨od,hod,hxd,hdd⟩:=id x;unfold pyNext;refine wpAny_bind (wpAny_attempt (wpAny_callSpecial?_slot (name:=Str.ofString "__next__") st.typeIs PySem.F.slot_dict_keyiterator_next (wpAny_call_entry PySem.F.slot_dict_keyiterator_next st.typeIs PySem.F.entry_dict_keyiterator_next ?_ (PySem.F.args_dict_keyiterator_next_1 _))));refine wpAny_bind (wpAny_pure (wpAny_bind (wpAny_bind ?_)))
 first|refine wpAny_bind (wpAny_typeNameOfWhole_keyiter st.typeIs (wpAny_pure (wpAny_bind (wpAny_fieldsOf ho hd ?_))))|refine wpAny_bind (wpAny_typeNameOf_keyiter st.typeIs (wpAny_pure (wpAny_bind (wpAny_fieldsOf ho hd ?_))))
 have own:Builtin.Dict_items.ownsTuple "dict_keyiterator" = false:=by decide
 simp only[own,Bool.false_eq_true,if_false];change wpAny _ _ (if(Value.ref d == Value.none)=true then _ else _) _ _ s
 rw[if_neg (fun z:(Value.ref d == Value.none)=true=>Bool.false_ne_true z)];refine wpAny_bind (wpAny_pure (wpAny_bind (wpAny_dictEntries hod hdd ?_)));rw[if_neg (by simp)];refine wpAny_bind (wpAny_pure (wpAny_bind (wpAny_dictEpoch hod hdd ?_)));rw[if_neg (by simp)];refine wpAny_pure ?_;simp only[show ¬ ((i:Int)<0) by lia,if_false,Int.toNat_natCast,Array.getElem?_eq_getElem hi];refine wpAny_bind ?_;first|refine wpAny_bind (wpAny_typeNameOfWhole_keyiter st.typeIs (wpAny_pure (wpAny_bind (wpAny_isOneOf_keyiter st.typeIs ?_))))|refine wpAny_bind (wpAny_typeNameOf_keyiter st.typeIs (wpAny_pure (wpAny_bind (wpAny_isOneOf_keyiter st.typeIs ?_))))
 change wpAny _ _ (setField (.ref it) 1 (rawInt ((i:Int)+1)) >>= _) _ _ s;refine wpAny_bind (wpAny_setField ho hd (by simp) ?_);have st2:(s.heap.update it (Obj.mapFields (·.setIfInBounds 1 (rawInt ((i:Int)+1))))).IsKeyIter it d (i+1) es.size ep:=⟨_,Heap.get?_update_self _ ho (Obj.isFreed_of_fields (Obj.data_mapFields hd _)),(Obj.cls_mapFields ..).trans hc,by rw[Obj.data_mapFields hd];simp[rawInt]⟩;refine wpAny_bind (wpAny_holding (wpAny_bind (wpAny_isOneOf_keyiter (s:={ s with heap:=s.heap.update it (Obj.mapFields (·.setIfInBounds 1 (rawInt ((i:Int)+1)))) }) st2.typeIs ?_)));change wpAny _ _ (pure es[i].key) _ _ _;exact wpAny_pure (wpAny_pure ⟨_,rfl,wpAny_pure (q _ st2 (Heap.SameBut.update ..))⟩)
theorem Zky{Q:Option Value->Shared->Prop}(hh:A.handled=none)(st:s.heap.IsKeyIter it d i es.size ep)(x:ZgB s.heap d es ep)(hi:es.size<=i)
  (q:∀h',Heap.ExtBut it s.heap h'->Q none { s with heap:=h' }):wpAny (model prog w) A (pyNext (.ref it)) Q E s:=by
 obtain⟨o,ho,hc,hd⟩:=id st;obtain⟨od,hod,hxd,hdd⟩:=id x;unfold pyNext;refine wpAny_bind (wpAny_attempt (wpAny_callSpecial?_slot (name:=Str.ofString "__next__") st.typeIs PySem.F.slot_dict_keyiterator_next (wpAny_call_entry PySem.F.slot_dict_keyiterator_next st.typeIs PySem.F.entry_dict_keyiterator_next ?_ (PySem.F.args_dict_keyiterator_next_1 _))));refine wpAny_bind (wpAny_pure (wpAny_bind (wpAny_bind ?_)))
 first|refine wpAny_bind (wpAny_typeNameOfWhole_keyiter st.typeIs (wpAny_pure (wpAny_bind (wpAny_fieldsOf ho hd ?_))))|refine wpAny_bind (wpAny_typeNameOf_keyiter st.typeIs (wpAny_pure (wpAny_bind (wpAny_fieldsOf ho hd ?_))))
 have own:Builtin.Dict_items.ownsTuple "dict_keyiterator" = false:=by decide
 simp only[own,Bool.false_eq_true,if_false];change wpAny _ _ (if(Value.ref d == Value.none)=true then _ else _) _ _ s
 rw[if_neg (fun z:(Value.ref d == Value.none)=true=>Bool.false_ne_true z)];refine wpAny_bind (wpAny_pure (wpAny_bind (wpAny_dictEntries hod hdd ?_)));rw[if_neg (by simp)];refine wpAny_bind (wpAny_pure (wpAny_bind (wpAny_dictEpoch hod hdd ?_)));rw[if_neg (by simp)];refine wpAny_pure ?_;simp only[show ¬ ((i:Int)<0) by lia,if_false,Int.toNat_natCast,Array.getElem?_eq_none hi];refine wpAny_bind ?_;first|refine wpAny_bind (wpAny_typeNameOfWhole_keyiter st.typeIs (wpAny_pure ?_))|refine wpAny_bind (wpAny_typeNameOf_keyiter st.typeIs (wpAny_pure ?_))
 change wpAny _ _ (setField (.ref it) 0 .none >>= _) _ _ s;refine wpAny_bind (wpAny_setField ho hd (by simp) ?_);change wpAny _ _ (newExc (.type "StopIteration") [] >>= _) _ _ _;refine wpAny_bind ?_;simp only[newExc,newTuple];refine wpAny_bind (wpAny_newObj_type (wpAny_bind (m:=firstArgMember _ _) (wpAny_of_eq (a:=Value.none) (by first|rfl|(simp only[firstArgMember];rfl)) (wpAny_newObj_type ?_ (by size_fits)))) (by size_fits))
 simp only[raiseNew];refine wpAny_bind (wpAny_handled ?_);rw[show A.in1.handled=none from hh];refine wpAny_bind (wpAny_pure (wpAny_throw ?_));refine wpAny_bind (wpAny_isInstance (T := "StopIteration") (b:=true) (v:=.ref _) (by exact⟨_,Heap.get?_push_size _ rfl,rfl⟩) isSubtype_stop ?_);exact wpAny_pure (q _ (((Heap.SameBut.update ..).extBut.push _).push _))
theorem Zis(hh:A.handled=none)(hne:d≠it):Walks prog w A it [it,d] [it] es.size (fun i v=>∃e,es[i]?= some e/\v=e.key) (fun i h=>h.IsKeyIter it d i es.size ep/\ZgB h d es ep) where
 sub:=fun b hb=>List.mem_cons.mpr (.inl (List.mem_singleton.mp hb))
 frame:=fun _ _ _ st hk=>⟨st.1.at fun o e=>hk it (List.mem_cons_self ..) o e,st.2.to fun o e=>hk d (List.mem_cons_of_mem _ (List.mem_cons_self ..)) o e⟩
 item:=fun j s Q E hj st hQ=>ZiP st.1 st.2 hj fun h' st' sb=>hQ _ h' s.toks ⟨_,Array.getElem?_eq_getElem hj,rfl⟩ ⟨st',st.2.to fun o e=>sb.extBut d o hne e⟩ fun b o hb e=>sb.extBut b o (fun z=>hb (List.mem_singleton.mpr z)) e
 done:=fun s Q E st hQ=>Zky hh st.1 st.2 (Nat.le_refl _) fun h' he=>hQ h' s.toks fun b o hb e=>he b o (fun z=>hb (List.mem_singleton.mpr z)) e
 self:=fun _ _ _ _ st hQ=>wpAny_pyIter_keyiter st.1 hQ
theorem Zen(lo:(d == sysModules)=false):KdlSrc prog w "dict" d d es.size (fun i v=>∃e,es[i]?= some e/\v=e.key) (fun h=>ZgB h d es ep) where
 type:=fun _ x=>x.tyIs
 there:=fun _ ⟨o,ho,_⟩=>⟨Heap.lt_size ho,Heap.lt_size ho⟩
 keep:=fun _ _ x hk=>x.to fun o e=>hk d (.inl rfl) o e
 notList:=by decide
 notTuple:=by decide
 hint:=fun _ _ _ _ x hq=>kdl_hint_dict x.tyIs hq
 iter:=fun _ _ hh x=>⟨_,_,(fun _ _ hq=>Zje lo x hq),Zis hh (let ⟨o,ho,_⟩:=x;Nat.ne_of_lt (Heap.lt_size ho)),⟨⟨_,Heap.get?_push_size _ rfl,rfl,rfl⟩,x.to fun _ e=>Heap.get?_push_of_some _ e⟩⟩
end
end L2
namespace Sts
open PySem PyProof.Rows PySem.W Srt
end Sts
namespace L2
open PySem PySem.Spec PyProof.Rows PySem.W
section
variable{X:Cx}{e:Expr}{te:TE}{p p' pos pos':Pos}
theorem Inv.draws{pins:List (Addr×Obj)}{σ : St}{H:Hp}{s:Shared}{d:Drawn}(I:Inv X pins σ H s):Inv X pins σ H { s with drawn:=d } :=
 I.step (g':=s.gens) (d':=d) (t':=s.toks) (ch:=[]) (fun _ z=>nomatch z) (fun _ _ _ _ _ e _=>e) (fun _ o _ _ _ e _=>⟨o.slots,e⟩) (fun _ _ _ _ n=>n) (fun _ o _ e=>⟨o,e⟩) (fun _ _ h=>h) (fun _ _ _ h=>h) (fun _ ps h=>⟨#[],by simpa using h⟩) (fun _ h=>h) I.hok I.bare
theorem Zgv{ns:List Int}:∀zs:List V,(∀z∈zs,z∈ns.map V.int)->∃ms:List Int,zs=ms.map V.int/\∀m∈ms,m∈ns
 | [],_=>⟨[],rfl,fun _ h=>nomatch h⟩
 | z::zs,h=>by
  obtain⟨m,hm,rfl⟩:=List.mem_map.mp (h z (List.mem_cons_self ..));obtain⟨ms,rfl,hms⟩:=Zgv zs fun x hx=>h x (List.mem_cons_of_mem _ hx);refine⟨m::ms,rfl,fun x hx=>?_⟩;rcases List.mem_cons.mp hx with rfl|hx
  ·exact hm
  ·exact hms x hx
end
end L2
namespace Srd
open PySem PyProof.Rows Srt
structure Swo(lt:Keyed->Keyed->Bool):Prop where
 asym:∀x y,lt x y=true->lt y x=false
 neg:∀x y z,lt x y=false->lt y z=false->lt x z=false
def Le(lt:Keyed->Keyed->Bool)(x y:Keyed):Prop:=lt y x=false
section
variable{lt:Keyed->Keyed->Bool}(o:Swo lt){x y z:Keyed}
include o
theorem Swo.le_trans(h1:Le lt x y)(h2:Le lt y z):Le lt x z:=o.neg z y x h2 h1
theorem Swo.le_of(h:lt x y=true):Le lt x y:=o.asym x y h
theorem Swo.lt_le(h1:lt x y=true)(h2:Le lt y z):lt x z=true:=by
 cases h:lt x z with
 | true=>rfl
 | false=>rw[o.neg x z y h h2] at h1;cases h1
theorem Swo.le_lt(h1:Le lt x y)(h2:lt y z=true):lt x z=true:=by
 cases h:lt x z with
 | true=>rfl
 | false=>rw[o.neg y x z h1 h] at h2;cases h2
theorem Swo.le_refl(x:Keyed):Le lt x x:=by
 show lt x x=false;cases h:lt x x with
 | false=>rfl
 | true=>have:=o.asym x x h;rw[h] at this;exact this
end
def Zg8(prog:Program)(w:World)(A:Around)(s:Shared)(κ : SortKind)(Ok:Keyed->Prop)(lt:Keyed->Keyed->Bool):Prop :=
 ∀x y,Ok x->Ok y->∀E:Value->Shared->Prop,wpAny (model prog w) A (keyLt' κ x.1 y.1) (fun b s'=>s'=s/\b=lt x y) E s
def Up(lt:Keyed->Keyed->Bool)(arr:Array Keyed)(i j:Nat):Prop := ∀x y p q,i<=x->x<y->y<j->arr[x]?= some p->arr[y]?= some q->Le lt p q
def bv(lt:Keyed->Keyed->Bool)(l:Bool)(key p:Keyed):Bool:=if l=true then lt p key else !lt key p
def BV(lt:Keyed->Keyed->Bool)(l:Bool)(key:Keyed)(a:Array Keyed)(base i:Nat):Bool:=match a[base+i]? with|some p=>bv lt l key p|none=>false
theorem BV.anti{lt:Keyed->Keyed->Bool}(o:Swo lt){l:Bool}{key:Keyed}{a:Array Keyed}{base n:Nat}(hb:base+n<=a.size)(hu:Up lt a base (base+n)){i j:Nat}(hij:i<=j)(hj:j<n)(h:BV lt l key a base j=true):BV lt l key a base i=true:=by
 rcases Nat.eq_or_lt_of_le hij with rfl|hlt
 ·exact h
 have ei:a[base+i]?= some a[base+i]:=getElem?_pos a _ (by lia);have ej:a[base+j]?= some a[base+j]:=getElem?_pos a _ (by lia);have hle:=hu (base+i) (base+j) _ _ (by lia) (by lia) (by lia) ei ej;unfold BV at h ⊢;rw[ej] at h;rw[ei];dsimp only at h ⊢;unfold bv at h ⊢;cases l with
 | true =>
  rw[if_pos rfl] at h ⊢;exact o.le_lt hle h
 | false =>
  rw[if_neg (by decide)] at h ⊢;have h1:lt key a[base+j]=false:=by simpa using h
  have:lt key a[base+i]=false:=o.le_trans (lt:=lt) hle h1;rw[this];rfl
section
variable{prog:Program}{w:World}{A:Around}{E:Value->Shared->Prop}{s:Shared}{κ : SortKind}{Ok:Keyed->Prop}{st:SortSt}{lt:Keyed->Keyed->Bool}
theorem ZdA{x y:Keyed}{Q:Option Bool->SortSt->Prop}(hc:Zg8 prog w A s κ Ok lt)(hk:kindOf st= κ)(hx:Ok x)(hy:Ok y)(h:Q (some (lt x y)) st):wpS (model prog w) A E s (lt' x y) Q st:=by
 rw[lt'_eq];refine wpS_bind (wpS_get ?_);rw[hk];refine wpS_bind (wpS_lift (wpAny_attempt (wpAny_mono (hc x y hx hy _) (fun b s' e=>⟨e.1,?_⟩) fun _ _ z=>z)));rw[e.2];exact wpS_pure h
theorem Zmo{l:Bool}{key:Keyed}{a:Array Keyed}{base n i:Nat}{Q:Option Bool->SortSt->Prop}(hc:Zg8 prog w A s κ Ok lt)(hk:kindOf st= κ)(hkey:Ok key)(ha:∀p∈a.toList,Ok p)(hb:base+n<=a.size)(hi:i<n)(h:Q (some (BV lt l key a base i)) st) :
  wpS (model prog w) A E s (elem' a (base+i) >>= fun x=>if l=true then lt' x key else(lt' key x >>= fun r=>pure (Option.map (fun z=>!z) r))) Q st:=by
 refine wpS_bind (ZJ (by lia) fun p hp e=>?_);unfold BV at h;rw[e] at h;dsimp only at h;unfold bv at h;cases l with
 | true =>
  rw[if_pos rfl] at h ⊢;exact ZdA hc hk (ha p hp) hkey h
 | false =>
  rw[if_neg Bool.false_ne_true] at h ⊢;exact wpS_bind (ZdA hc hk hkey (ha p hp) (wpS_pure h))
set_option maxHeartbeats 1000000 in
theorem ZaF{l:Bool}{key:Keyed}{a:Array Keyed}{base n hint:Nat}{Q:Option Nat->SortSt->Prop}(o:Swo lt)(hc:Zg8 prog w A s κ Ok lt)(hk:kindOf st= κ)(hkey:Ok key)(ha:∀p∈a.toList,Ok p)(hb:base+n<=a.size)(hh:hint<n)(hu:Up lt a base (base+n))
  (h:∀k,k<=n->(∀i,i<k->BV lt l key a base i=true)->(∀i,k<=i->i<n->BV lt l key a base i=false)->Q (some k) st):wpS (model prog w) A E s (Zfy l key a base n hint) Q st:=by
 have up:∀{i j},i<=j->j<n->BV lt l key a base j=true->BV lt l key a base i=true:=fun hij hj h=>BV.anti o hb hu hij hj h;have dn:∀{i j},i<=j->j<n->BV lt l key a base i=false->BV lt l key a base j=false:=fun{i j} hij hj h=>by
  cases e:BV lt l key a base j with
  | false=>rfl
  | true=>rw[up hij hj e] at h;cases h
 generalize hBB:BV lt l key a base=BB at up dn h;have bey:∀{st':SortSt}{i:Nat}{Q':Option Bool->SortSt->Prop},st'=st->i<n->Q' (some (BB i)) st'->wpS (model prog w) A E s (elem' a (base+i) >>= fun x=>if l=true then lt' x key else(lt' key x >>= fun r=>pure (Option.map (fun z=>!z) r))) Q' st':=fun{st' i Q'} e hi hq=>by
  subst e;exact Zmo hc hk hkey ha hb hi (by rw[hBB];exact hq)
 refine wpS_bind (bey rfl hh ?_);cases hright:BB hint with
 | true =>
  dsimp only;rw[if_pos rfl];refine wpS_bind (wpS_mono (wpS_forRange (I:=fun x c st'=>st'=st/\∃lo of,c=(none,lo,of)/\lo<n-hint/\lo<of/\BB (hint+lo)=true/\x+1<=of) (Q:=fun c st'=>st'=st/\∃lo of,c=(none,lo,of)/\lo<n-hint/\lo<of/\BB (hint+lo)=true/\(n-hint<=of\/BB (hint+of)=false)) ?_ ?_ ⟨rfl,0,1,rfl,by lia,by lia,hright,by lia⟩) ?_)
  ·rintro i c st' _ _ ⟨rfl,lo,of,rfl,h1,h2,h3,h4⟩;dsimp only;by_cases hlt:of>=n-hint
   ·rw[if_pos hlt];exact wpS_pure ⟨rfl,lo,of,rfl,h1,h2,h3,.inl hlt⟩
   ·rw[if_neg hlt];refine wpS_bind (bey rfl (by lia) ?_);cases hb2:BB (hint+of) with
    | true=>exact wpS_pure ⟨rfl,_,_,rfl,by lia,by lia,hb2,by lia⟩
    | false=>exact wpS_pure ⟨rfl,lo,of,rfl,h1,h2,h3,.inr hb2⟩
  ·rintro c st' ⟨rfl,lo,of,rfl,h1,h2,h3,h4⟩;exact⟨rfl,lo,of,rfl,h1,h2,h3,.inl (by lia)⟩
  ·rintro c st'' ⟨rfl,lo,of,rfl,h1,h2,h3,h4⟩;dsimp only;have g1:hint+lo+1<=hint+min of (n-hint):=by lia
   have g2:hint+min of (n-hint)<=n:=by lia
   have g3:∀i,i<hint+lo+1->BB i=true:=fun i hi=>up (show i<=hint+lo by lia) (by lia) h3;have g4:∀i,hint+min of (n-hint)<=i->i<n->BB i=false:=fun i hi hin=>by
    rcases h4 with h4|h4
    ·lia
    ·exact dn (show hint+of<=i by lia) hin h4
   generalize hint+lo+1=lo1 at g1 g3;generalize hint+min of (n-hint)=hi1 at g1 g2 g4;refine wpS_bind (wpS_mono (wpS_forRange (I:=fun x c st'=>st'=st''/\∃lo hi,c=(none,lo,hi)/\lo<=hi/\hi<=n/\(∀i,i<lo->BB i=true)/\(∀i,hi<=i->i<n->BB i=false)/\hi-lo+x<=n) (Q:=fun c st'=>st'=st''/\∃lo hi,c=(none,lo,hi)/\lo=hi/\hi<=n/\(∀i,i<lo->BB i=true)/\(∀i,hi<=i->i<n->BB i=false)) ?_ ?_ ⟨rfl,lo1,hi1,rfl,g1,g2,g3,g4,by lia⟩) ?_)
   ·rintro i c st' _ _ ⟨rfl,lo,hi,rfl,h1,h2,h3,h4,h5⟩;dsimp only;by_cases hlt:lo>=hi
    ·rw[if_pos hlt];exact wpS_pure ⟨rfl,lo,hi,rfl,by lia,h2,h3,h4⟩
    ·rw[if_neg hlt];refine wpS_bind (bey rfl (by lia) ?_);cases hb2:BB (lo+(hi-lo) / 2) with
     | true=>exact wpS_pure ⟨rfl,_,_,rfl,by lia,by lia,fun i hi'=>up (show i<=lo+(hi-lo) / 2 by lia) (by lia) hb2,h4,by lia⟩
     | false=>exact wpS_pure ⟨rfl,_,_,rfl,by lia,by lia,h3,fun i hi' hin=>dn hi' hin hb2,by lia⟩
   ·rintro c st' ⟨rfl,lo,hi,rfl,h1,h2,h3,h4,h5⟩;exact⟨rfl,lo,hi,rfl,by lia,h2,h3,h4⟩
   ·rintro c st' ⟨rfl,lo,hi,rfl,h1,h2,h3,h4⟩;exact wpS_pure (h hi h2 (fun i hi'=>h3 i (by lia)) h4)
 | false =>
  dsimp only;rw[if_neg Bool.false_ne_true];refine wpS_bind (wpS_mono (wpS_forRange (I:=fun x c st'=>st'=st/\∃lo of,c=(none,lo,of)/\lo<hint+1/\lo<of/\BB (hint-lo)=false/\x+1<=of) (Q:=fun c st'=>st'=st/\∃lo of,c=(none,lo,of)/\lo<hint+1/\lo<of/\BB (hint-lo)=false/\(hint+1<=of\/BB (hint-of)=true)) ?_ ?_ ⟨rfl,0,1,rfl,by lia,by lia,hright,by lia⟩) ?_)
  ·rintro i c st' _ _ ⟨rfl,lo,of,rfl,h1,h2,h3,h4⟩;dsimp only;by_cases hlt:of>=hint+1
   ·rw[if_pos hlt];exact wpS_pure ⟨rfl,lo,of,rfl,h1,h2,h3,.inl hlt⟩
   ·rw[if_neg hlt];refine wpS_bind (bey rfl (by lia) ?_);cases hb2:BB (hint-of) with
    | true=>exact wpS_pure ⟨rfl,lo,of,rfl,h1,h2,h3,.inr hb2⟩
    | false=>exact wpS_pure ⟨rfl,_,_,rfl,by lia,by lia,hb2,by lia⟩
  ·rintro c st' ⟨rfl,lo,of,rfl,h1,h2,h3,h4⟩;exact⟨rfl,lo,of,rfl,h1,h2,h3,.inl (by lia)⟩
  ·rintro c st'' ⟨rfl,lo,of,rfl,h1,h2,h3,h4⟩;dsimp only;have g1:hint+1-min of (hint+1)<=hint-lo:=by lia
   have g2:hint-lo<=n:=by lia
   have g3:∀i,i<hint+1-min of (hint+1)->BB i=true:=fun i hi=>by
    rcases h4 with h4|h4
    ·lia
    ·exact up (show i<=hint-of by lia) (by lia) h4
   have g4:∀i,hint-lo<=i->i<n->BB i=false:=fun i hi hin=>dn hi hin h3;generalize hint+1-min of (hint+1)=lo1 at g1 g3;generalize hint-lo=hi1 at g1 g2 g4;refine wpS_bind (wpS_mono (wpS_forRange (I:=fun x c st'=>st'=st''/\∃lo hi,c=(none,lo,hi)/\lo<=hi/\hi<=n/\(∀i,i<lo->BB i=true)/\(∀i,hi<=i->i<n->BB i=false)/\hi-lo+x<=n) (Q:=fun c st'=>st'=st''/\∃lo hi,c=(none,lo,hi)/\lo=hi/\hi<=n/\(∀i,i<lo->BB i=true)/\(∀i,hi<=i->i<n->BB i=false)) ?_ ?_ ⟨rfl,lo1,hi1,rfl,g1,g2,g3,g4,by lia⟩) ?_)
   ·rintro i c st' _ _ ⟨rfl,lo,hi,rfl,h1,h2,h3,h4,h5⟩;dsimp only;by_cases hlt:lo>=hi
    ·rw[if_pos hlt];exact wpS_pure ⟨rfl,lo,hi,rfl,by lia,h2,h3,h4⟩
    ·rw[if_neg hlt];refine wpS_bind (bey rfl (by lia) ?_);cases hb2:BB (lo+(hi-lo) / 2) with
     | true=>exact wpS_pure ⟨rfl,_,_,rfl,by lia,by lia,fun i hi'=>up (show i<=lo+(hi-lo) / 2 by lia) (by lia) hb2,h4,by lia⟩
     | false=>exact wpS_pure ⟨rfl,_,_,rfl,by lia,by lia,h3,fun i hi' hin=>dn hi' hin hb2,by lia⟩
   ·rintro c st' ⟨rfl,lo,hi,rfl,h1,h2,h3,h4,h5⟩;exact⟨rfl,lo,hi,rfl,by lia,h2,h3,h4⟩
   ·rintro c st' ⟨rfl,lo,hi,rfl,h1,h2,h3,h4⟩;exact wpS_pure (h hi h2 (fun i hi'=>h3 i (by lia)) h4)
end
section
variable{lt:Keyed->Keyed->Bool}{a b out:Array Keyed}{ia ib k:Nat}{p q:Keyed}
abbrev So(lt:Keyed->Keyed->Bool)(l:List Keyed):Prop:=l.Pairwise (Le lt)
theorem ZiY(h:a[ia]?= some p):a.toList[ia]?= some p:=by rw[<- h];simp
theorem Zar{i:Nat}{x y:Keyed}(h1:a[i]?= some x)(h2:a[i]?= some y):x=y:=by
 rw[h1] at h2;exact Option.some.inj h2
theorem Zcj(h:a[ia]?= some p):a.toList.drop ia=p::a.toList.drop (ia+1):=by
 obtain⟨hi,e⟩:=List.getElem?_eq_some_iff.mp (ZiY h);rw[List.drop_eq_getElem_cons hi,e]
theorem So.drop{l:List Keyed}(h:So lt l)(n:Nat):So lt (l.drop n):=List.Pairwise.sublist (List.drop_sublist n l) h
theorem So.head(h:So lt a.toList)(hp:a[ia]?= some p):∀y∈a.toList.drop (ia+1),Le lt p y:=by
 have:=h.drop ia;rw[Zcj hp] at this;exact(List.pairwise_cons.mp this).1
theorem Zfp(o:Swo lt)(h:So lt a.toList)(hp:a[ia]?= some p){x:Keyed}(hx:Le lt x p):∀y∈a.toList.drop ia,Le lt x y:=fun y hy=>by
 rw[Zcj hp] at hy;rcases List.mem_cons.mp hy with rfl|hy
 ·exact hx
 ·exact o.le_trans hx (h.head hp y hy)
theorem Zfw(h:So lt a.toList)(i j:Nat):Up lt a i j:=fun x y p q _ hxy _ ex ey=>by
 obtain⟨hx,rfl⟩:=List.getElem?_eq_some_iff.mp (ZiY ex);obtain⟨hy,rfl⟩:=List.getElem?_eq_some_iff.mp (ZiY ey);exact(List.pairwise_iff_getElem.mp h) x y hx hy hxy
theorem Zk9{n:Nat}(h:Up lt a 0 n)(hn:a.size<=n):So lt a.toList:=by
 refine List.pairwise_iff_getElem.mpr fun i j hi hj hij=>?_;have hi':i<a.size:=by rw[<- Array.length_toList];exact hi
 have hj':j<a.size:=by rw[<- Array.length_toList];exact hj
 exact h i j _ _ (Nat.zero_le _) hij (by lia) (by rw[<- Array.getElem?_toList];exact List.getElem?_eq_getElem hi) (by rw[<- Array.getElem?_toList];exact List.getElem?_eq_getElem hj)
theorem Zdn{l:List Keyed}{n:Nat}{y:Keyed}(h:y∈l.drop n):∃i,l[n+i]?= some y:=by
 obtain⟨i,hi⟩:=List.mem_iff_getElem?.mp h;rw[List.getElem?_drop] at hi;exact⟨i,hi⟩
theorem Zlx(F:∀i,k<=i->i<a.size-ia->BV lt false p a ia i=false)(o:Swo lt):∀y∈a.toList.drop (ia+k),Le lt p y:=fun y hy=>by
 obtain⟨i,hi⟩:=Zdn hy;obtain⟨hl,_⟩:=List.getElem?_eq_some_iff.mp hi;rw[Array.length_toList] at hl;have h1:=F (k+i) (by lia) (by lia);unfold BV at h1;rw[show ia+(k+i)=ia+k+i by lia,<- Array.getElem?_toList,hi] at h1;have h2:(!lt p y)=false:=h1;exact o.le_of (by simpa using h2)
theorem Zlw(F:∀i,i<k->BV lt false p a ia i=true):∀x∈(a.toList.drop ia).take k,Le lt x p:=fun x hx=>by
 obtain⟨i,hi⟩:=List.mem_iff_getElem?.mp hx;have hik:i<k:=by
  have:=(List.getElem?_eq_some_iff.mp hi).1;rw[List.length_take] at this;lia
 rw[List.getElem?_take_of_lt hik,List.getElem?_drop] at hi;have h1:=F i hik;unfold BV at h1;rw[<- Array.getElem?_toList,hi] at h1;have h2:(!lt p x)=true:=h1;show lt p x=false
 simpa using h2
theorem Zma(F:∀i,k<=i->i<b.size-ib->BV lt true q b ib i=false):∀y∈b.toList.drop (ib+k),Le lt q y:=fun y hy=>by
 obtain⟨i,hi⟩:=Zdn hy;obtain⟨hl,_⟩:=List.getElem?_eq_some_iff.mp hi;rw[Array.length_toList] at hl;have h1:=F (k+i) (by lia) (by lia);unfold BV at h1;rw[show ib+(k+i)=ib+k+i by lia,<- Array.getElem?_toList,hi] at h1;exact h1
theorem ZlH(F:∀i,i<k->BV lt true q b ib i=true)(o:Swo lt):∀x∈(b.toList.drop ib).take k,Le lt x q:=fun x hx=>by
 obtain⟨i,hi⟩:=List.mem_iff_getElem?.mp hx;have hik:i<k:=by
  have:=(List.getElem?_eq_some_iff.mp hi).1;rw[List.length_take] at this;lia
 rw[List.getElem?_take_of_lt hik,List.getElem?_drop] at hi;have h1:=F i hik;unfold BV at h1;rw[<- Array.getElem?_toList,hi] at h1;exact o.le_of h1
structure OutL(lt:Keyed->Keyed->Bool)(a b out:Array Keyed)(ia ib:Nat):Prop where
 perm:Out a b out ia ib
 sort:So lt out.toList
 lowA:∀x∈out.toList,∀y∈a.toList.drop ia,Le lt x y
 lowB:∀x∈out.toList,∀y∈b.toList.drop ib,Le lt x y
structure Rs(lt:Keyed->Keyed->Bool)(a b r:Array Keyed):Prop where
 perm:r.toList.Perm (a.toList++b.toList)
 sort:So lt r.toList
theorem mem_push{x:Keyed}(h:x∈(out.push p).toList):x∈out.toList\/x=p:=by
 rw[Array.toList_push] at h;rcases List.mem_append.mp h with h|h
 ·exact .inl h
 ·exact .inr (List.mem_singleton.mp h)
theorem ZhL(h:So lt out.toList)(hp:∀x∈out.toList,Le lt x p):So lt (out.push p).toList:=by
 rw[Array.toList_push];refine List.pairwise_append.mpr ⟨h,List.pairwise_singleton _ _,fun x hx y hy=>?_⟩;rw[List.mem_singleton.mp hy];exact hp x hx
theorem ZeI{l:List Keyed}{i j:Nat}(h:i<=j){y:Keyed}(hy:y∈l.drop j):y∈l.drop i:=by
 rw[show j=i+(j-i) by lia,<- List.drop_drop] at hy;exact List.mem_of_mem_drop hy
theorem OutL.pushA(h:OutL lt a b out ia ib)(SA:So lt a.toList)(hp:a[ia]?= some p)(hb:∀y∈b.toList.drop ib,Le lt p y):OutL lt a b (out.push p) (ia+1) ib:=by
 have hm:p∈a.toList.drop ia:=by rw[Zcj hp];exact List.mem_cons_self ..
 refine⟨h.perm.pushA hp,ZhL h.sort fun x hx=>h.lowA x hx p hm,fun x hx y hy=>?_,fun x hx y hy=>?_⟩
 ·rcases mem_push hx with hx|rfl
  ·exact h.lowA x hx y (ZeI (by lia) hy)
  ·exact SA.head hp y hy
 ·rcases mem_push hx with hx|rfl
  ·exact h.lowB x hx y hy
  ·exact hb y hy
theorem OutL.pushB(h:OutL lt a b out ia ib)(SB:So lt b.toList)(hp:b[ib]?= some p)(ha:∀y∈a.toList.drop ia,Le lt p y):OutL lt a b (out.push p) ia (ib+1):=by
 have hm:p∈b.toList.drop ib:=by rw[Zcj hp];exact List.mem_cons_self ..
 refine⟨h.perm.pushB hp,ZhL h.sort fun x hx=>h.lowB x hx p hm,fun x hx y hy=>?_,fun x hx y hy=>?_⟩
 ·rcases mem_push hx with hx|rfl
  ·exact h.lowA x hx y hy
  ·exact ha y hy
 ·rcases mem_push hx with hx|rfl
  ·exact h.lowB x hx y (ZeI (by lia) hy)
  ·exact SB.head hp y hy
theorem Zc5(a:Array Keyed)(i k:Nat):(a.extract i (i+k)).toList=(a.toList.drop i).take k:=by
 rw[Array.toList_extract,List.extract_eq_drop_take,show i+k-i=k by lia]
theorem ZcH(a:Array Keyed)(i:Nat):(a.extract i a.size).toList=a.toList.drop i:=by
 rw[Array.toList_extract,List.extract_eq_drop_take];apply List.take_of_length_le;rw[List.length_drop,Array.length_toList];exact Nat.le_refl _
theorem ZcJ{l:List Keyed}{i k:Nat}(h:So lt l){x y:Keyed}(hx:x∈(l.drop i).take k)(hy:y∈l.drop (i+k)):Le lt x y:=by
 have h1:=h.drop i;rw[<- List.take_append_drop k (l.drop i),List.drop_drop] at h1;exact(List.pairwise_append.mp h1).2.2 x hx y hy
theorem OutL.extA(h:OutL lt a b out ia ib)(SA:So lt a.toList)(hk:ia+k<=a.size)(hb:∀x∈(a.toList.drop ia).take k,∀y∈b.toList.drop ib,Le lt x y):OutL lt a b (out++a.extract ia (ia+k)) (ia+k) ib:=by
 have hm:∀x,x∈(out++a.extract ia (ia+k)).toList->x∈out.toList\/x∈(a.toList.drop ia).take k:=fun x hx=>by
  rw[Array.toList_append,Zc5] at hx;exact List.mem_append.mp hx
 refine⟨h.perm.extA hk,?_,fun x hx y hy=>?_,fun x hx y hy=>?_⟩
 ·rw[Array.toList_append,Zc5];exact List.pairwise_append.mpr ⟨h.sort,List.Pairwise.sublist (List.take_sublist _ _) (SA.drop ia),fun x hx y hy=>h.lowA x hx y (List.mem_of_mem_take hy)⟩
 ·rcases hm x hx with hx|hx
  ·exact h.lowA x hx y (ZeI (by lia) hy)
  ·exact ZcJ SA hx hy
 ·rcases hm x hx with hx|hx
  ·exact h.lowB x hx y hy
  ·exact hb x hx y hy
theorem OutL.extB(h:OutL lt a b out ia ib)(SB:So lt b.toList)(hk:ib+k<=b.size)(ha:∀x∈(b.toList.drop ib).take k,∀y∈a.toList.drop ia,Le lt x y):OutL lt a b (out++b.extract ib (ib+k)) ia (ib+k):=by
 have hm:∀x,x∈(out++b.extract ib (ib+k)).toList->x∈out.toList\/x∈(b.toList.drop ib).take k:=fun x hx=>by
  rw[Array.toList_append,Zc5] at hx;exact List.mem_append.mp hx
 refine⟨h.perm.extB hk,?_,fun x hx y hy=>?_,fun x hx y hy=>?_⟩
 ·rw[Array.toList_append,Zc5];exact List.pairwise_append.mpr ⟨h.sort,List.Pairwise.sublist (List.take_sublist _ _) (SB.drop ib),fun x hx y hy=>h.lowB x hx y (List.mem_of_mem_take hy)⟩
 ·rcases hm x hx with hx|hx
  ·exact h.lowA x hx y hy
  ·exact ha x hx y hy
 ·rcases hm x hx with hx|hx
  ·exact h.lowB x hx y (ZeI (by lia) hy)
  ·exact ZcJ SB hx hy
theorem OutL.doneB(h:OutL lt a b out ia ib)(SA:So lt a.toList)(e:(ib == b.size)=true):Rs lt a b (out++a.extract ia a.size++b.extract ib b.size):=by
 refine⟨h.perm.done,?_⟩;have e':b.toList.drop ib=[]:=List.drop_eq_nil_of_le (by rw[Array.length_toList,eq_of_beq e];exact Nat.le_refl _);rw[Array.toList_append,Array.toList_append,ZcH,ZcH,e',List.append_nil];exact List.pairwise_append.mpr ⟨h.sort,SA.drop ia,fun x hx y hy=>h.lowA x hx y hy⟩
theorem OutL.doneA(h:OutL lt a b out ia ib)(SB:So lt b.toList)(e:(ia == a.size)=true):Rs lt a b (out++a.extract ia a.size++b.extract ib b.size):=by
 refine⟨h.perm.done,?_⟩;have e':a.toList.drop ia=[]:=List.drop_eq_nil_of_le (by rw[Array.length_toList,eq_of_beq e];exact Nat.le_refl _);rw[Array.toList_append,Array.toList_append,ZcH,ZcH,e',List.append_nil];exact List.pairwise_append.mpr ⟨h.sort,SB.drop ib,fun x hx y hy=>h.lowB x hx y hy⟩
theorem OutL.lastL(h:OutL lt a b out ia ib)(SA:So lt a.toList)(SB:So lt b.toList)(LA:∀x∈b.toList,∀q,a[a.size-1]?= some q->Le lt x q)(e:(ia+1 == a.size)=true):Rs lt a b (out++b.extract ib b.size++a.extract ia a.size):=by
 refine⟨h.perm.last,?_⟩;have e1:=eq_of_beq e;rw[Array.toList_append,Array.toList_append,ZcH,ZcH];refine List.pairwise_append.mpr ⟨List.pairwise_append.mpr ⟨h.sort,SB.drop ib,fun x hx y hy=>h.lowB x hx y hy⟩,SA.drop ia,fun x hx y hy=>?_⟩;rcases List.mem_append.mp hx with hx|hx
 ·exact h.lowA x hx y hy
 ·refine LA x (List.mem_of_mem_drop hx) y ?_;obtain⟨i,hi⟩:=Zdn hy;have hl:=(List.getElem?_eq_some_iff.mp hi).1;rw[Array.length_toList] at hl;rw[show a.size-1=ia+i by lia,<- Array.getElem?_toList];exact hi
theorem ZlD(SB:So lt b.toList)(hp:b[0]?= some p)(hb0:∀p,b[0]?= some p->∀y∈a.toList,Le lt p y):OutL lt a b #[p] 0 1:=by
 refine⟨Zmu hp,List.pairwise_singleton _ _,fun x hx y hy=>?_,fun x hx y hy=>?_⟩
 ·obtain rfl:x=p:=by simpa using hx
  exact hb0 x hp y hy
 ·obtain rfl:x=p:=by simpa using hx
  exact SB.head hp y hy
end
section
variable{prog:Program}{w:World}{A:Around}{E:Value->Shared->Prop}{s:Shared}{κ : SortKind}{Ok:Keyed->Prop}{st:SortSt}{lt:Keyed->Keyed->Bool}
abbrev LoT:=Option (Array Keyed)×Array Keyed×Nat×Nat×Nat×Nat×Nat
def lo3(a b out:Array Keyed)(ia ib g ac bc:Nat):StateT SortSt Sem (ForInStep LoT) :=
 elem' a ia >>= fun p=>if(ia+1+1 == a.size)=true then pure (.done (some (out.push p++b.extract ib b.size++a.extract (ia+1) a.size),out.push p,ia+1,ib,g,ac,bc))
  else if(decide (ac<7)&&decide (bc<7))=true then pure (.done (none,out.push p,ia+1,ib,g,ac,bc)) else pure (.yield (none,out.push p,ia+1,ib,g,ac,bc))
def LoP(lt:Keyed->Keyed->Bool)(a b:Array Keyed)(st:SortSt)(x:Nat):ForInStep LoT->SortSt->Prop:=fun r st'=>match r with
 | .done c=>Like st st'/\((∃r out ia ib g ac bc,c=(some r,out,ia,ib,g,ac,bc)/\Rs lt a b r)\/∃out ia ib g ac bc,c=(none,out,ia,ib,g,ac,bc)/\OutL lt a b out ia ib/\ia+1<a.size/\ib<b.size/\x+2<=ia+ib)
 | .yield c=>Like st st'/\∃out ia ib g ac bc,c=(none,out,ia,ib,g,ac,bc)/\OutL lt a b out ia ib/\ia+1<a.size/\ib<b.size/\x+2<=ia+ib
structure LoQ(lt:Keyed->Keyed->Bool)(a b:Array Keyed)(st:SortSt)(N:Nat)(Q:ForInStep LoT->SortSt->Prop):Prop where
 R:∀r out ia ib g ac bc,Rs lt a b r->Q (.done (some r,out,ia,ib,g,ac,bc)) st
 N:∀out ia ib g ac bc,OutL lt a b out ia ib->ia+1<a.size->ib<b.size->N<=ia+ib->Q (.done (none,out,ia,ib,g,ac,bc)) st/\Q (.yield (none,out,ia,ib,g,ac,bc)) st
section
variable{a b out:Array Keyed}{ia ib g ac bc N:Nat}{Q:ForInStep LoT->SortSt->Prop}
theorem ZjU(SA:So lt a.toList)(SB:So lt b.toList)(LA:∀x∈b.toList,∀q,a[a.size-1]?= some q->Le lt x q)(q:LoQ lt a b st N Q)(ho:OutL lt a b out ia ib)(h1:ia+1<a.size)(h2:ib<b.size)(hN:N<=ia+ib)(hp:∀p,a[ia]?= some p->∀y∈b.toList.drop ib,Le lt p y) :
  wpS (model prog w) A E s (lo3 a b out ia ib g ac bc) Q st:=by
 unfold lo3;refine wpS_bind (ZJ (by lia) fun p4 h4 e4=>?_);have o4:=ho.pushA SA e4 (hp p4 e4);by_cases f1:(ia+1+1 == a.size)=true
 ·rw[if_pos f1];exact wpS_pure (q.R _ _ _ _ _ _ _ (o4.lastL SA SB LA f1))
 rw[if_neg f1];have n4:ia+1+1<a.size:=by
  have : ¬ ia+1+1=a.size:=fun e=>f1 (by simp[<- e]);lia
 have z:=q.N _ _ _ g ac bc o4 n4 h2 (by lia);by_cases f2:(decide (ac<7)&&decide (bc<7))=true
 ·rw[if_pos f2];exact wpS_pure z.1
 ·rw[if_neg f2];exact wpS_pure z.2
theorem ZgE(o:Swo lt)(hc:Zg8 prog w A s κ Ok lt)(hk:kindOf st= κ)(ha:∀p∈a.toList,Ok p)(hb:∀p∈b.toList,Ok p)(SA:So lt a.toList)(SB:So lt b.toList)(LA:∀x∈b.toList,∀q,a[a.size-1]?= some q->Le lt x q)(q:LoQ lt a b st N Q)(ho:OutL lt a b out ia ib)(h1:ia+1<a.size)(h2:ib<b.size)(hN:N<=ia+ib)(hp:∀p,b[ib]?= some p->∀y∈a.toList.drop ia,Le lt p y)
  {T:Keyed->Option Nat->StateT SortSt Sem (ForInStep LoT)} (hT:∀p k,T p (some k)=if k > 0 then(if(ib+1+k == b.size)=true then pure (.done (some (out.push p++b.extract (ib+1) (ib+1+k)++a.extract ia a.size++b.extract (ib+1+k) b.size),out.push p++b.extract (ib+1) (ib+1+k),ia,ib+1+k,g,ac,k))
     else lo3 a b (out.push p++b.extract (ib+1) (ib+1+k)) ia (ib+1+k) g ac k)
    else lo3 a b (out.push p) ia (ib+1) g ac k) :
  wpS (model prog w) A E s (elem' b ib >>= fun p=>if(ib+1 == b.size)=true then pure (.done (some (out.push p++a.extract ia a.size++b.extract (ib+1) b.size),out.push p,ia,ib+1,g,ac,bc))
   else elem' a ia >>= fun q=>Zfy true q b (ib+1) (b.size-(ib+1)) 0 >>= T p) Q st:=by
 refine wpS_bind (ZJ (by lia) fun p3 h3 e3=>?_);have o2:=ho.pushB SB e3 (hp p3 e3);by_cases c3:(ib+1 == b.size)=true
 ·rw[if_pos c3];exact wpS_pure (q.R _ _ _ _ _ _ _ (o2.doneB SA c3))
 rw[if_neg c3];have n3:ib+1<b.size:=by
  have : ¬ ib+1=b.size:=fun e=>c3 (by simp[<- e]);lia
 refine wpS_bind (ZJ (by lia) fun q3 g3 u3=>?_);refine wpS_bind (ZaF o hc hk (ha q3 g3) hb (by lia) (by lia) (Zfw SB _ _) fun k2 hk2 G1 G2=>?_);rw[hT];by_cases k20:k2 > 0
 ·rw[if_pos k20];have o3:=o2.extB SB (k:=k2) (by lia) (fun x hx=>Zfp o SA u3 (ZlH G1 o x hx));by_cases c4:(ib+1+k2 == b.size)=true
  ·rw[if_pos c4];exact wpS_pure (q.R _ _ _ _ _ _ _ (o3.doneB SA c4))
  rw[if_neg c4];have n5:ib+1+k2<b.size:=by
   have : ¬ ib+1+k2=b.size:=fun e=>c4 (by simp[<- e]);lia
  exact ZjU SA SB LA q o3 h1 n5 (by lia) fun p e=>by rw[Zar e u3];exact Zma G2
 ·rw[if_neg k20];exact ZjU SA SB LA q o2 h1 n3 (by lia) fun p e=>by rw[Zar e u3];exact Zma (k:=0) (fun i _ hi=>G2 i (by lia) hi)
end
set_option maxHeartbeats 2000000 in
theorem ZeR{a b:Array Keyed}{Q:Array Keyed->SortSt->Prop}(o:Swo lt)(hc:Zg8 prog w A s κ Ok lt)(hk:kindOf st= κ)(ha:∀p∈a.toList,Ok p)(hb:∀p∈b.toList,Ok p)(ha1:1<=a.size)(hb1:1<=b.size)(SA:So lt a.toList)(SB:So lt b.toList)(hb0:∀p,b[0]?= some p->∀y∈a.toList,Le lt p y)(LA:∀x∈b.toList,∀q,a[a.size-1]?= some q->Le lt x q)
  (h:∀r st',Like st st'->Rs lt a b r->Q r st'):wpS (model prog w) A E s (ZiV a b) Q st:=by
 refine wpS_bind (wpS_lift (wpAny_rule ⟨rfl,?_⟩));refine wpS_bind (ZJ (by lia) fun p hp he=>?_)
 try dsimp -zeta only
 have o0:OutL lt a b #[p] 0 1:=ZlD SB he hb0;by_cases c1:(1 == b.size)=true
 ·rw[if_pos c1];exact wpS_pure (h _ _ (Like.refl _) (o0.doneB SA c1))
 rw[if_neg c1];by_cases c2:(0+1 == a.size)=true
 ·rw[if_pos c2];exact wpS_pure (h _ _ (Like.refl _) (o0.lastL SA SB LA c2))
 rw[if_neg c2];have n1:1<b.size:=by
  have : ¬ 1=b.size:=fun e=>c1 (by simp[<- e]);lia
 have n2:1<a.size:=by
  have : ¬ 1=a.size:=fun e=>c2 (by simp[<- e]);lia
 refine wpS_bind (wpS_get ?_);refine wpS_bind (wpS_mono (wpS_forRange (I:=fun x c st'=>Like st st'/\∃out ia ib g,c=(none,out,ia,ib,g)/\OutL lt a b out ia ib/\ia+1<a.size/\ib<b.size/\x+1<=ia+ib)
  (Q:=fun c st'=>Like st st'/\∃r out ia ib g,c=(some r,out,ia,ib,g)/\Rs lt a b r) ?_ ?_ ⟨Like.refl _,_,0,1,_,rfl,o0,by lia,by lia,by lia⟩) ?_)
 ·rintro x c st1 _ hx ⟨lk,out,ia,ib,g,rfl,ho,hia,hib,hxx⟩
  try dsimp -zeta only
  refine wpS_bind (wpS_mono (wpS_forRange (I:=fun y c st'=>Like st st'/\∃out ia ib ac bc,c=(none,out,ia,ib,ac,bc)/\OutL lt a b out ia ib/\ia+1<a.size/\ib<b.size/\x+1+(if y=0 then 0 else 1)<=ia+ib)
   (Q:=fun c st'=>Like st st'/\((∃r out ia ib ac bc,c=(some r,out,ia,ib,ac,bc)/\Rs lt a b r)\/∃out ia ib ac bc,c=(none,out,ia,ib,ac,bc)/\OutL lt a b out ia ib/\ia+1<a.size/\ib<b.size/\x+2<=ia+ib)) ?_ ?_ ⟨lk,out,ia,ib,0,0,rfl,ho,hia,hib,by simp;lia⟩) ?_)
  ·rintro y c st2 _ hy ⟨lk2,out,ia,ib,ac,bc,rfl,ho,hia,hib,hxx⟩;dsimp only;have hxx2:x+1<=ia+ib:=by split at hxx <;> lia
   refine wpS_bind (ZJ (by lia) fun p hp ep=>?_);refine wpS_bind (ZJ (by lia) fun q hq eq=>?_);refine wpS_bind (ZdA hc (lk2.kind.trans hk) (hb p hp) (ha q hq) ?_);cases hbw:lt p q with
   | true =>
    try dsimp -zeta only
    rw[if_pos rfl];refine wpS_bind (ZJ (by lia) fun p2 hp2 ep2=>?_);have o1:=ho.pushB SB ep2 (by rw[Zar ep2 ep];exact Zfp o SA eq (o.le_of hbw));by_cases d1:(ib+1 == b.size)=true
    ·rw[if_pos d1];exact wpS_pure ⟨lk2,.inl ⟨_,_,_,_,_,_,rfl,(o1.doneB SA d1)⟩⟩
    rw[if_neg d1];have m1:ib+1<b.size:=by
     have : ¬ ib+1=b.size:=fun e=>d1 (by simp[<- e]);lia
    by_cases d2:bc+1>=g
    ·rw[if_pos d2];exact wpS_pure ⟨lk2,.inr ⟨_,_,_,_,_,rfl,o1,hia,m1,by lia⟩⟩
    ·rw[if_neg d2];exact wpS_pure ⟨lk2,_,_,_,_,_,rfl,o1,hia,m1,by rw[if_neg (by lia)];lia⟩
   | false =>
    try dsimp -zeta only
    rw[if_neg Bool.false_ne_true];refine wpS_bind (ZJ (by lia) fun p2 hp2 ep2=>?_);have o1:=ho.pushA SA ep2 (by rw[Zar ep2 eq];exact Zfp o SB ep hbw);by_cases d1:(ia+1+1 == a.size)=true
    ·rw[if_pos d1];exact wpS_pure ⟨lk2,.inl ⟨_,_,_,_,_,_,rfl,(o1.lastL SA SB LA d1)⟩⟩
    rw[if_neg d1];have m1:ia+1+1<a.size:=by
     have : ¬ ia+1+1=a.size:=fun e=>d1 (by simp[<- e]);lia
    by_cases d2:ac+1>=g
    ·rw[if_pos d2];exact wpS_pure ⟨lk2,.inr ⟨_,_,_,_,_,rfl,o1,m1,hib,by lia⟩⟩
    ·rw[if_neg d2];exact wpS_pure ⟨lk2,_,_,_,_,_,rfl,o1,m1,hib,by rw[if_neg (by lia)];lia⟩
  ·rintro c st2 ⟨lk2,out,ia,ib,ac,bc,rfl,ho,hia,hib,hxx⟩;refine⟨lk2,.inr ⟨_,_,_,_,_,rfl,ho,hia,hib,?_⟩⟩;rw[if_neg (by lia)] at hxx;lia
  ·rintro c st2 ⟨lk2,⟨r,out,ia,ib,ac,bc,rfl,hr⟩|⟨out,ia,ib,ac,bc,rfl,ho,hia,hib,hxx⟩⟩
   ·exact wpS_pure ⟨lk2,_,_,_,_,_,rfl,hr⟩
   try dsimp -zeta only
   refine wpS_bind (wpS_lift (wpAny_rule ⟨rfl,?_⟩))
   try dsimp -zeta only
   refine wpS_bind (wpS_mono (wpS_forRange (I:=fun y c st'=>Like st st'/\∃out ia ib g ac bc,c=(none,out,ia,ib,g,ac,bc)/\OutL lt a b out ia ib/\ia+1<a.size/\ib<b.size/\x+2<=ia+ib)
    (Q:=fun c st'=>Like st st'/\((∃r out ia ib g ac bc,c=(some r,out,ia,ib,g,ac,bc)/\Rs lt a b r)\/∃out ia ib g ac bc,c=(none,out,ia,ib,g,ac,bc)/\OutL lt a b out ia ib/\ia+1<a.size/\ib<b.size/\x+2<=ia+ib)) ?_ ?_ ⟨lk2,out,ia,ib,_,_,_,rfl,ho,hia,hib,hxx⟩) ?_)
   ·rintro y c st3 _ hy ⟨lk3,out,ia,ib,g3,ac,bc,rfl,ho,hia,hib,hxx⟩;dsimp only;refine wpS_mono (Q:=LoP lt a b st x) ?_ (fun r st' h=>by cases r <;> exact h)
    have loq:∀{st4},Like st st4->LoQ lt a b st4 (ia+ib) (LoP lt a b st x):=fun lk4=>⟨fun r out ia ib g ac bc hr=>⟨lk4,.inl ⟨r,out,ia,ib,g,ac,bc,rfl,hr⟩⟩,fun out ia ib g ac bc ho h1 h2 hN=>⟨⟨lk4,.inr ⟨out,ia,ib,g,ac,bc,rfl,ho,h1,h2,by lia⟩⟩,⟨lk4,out,ia,ib,g,ac,bc,rfl,ho,h1,h2,by lia⟩⟩⟩;by_cases g1:g3 > 1
    ·rw[if_pos g1];refine wpS_bind (wpS_modify ?_);have lk4:=lk3.trans (Za1 st3 (g3-1));refine wpS_bind (ZJ (by lia) fun p0 h0 e0=>?_);refine wpS_bind (ZaF o hc (lk4.kind.trans hk) (hb p0 h0) ha (by lia) (by lia) (Zfw SA _ _) fun k hk1 F1 F2=>?_)
     try dsimp -zeta only
     by_cases k0:k > 0
     ·rw[if_pos k0];have o1:=ho.extA SA (k:=k) (by lia) (fun x hx=>Zfp o SB e0 (Zlw F1 x hx));by_cases c1:(ia+k+1 == a.size)=true
      ·rw[if_pos c1];exact wpS_pure ⟨lk4,.inl ⟨_,_,_,_,_,_,_,rfl,(o1.lastL SA SB LA c1)⟩⟩
      rw[if_neg c1];by_cases c2:(ia+k == a.size)=true
      ·rw[if_pos c2];exact wpS_pure ⟨lk4,.inl ⟨_,_,_,_,_,_,_,rfl,(o1.doneA SB c2)⟩⟩
      rw[if_neg c2];have n1:ia+k+1<a.size:=by
       have h1 : ¬ ia+k+1=a.size:=fun e=>c1 (by simp[<- e]);have h2 : ¬ ia+k=a.size:=fun e=>c2 (by simp[<- e]);lia
      refine ZgE o hc (lk4.kind.trans hk) ha hb SA SB LA (N:=ia+ib) (loq lk4) o1 n1 hib (by lia) (fun p e=>by rw[Zar e e0];exact Zlx F2 o) ?_;exact fun _ _=>rfl
     ·rw[if_neg k0];refine ZgE o hc (lk4.kind.trans hk) ha hb SA SB LA (N:=ia+ib) (loq lk4) ho hia hib (Nat.le_refl _) (fun p e=>by rw[Zar e e0];exact Zlx (k:=0) (fun i _ hi=>F2 i (by lia) hi) o) ?_;exact fun _ _=>rfl
    ·rw[if_neg g1];refine wpS_bind (wpS_modify ?_);have lk4:=lk3.trans (Za1 st3 g3);refine wpS_bind (ZJ (by lia) fun p0 h0 e0=>?_);refine wpS_bind (ZaF o hc (lk4.kind.trans hk) (hb p0 h0) ha (by lia) (by lia) (Zfw SA _ _) fun k hk1 F1 F2=>?_)
     try dsimp -zeta only
     by_cases k0:k > 0
     ·rw[if_pos k0];have o1:=ho.extA SA (k:=k) (by lia) (fun x hx=>Zfp o SB e0 (Zlw F1 x hx));by_cases c1:(ia+k+1 == a.size)=true
      ·rw[if_pos c1];exact wpS_pure ⟨lk4,.inl ⟨_,_,_,_,_,_,_,rfl,(o1.lastL SA SB LA c1)⟩⟩
      rw[if_neg c1];by_cases c2:(ia+k == a.size)=true
      ·rw[if_pos c2];exact wpS_pure ⟨lk4,.inl ⟨_,_,_,_,_,_,_,rfl,(o1.doneA SB c2)⟩⟩
      rw[if_neg c2];have n1:ia+k+1<a.size:=by
       have h1 : ¬ ia+k+1=a.size:=fun e=>c1 (by simp[<- e]);have h2 : ¬ ia+k=a.size:=fun e=>c2 (by simp[<- e]);lia
      refine ZgE o hc (lk4.kind.trans hk) ha hb SA SB LA (N:=ia+ib) (loq lk4) o1 n1 hib (by lia) (fun p e=>by rw[Zar e e0];exact Zlx F2 o) ?_;exact fun _ _=>rfl
     ·rw[if_neg k0];refine ZgE o hc (lk4.kind.trans hk) ha hb SA SB LA (N:=ia+ib) (loq lk4) ho hia hib (Nat.le_refl _) (fun p e=>by rw[Zar e e0];exact Zlx (k:=0) (fun i _ hi=>F2 i (by lia) hi) o) ?_;exact fun _ _=>rfl
   ·rintro c st3 ⟨lk3,out,ia,ib,g3,ac,bc,rfl,ho,hia,hib,hxx⟩;exact⟨lk3,.inr ⟨_,_,_,_,_,_,rfl,ho,hia,hib,hxx⟩⟩
   ·rintro c st3 ⟨lk3,⟨r,out,ia,ib,g3,ac,bc,rfl,hr⟩|⟨out,ia,ib,g3,ac,bc,rfl,ho,hia,hib,hxx⟩⟩
    ·exact wpS_pure ⟨lk3,_,_,_,_,_,rfl,hr⟩
    ·try dsimp -zeta only
     refine wpS_bind (wpS_modify ?_);exact wpS_pure ⟨lk3.trans (Za1 _ _),_,_,_,_,rfl,ho,hia,hib,by lia⟩
 ·rintro c st1 ⟨lk,out,ia,ib,g,rfl,ho,hia,hib,hx⟩;exfalso;lia
 ·rintro c st1 ⟨lk,r,out,ia,ib,g,rfl,hr⟩;exact wpS_pure (h r st1 lk hr)
end
section
variable{lt:Keyed->Keyed->Bool}{a b out:Array Keyed}{na nb k:Nat}{p q:Keyed}
structure OutHL(lt:Keyed->Keyed->Bool)(a b out:Array Keyed)(na nb:Nat):Prop where
 perm:Zc6 a b out na nb
 sort:So lt out.toList.reverse
 hiA:∀x∈out.toList,∀y∈a.toList.take na,Le lt y x
 hiB:∀x∈out.toList,∀y∈b.toList.take nb,Le lt y x
theorem Zcp(h1:1<=na)(hp:a[na-1]?= some p):a.toList.take na=a.toList.take (na-1) ++ [p]:=by
 have:=Zey (ZiY hp);rw[Nat.sub_add_cancel h1] at this;exact this
theorem So.take{l:List Keyed}(h:So lt l)(n:Nat):So lt (l.take n):=List.Pairwise.sublist (List.take_sublist n l) h
theorem So.last(h:So lt a.toList)(h1:1<=na)(hp:a[na-1]?= some p):∀y∈a.toList.take (na-1),Le lt y p:=fun y hy=>by
 have:=h.take na;rw[Zcp h1 hp] at this;exact(List.pairwise_append.mp this).2.2 y hy p (List.mem_singleton.mpr rfl)
theorem Zff(o:Swo lt)(h:So lt a.toList)(h1:1<=na)(hp:a[na-1]?= some p){x:Keyed}(hx:Le lt p x):∀y∈a.toList.take na,Le lt y x:=fun y hy=>by
 rw[Zcp h1 hp] at hy;rcases List.mem_append.mp hy with hy|hy
 ·exact o.le_trans (h.last h1 hp y hy) hx
 ·rw[List.mem_singleton.mp hy];exact hx
theorem Zes{l:List Keyed}{i j:Nat}(h:i<=j){y:Keyed}(hy:y∈l.take i):y∈l.take j:=by
 rw[show i=min i j by lia,<- List.take_take] at hy;exact List.mem_of_mem_take hy
theorem ZbM{l:List Keyed}{n:Nat}{y:Keyed}(h:y∈l.take n):∃i,i<n/\l[i]?= some y:=by
 obtain⟨i,hi⟩:=List.mem_iff_getElem?.mp h;have hik:i<n:=by
  have:=(List.getElem?_eq_some_iff.mp hi).1;rw[List.length_take] at this;lia
 rw[List.getElem?_take_of_lt hik] at hi;exact⟨i,hik,hi⟩
theorem ZbQ{i j:Nat}{x:Keyed}(h:x∈(a.extract i j).toList):∃m,i<=m/\m<j/\a[m]?= some x:=by
 rw[Array.toList_extract,List.extract_eq_drop_take] at h;obtain⟨m,hm,e⟩:=ZbM h;rw[List.getElem?_drop] at e;exact⟨i+m,by lia,by lia,by rw[<- Array.getElem?_toList];exact e⟩
theorem ZkZ(F:∀i,k<=i->i<na->BV lt false p a 0 i=false)(o:Swo lt):∀x∈(a.extract k na).toList,Le lt p x:=fun x hx=>by
 obtain⟨m,h1,h2,e⟩:=ZbQ hx;have h3:=F m h1 h2;unfold BV at h3;rw[Nat.zero_add,e] at h3;have h4:(!lt p x)=false:=h3;exact o.le_of (by simpa using h4)
theorem ZgG(F:∀i,i<k->BV lt false p a 0 i=true):∀y∈a.toList.take k,Le lt y p:=fun y hy=>by
 obtain⟨i,hi,e⟩:=ZbM hy;have h3:=F i hi;unfold BV at h3;rw[Nat.zero_add,<- Array.getElem?_toList,e] at h3;have h4:(!lt p y)=true:=h3;show lt p y=false
 simpa using h4
theorem ZlC(F:∀i,k<=i->i<nb->BV lt true q b 0 i=false):∀x∈(b.extract k nb).toList,Le lt q x:=fun x hx=>by
 obtain⟨m,h1,h2,e⟩:=ZbQ hx;have h3:=F m h1 h2;unfold BV at h3;rw[Nat.zero_add,e] at h3;exact h3
theorem ZjQ(F:∀i,i<k->BV lt true q b 0 i=true)(o:Swo lt):∀y∈b.toList.take k,Le lt y q:=fun y hy=>by
 obtain⟨i,hi,e⟩:=ZbM hy;have h3:=F i hi;unfold BV at h3;rw[Nat.zero_add,<- Array.getElem?_toList,e] at h3;exact o.le_of h3
theorem Zgm(h:So lt out.toList.reverse)(hp:∀x∈out.toList,Le lt p x):So lt (out.push p).toList.reverse:=by
 rw[Array.toList_push,List.reverse_append];exact List.pairwise_cons.mpr ⟨fun x hx=>hp x (List.mem_reverse.mp hx),h⟩
theorem OutHL.pushA(h:OutHL lt a b out na nb)(SA:So lt a.toList)(h1:1<=na)(hp:a[na-1]?= some p)(hb:∀y∈b.toList.take nb,Le lt y p):OutHL lt a b (out.push p) (na-1) nb:=by
 have hm:p∈a.toList.take na:=by rw[Zcp h1 hp];exact List.mem_append_right _ (List.mem_singleton.mpr rfl)
 refine⟨h.perm.pushA h1 hp,Zgm h.sort fun x hx=>h.hiA x hx p hm,fun x hx y hy=>?_,fun x hx y hy=>?_⟩
 ·rcases mem_push hx with hx|rfl
  ·exact h.hiA x hx y (Zes (by lia) hy)
  ·exact SA.last h1 hp y hy
 ·rcases mem_push hx with hx|rfl
  ·exact h.hiB x hx y hy
  ·exact hb y hy
theorem OutHL.pushB(h:OutHL lt a b out na nb)(SB:So lt b.toList)(h1:1<=nb)(hp:b[nb-1]?= some p)(ha:∀y∈a.toList.take na,Le lt y p):OutHL lt a b (out.push p) na (nb-1):=by
 have hm:p∈b.toList.take nb:=by rw[Zcp h1 hp];exact List.mem_append_right _ (List.mem_singleton.mpr rfl)
 refine⟨h.perm.pushB h1 hp,Zgm h.sort fun x hx=>h.hiB x hx p hm,fun x hx y hy=>?_,fun x hx y hy=>?_⟩
 ·rcases mem_push hx with hx|rfl
  ·exact h.hiA x hx y hy
  ·exact ha y hy
 ·rcases mem_push hx with hx|rfl
  ·exact h.hiB x hx y (Zes (by lia) hy)
  ·exact SB.last h1 hp y hy
theorem ZjL(h:So lt a.toList)(i j:Nat):So lt (a.extract i j).toList:=by
 rw[Array.toList_extract,List.extract_eq_drop_take];exact(h.drop i).take _
theorem Zhy{i j:Nat}{x:Keyed}(h:x∈(a.extract i j).toList):x∈a.toList.take j:=by
 obtain⟨m,h1,h2,e⟩:=ZbQ h;rw[<- Array.getElem?_toList] at e;refine List.mem_iff_getElem?.mpr ⟨m,?_⟩;rw[List.getElem?_take_of_lt h2];exact e
theorem Zed(h:So lt a.toList){i j:Nat}{x y:Keyed}(hy:y∈a.toList.take i)(hx:x∈(a.extract i j).toList):Le lt y x:=by
 obtain⟨m,h1,h2,e⟩:=ZbQ hx;obtain⟨l,hl,e2⟩:=ZbM hy;rw[Array.getElem?_toList] at e2;exact Zfw h 0 (m+1) l m _ _ (Nat.zero_le _) (by lia) (by lia) e2 e
theorem OutHL.extA(h:OutHL lt a b out na nb)(SA:So lt a.toList)(hk:k<=na)(hb:∀x∈(a.extract k na).toList,∀y∈b.toList.take nb,Le lt y x):OutHL lt a b (out++(a.extract k na).reverse) k nb:=by
 have hm:∀x,x∈(out++(a.extract k na).reverse).toList->x∈out.toList\/x∈(a.extract k na).toList:=fun x hx=>by
  rw[Array.toList_append,Array.toList_reverse] at hx;rcases List.mem_append.mp hx with hx|hx
  ·exact .inl hx
  ·exact .inr (List.mem_reverse.mp hx)
 refine⟨h.perm.extA hk,?_,fun x hx y hy=>?_,fun x hx y hy=>?_⟩
 ·rw[Array.toList_append,Array.toList_reverse,List.reverse_append,List.reverse_reverse];exact List.pairwise_append.mpr ⟨ZjL SA _ _,h.sort,fun x hx y hy=>h.hiA y (List.mem_reverse.mp hy) x (Zhy hx)⟩
 ·rcases hm x hx with hx|hx
  ·exact h.hiA x hx y (Zes (by lia) hy)
  ·exact Zed SA hy hx
 ·rcases hm x hx with hx|hx
  ·exact h.hiB x hx y hy
  ·exact hb x hx y hy
theorem OutHL.extB(h:OutHL lt a b out na nb)(SB:So lt b.toList)(hk:k<=nb)(ha:∀x∈(b.extract k nb).toList,∀y∈a.toList.take na,Le lt y x):OutHL lt a b (out++(b.extract k nb).reverse) na k:=by
 have hm:∀x,x∈(out++(b.extract k nb).reverse).toList->x∈out.toList\/x∈(b.extract k nb).toList:=fun x hx=>by
  rw[Array.toList_append,Array.toList_reverse] at hx;rcases List.mem_append.mp hx with hx|hx
  ·exact .inl hx
  ·exact .inr (List.mem_reverse.mp hx)
 refine⟨h.perm.extB hk,?_,fun x hx y hy=>?_,fun x hx y hy=>?_⟩
 ·rw[Array.toList_append,Array.toList_reverse,List.reverse_append,List.reverse_reverse];exact List.pairwise_append.mpr ⟨ZjL SB _ _,h.sort,fun x hx y hy=>h.hiB y (List.mem_reverse.mp hy) x (Zhy hx)⟩
 ·rcases hm x hx with hx|hx
  ·exact h.hiA x hx y hy
  ·exact ha x hx y hy
 ·rcases hm x hx with hx|hx
  ·exact h.hiB x hx y (Zes (by lia) hy)
  ·exact Zed SB hy hx
theorem OutHL.doneA(h:OutHL lt a b out na nb)(SB:So lt b.toList)(e:(na == 0)=true):Rs lt a b (a.extract 0 na++b.extract 0 nb++out.reverse):=by
 refine⟨h.perm.done,?_⟩;rw[Array.toList_append,Array.toList_append,ex0,ex0,Array.toList_reverse,eq_of_beq e,List.take_zero,List.nil_append];exact List.pairwise_append.mpr ⟨SB.take nb,h.sort,fun x hx y hy=>h.hiB y (List.mem_reverse.mp hy) x hx⟩
theorem OutHL.doneB(h:OutHL lt a b out na nb)(SA:So lt a.toList)(e:(nb == 0)=true):Rs lt a b (a.extract 0 na++b.extract 0 nb++out.reverse):=by
 refine⟨h.perm.done,?_⟩;rw[Array.toList_append,Array.toList_append,ex0,ex0,Array.toList_reverse,eq_of_beq e,List.take_zero,List.append_nil];exact List.pairwise_append.mpr ⟨SA.take na,h.sort,fun x hx y hy=>h.hiA y (List.mem_reverse.mp hy) x hx⟩
theorem OutHL.firstL(h:OutHL lt a b out na nb)(SA:So lt a.toList)(SB:So lt b.toList)(hb0:∀p,b[0]?= some p->∀y∈a.toList,Le lt p y)(e:(nb == 1)=true):Rs lt a b (b.extract 0 nb++a.extract 0 na++out.reverse):=by
 refine⟨h.perm.first,?_⟩
 rw[Array.toList_append,Array.toList_append,ex0,ex0,Array.toList_reverse];refine List.pairwise_append.mpr ⟨List.pairwise_append.mpr ⟨SB.take nb,SA.take na,fun x hx y hy=>?_⟩,h.sort,fun x hx y hy=>?_⟩
 ·obtain⟨i,hi,e2⟩:=ZbM hx;rw[eq_of_beq e] at hi;obtain rfl:i=0:=by lia
  rw[Array.getElem?_toList] at e2;exact hb0 x e2 y (List.mem_of_mem_take hy)
 ·rcases List.mem_append.mp hx with hx|hx
  ·exact h.hiB y (List.mem_reverse.mp hy) x hx
  ·exact h.hiA y (List.mem_reverse.mp hy) x hx
theorem ZkS(SA:So lt a.toList)(h1:1<=a.size)(hp:a[a.size-1]?= some p)(LA:∀x∈b.toList,∀q,a[a.size-1]?= some q->Le lt x q):OutHL lt a b #[p] (a.size-1) b.size:=by
 refine⟨ZlL h1 hp,List.pairwise_singleton _ _,fun x hx y hy=>?_,fun x hx y hy=>?_⟩
 ·obtain rfl:x=p:=by simpa using hx
  exact SA.last h1 hp y hy
 ·obtain rfl:x=p:=by simpa using hx
  exact LA y (List.mem_of_mem_take hy) x hp
end
section
variable{prog:Program}{w:World}{A:Around}{E:Value->Shared->Prop}{s:Shared}{κ : SortKind}{Ok:Keyed->Prop}{st:SortSt}{lt:Keyed->Keyed->Bool}
abbrev HiT:=Option (Array Keyed)×Nat×Nat×Array Keyed×Nat×Nat×Nat
def hi3(a b:Array Keyed)(na nb:Nat)(out:Array Keyed)(g ac bc:Nat):StateT SortSt Sem (ForInStep HiT) :=
 elem' a (na-1) >>= fun p=>if(na-1 == 0)=true then pure (.done (some (a.extract 0 (na-1)++b.extract 0 nb++(out.push p).reverse),na-1,nb,out.push p,g,ac,bc))
  else if(decide (ac<7)&&decide (bc<7))=true then pure (.done (none,na-1,nb,out.push p,g,ac,bc)) else pure (.yield (none,na-1,nb,out.push p,g,ac,bc))
structure HiQ(lt:Keyed->Keyed->Bool)(a b:Array Keyed)(st:SortSt)(N:Nat)(Q:ForInStep HiT->SortSt->Prop):Prop where
 R:∀r na nb out g ac bc,Rs lt a b r->Q (.done (some r,na,nb,out,g,ac,bc)) st
 N:∀na nb out g ac bc,OutHL lt a b out na nb->1<=na->na<=a.size->2<=nb->nb<=b.size->na+nb<=N->Q (.done (none,na,nb,out,g,ac,bc)) st/\Q (.yield (none,na,nb,out,g,ac,bc)) st
def HiP(lt:Keyed->Keyed->Bool)(a b:Array Keyed)(st:SortSt)(x:Nat):ForInStep HiT->SortSt->Prop:=fun r st'=>match r with
 | .done c=>Like st st'/\((∃r na nb out g ac bc,c=(some r,na,nb,out,g,ac,bc)/\Rs lt a b r)\/∃na nb out g ac bc,c=(none,na,nb,out,g,ac,bc)/\OutHL lt a b out na nb/\1<=na/\na<=a.size/\2<=nb/\nb<=b.size/\na+nb+x+2<=a.size+b.size)
 | .yield c=>Like st st'/\∃na nb out g ac bc,c=(none,na,nb,out,g,ac,bc)/\OutHL lt a b out na nb/\1<=na/\na<=a.size/\2<=nb/\nb<=b.size/\na+nb+x+2<=a.size+b.size
section
variable{a b out:Array Keyed}{na nb g ac bc N:Nat}{Q:ForInStep HiT->SortSt->Prop}
theorem ZjF(SA:So lt a.toList)(SB:So lt b.toList)(q:HiQ lt a b st N Q)(ho:OutHL lt a b out na nb)(h1:1<=na)(h2:na<=a.size)(h3:2<=nb)(h4:nb<=b.size)(hN:na+nb<=N)(hp:∀p,a[na-1]?= some p->∀y∈b.toList.take nb,Le lt y p) :
  wpS (model prog w) A E s (hi3 a b na nb out g ac bc) Q st:=by
 unfold hi3;refine wpS_bind (ZJ (by lia) fun p4 w4 e4=>?_);have o4:=ho.pushA SA h1 e4 (hp p4 e4);by_cases f1:(na-1 == 0)=true
 ·rw[if_pos f1];exact wpS_pure (q.R _ _ _ _ _ _ _ (o4.doneA SB f1))
 rw[if_neg f1];have n4 : ¬ na-1=0:=fun e=>f1 (by simp[e]);have z:=q.N _ _ _ g ac bc o4 (by lia) (by lia) h3 h4 (by lia);by_cases f2:(decide (ac<7)&&decide (bc<7))=true
 ·rw[if_pos f2];exact wpS_pure z.1
 ·rw[if_neg f2];exact wpS_pure z.2
theorem Zgu(o:Swo lt)(hc:Zg8 prog w A s κ Ok lt)(hk:kindOf st= κ)(ha:∀p∈a.toList,Ok p)(hb:∀p∈b.toList,Ok p)(hb0:∀p,b[0]?= some p->∀y∈a.toList,Le lt p y)(SA:So lt a.toList)(SB:So lt b.toList)(q:HiQ lt a b st N Q)(ho:OutHL lt a b out na nb)(h1:1<=na)(h2:na<=a.size)(h3:2<=nb)(h4:nb<=b.size)(hN:na+nb<=N)(hp:∀p,b[nb-1]?= some p->∀y∈a.toList.take na,Le lt y p)
  {T:Keyed->Option Nat->StateT SortSt Sem (ForInStep HiT)} (hT:∀p k,T p (some k)=if nb-1-k > 0 then(if(k == 1)=true then pure (.done (some (b.extract 0 k++a.extract 0 na++(out.push p++(b.extract k (nb-1)).reverse).reverse),na,k,out.push p++(b.extract k (nb-1)).reverse,g,ac,nb-1-k))
     else if(k == 0)=true then pure (.done (some (a.extract 0 na++b.extract 0 k++(out.push p++(b.extract k (nb-1)).reverse).reverse),na,k,out.push p++(b.extract k (nb-1)).reverse,g,ac,nb-1-k))
     else hi3 a b na k (out.push p++(b.extract k (nb-1)).reverse) g ac (nb-1-k))
    else hi3 a b na (nb-1) (out.push p) g ac (nb-1-k)) :
  wpS (model prog w) A E s (elem' b (nb-1) >>= fun p=>if(nb-1 == 1)=true then pure (.done (some (b.extract 0 (nb-1)++a.extract 0 na++(out.push p).reverse),na,nb-1,out.push p,g,ac,bc))
   else elem' a (na-1) >>= fun q=>Zfy true q b 0 (nb-1) (nb-1-1) >>= T p) Q st:=by
 refine wpS_bind (ZJ (by lia) fun p3 w3 e3=>?_);have o2:=ho.pushB SB (by lia) e3 (hp p3 e3);by_cases c3:(nb-1 == 1)=true
 ·rw[if_pos c3];exact wpS_pure (q.R _ _ _ _ _ _ _ (o2.firstL SA SB hb0 c3))
 rw[if_neg c3];have n3 : ¬ nb-1=1:=fun e=>c3 (by simp[e]);refine wpS_bind (ZJ (by lia) fun q3 v3 u3=>?_);refine wpS_bind (ZaF o hc hk (ha q3 v3) hb (by lia) (by lia) (Zfw SB _ _) fun k2 hk2 G1 G2=>?_);rw[hT];by_cases k20:nb-1-k2 > 0
 ·rw[if_pos k20];have o3:=o2.extB SB (k:=k2) (by lia) (fun x hx=>Zff o SA (by lia) u3 (ZlC G2 x hx));by_cases c4:(k2 == 1)=true
  ·rw[if_pos c4];exact wpS_pure (q.R _ _ _ _ _ _ _ (o3.firstL SA SB hb0 c4))
  rw[if_neg c4];by_cases c5:(k2 == 0)=true
  ·rw[if_pos c5];exact wpS_pure (q.R _ _ _ _ _ _ _ (o3.doneB SA c5))
  rw[if_neg c5];have n5 : ¬ k2=1:=fun e=>c4 (by simp[e]);have n6 : ¬ k2=0:=fun e=>c5 (by simp[e]);exact ZjF SA SB q o3 h1 h2 (by lia) (by lia) (by lia) fun p e=>by rw[Zar e u3];exact ZjQ G1 o
 ·rw[if_neg k20];exact ZjF SA SB q o2 h1 h2 (by lia) (by lia) (by lia) fun p e=>by rw[Zar e u3];exact ZjQ (fun i hi=>G1 i (by lia)) o
end
set_option maxHeartbeats 2000000 in
theorem Zfg{a b:Array Keyed}{Q:Array Keyed->SortSt->Prop}(o:Swo lt)(hc:Zg8 prog w A s κ Ok lt)(hk:kindOf st= κ)(ha:∀p∈a.toList,Ok p)(hb:∀p∈b.toList,Ok p)(ha1:1<=a.size)(hb1:1<=b.size)(SA:So lt a.toList)(SB:So lt b.toList)(hb0:∀p,b[0]?= some p->∀y∈a.toList,Le lt p y)(LA:∀x∈b.toList,∀q,a[a.size-1]?= some q->Le lt x q)
  (h:∀r st',Like st st'->Rs lt a b r->Q r st'):wpS (model prog w) A E s (Zi5 a b) Q st:=by
 refine wpS_bind (wpS_lift (wpAny_rule ⟨rfl,?_⟩));refine wpS_bind (ZJ (by lia) fun p hp he=>?_)
 try dsimp -zeta only
 have o0:OutHL lt a b #[p] (a.size-1) b.size:=ZkS SA ha1 he LA;by_cases c1:(a.size-1 == 0)=true
 ·rw[if_pos c1];exact wpS_pure (h _ _ (Like.refl _) (o0.doneA SB c1))
 rw[if_neg c1];by_cases c2:(b.size == 1)=true
 ·rw[if_pos c2];exact wpS_pure (h _ _ (Like.refl _) (o0.firstL SA SB hb0 c2))
 rw[if_neg c2];have n1:1<b.size:=by
  have : ¬ b.size=1:=fun e=>c2 (by simp[e]);lia
 have n2:1<a.size:=by
  have : ¬ a.size-1=0:=fun e=>c1 (by simp[e]);lia
 refine wpS_bind (wpS_get ?_);refine wpS_bind (wpS_mono (wpS_forRange (I:=fun x c st'=>Like st st'/\∃na nb out g,c=(none,na,nb,out,g)/\OutHL lt a b out na nb/\1<=na/\na<=a.size/\2<=nb/\nb<=b.size/\na+nb+x+1<=a.size+b.size)
  (Q:=fun c st'=>Like st st'/\∃r na nb out g,c=(some r,na,nb,out,g)/\Rs lt a b r) ?_ ?_ ⟨Like.refl _,_,_,_,_,rfl,o0,by lia,by lia,by lia,by lia,by lia⟩) ?_)
 ·rintro x c st1 _ hx ⟨lk,na,nb,out,g,rfl,ho,h1,h2,h3,h4,hxx⟩
  try dsimp -zeta only
  refine wpS_bind (wpS_mono (wpS_forRange (I:=fun y c st'=>Like st st'/\∃na nb out ac bc,c=(none,na,nb,out,ac,bc)/\OutHL lt a b out na nb/\1<=na/\na<=a.size/\2<=nb/\nb<=b.size/\na+nb+x+1+(if y=0 then 0 else 1)<=a.size+b.size)
   (Q:=fun c st'=>Like st st'/\((∃r na nb out ac bc,c=(some r,na,nb,out,ac,bc)/\Rs lt a b r)\/∃na nb out ac bc,c=(none,na,nb,out,ac,bc)/\OutHL lt a b out na nb/\1<=na/\na<=a.size/\2<=nb/\nb<=b.size/\na+nb+x+2<=a.size+b.size)) ?_ ?_ ⟨lk,na,nb,out,0,0,rfl,ho,h1,h2,h3,h4,by simp;lia⟩) ?_)
  ·rintro y c st2 _ hy ⟨lk2,na,nb,out,ac,bc,rfl,ho,h1,h2,h3,h4,hxx⟩;have hxx2:na+nb+x+1<=a.size+b.size:=by split at hxx <;> lia
   try dsimp only
   refine wpS_bind (ZJ (by lia) fun p hp ep=>?_);refine wpS_bind (ZJ (by lia) fun q hq eq=>?_);refine wpS_bind (ZdA hc (lk2.kind.trans hk) (hb p hp) (ha q hq) ?_);cases hbw:lt p q with
   | true =>
    try dsimp only
    rw[if_pos rfl];refine wpS_bind (ZJ (by lia) fun p2 hp2 ep2=>?_);have o1:=ho.pushA SA h1 ep2 (by rw[Zar ep2 eq];exact Zff o SB (by lia) ep (o.le_of hbw));by_cases d1:(na-1 == 0)=true
    ·rw[if_pos d1];exact wpS_pure ⟨lk2,.inl ⟨_,_,_,_,_,_,rfl,(o1.doneA SB d1)⟩⟩
    rw[if_neg d1];have m1 : ¬ na-1=0:=fun e=>d1 (by simp[e]);by_cases d2:ac+1>=g
    ·rw[if_pos d2];exact wpS_pure ⟨lk2,.inr ⟨_,_,_,_,_,rfl,o1,by lia,by lia,h3,h4,by lia⟩⟩
    ·rw[if_neg d2];exact wpS_pure ⟨lk2,_,_,_,_,_,rfl,o1,by lia,by lia,h3,h4,by rw[if_neg (by lia)];lia⟩
   | false =>
    try dsimp only
    rw[if_neg Bool.false_ne_true];refine wpS_bind (ZJ (by lia) fun p2 hp2 ep2=>?_);have o1:=ho.pushB SB (by lia) ep2 (by rw[Zar ep2 ep];exact Zff o SA h1 eq hbw);by_cases d1:(nb-1 == 1)=true
    ·rw[if_pos d1];exact wpS_pure ⟨lk2,.inl ⟨_,_,_,_,_,_,rfl,(o1.firstL SA SB hb0 d1)⟩⟩
    rw[if_neg d1];have m1 : ¬ nb-1=1:=fun e=>d1 (by simp[e]);by_cases d2:bc+1>=g
    ·rw[if_pos d2];exact wpS_pure ⟨lk2,.inr ⟨_,_,_,_,_,rfl,o1,h1,h2,by lia,by lia,by lia⟩⟩
    ·rw[if_neg d2];exact wpS_pure ⟨lk2,_,_,_,_,_,rfl,o1,h1,h2,by lia,by lia,by rw[if_neg (by lia)];lia⟩
  ·rintro c st2 ⟨lk2,na,nb,out,ac,bc,rfl,ho,h1,h2,h3,h4,hxx⟩;refine⟨lk2,.inr ⟨_,_,_,_,_,rfl,ho,h1,h2,h3,h4,?_⟩⟩;rw[if_neg (by lia)] at hxx;lia
  ·rintro c st2 ⟨lk2,⟨r,na,nb,out,ac,bc,rfl,hr⟩|⟨na,nb,out,ac,bc,rfl,ho,h1,h2,h3,h4,hxx⟩⟩
   ·exact wpS_pure ⟨lk2,_,_,_,_,_,rfl,hr⟩
   try dsimp -zeta only
   refine wpS_bind (wpS_lift (wpAny_rule ⟨rfl,?_⟩))
   try dsimp -zeta only
   refine wpS_bind (wpS_mono (wpS_forRange (I:=fun y c st'=>Like st st'/\∃na nb out g ac bc,c=(none,na,nb,out,g,ac,bc)/\OutHL lt a b out na nb/\1<=na/\na<=a.size/\2<=nb/\nb<=b.size/\na+nb+x+2<=a.size+b.size)
    (Q:=fun c st'=>Like st st'/\((∃r na nb out g ac bc,c=(some r,na,nb,out,g,ac,bc)/\Rs lt a b r)\/∃na nb out g ac bc,c=(none,na,nb,out,g,ac,bc)/\OutHL lt a b out na nb/\1<=na/\na<=a.size/\2<=nb/\nb<=b.size/\na+nb+x+2<=a.size+b.size)) ?_ ?_ ⟨lk2,na,nb,out,_,_,_,rfl,ho,h1,h2,h3,h4,hxx⟩) ?_)
   ·rintro y c st3 _ hy ⟨lk3,na,nb,out,g3,ac,bc,rfl,ho,h1,h2,h3,h4,hxx⟩
    try dsimp only
    refine wpS_mono (Q:=HiP lt a b st x) ?_ (fun r st' h=>by cases r <;> exact h)
    have hiq:∀{st4},Like st st4->HiQ lt a b st4 (na+nb) (HiP lt a b st x):=fun lk4=>⟨fun r na nb out g ac bc hr=>⟨lk4,.inl ⟨r,na,nb,out,g,ac,bc,rfl,hr⟩⟩,fun na nb out g ac bc ho h1 h2 h3 h4 hN=>⟨⟨lk4,.inr ⟨na,nb,out,g,ac,bc,rfl,ho,h1,h2,h3,h4,by lia⟩⟩,⟨lk4,na,nb,out,g,ac,bc,rfl,ho,h1,h2,h3,h4,by lia⟩⟩⟩;by_cases g1:g3 > 1
    ·rw[if_pos g1];refine wpS_bind (wpS_modify ?_);have lk4:=lk3.trans (Za1 st3 (g3-1));refine wpS_bind (ZJ (by lia) fun p0 w0 e0=>?_);refine wpS_bind (ZaF o hc (lk4.kind.trans hk) (hb p0 w0) ha (by lia) (by lia) (Zfw SA _ _) fun k hk1 F1 F2=>?_);dsimp only;by_cases k0:na-k > 0
     ·rw[if_pos k0];have o1:=ho.extA SA (k:=k) (by lia) (fun x hx=>Zff o SB (by lia) e0 (ZkZ F2 o x hx));by_cases c1:(k == 0)=true
      ·rw[if_pos c1];exact wpS_pure ⟨lk4,.inl ⟨_,_,_,_,_,_,_,rfl,(o1.doneA SB c1)⟩⟩
      rw[if_neg c1];have n1 : ¬ k=0:=fun e=>c1 (by simp[e]);refine Zgu o hc (lk4.kind.trans hk) ha hb hb0 SA SB (N:=na+nb) (hiq lk4) o1 (by lia) (by lia) h3 h4 (by lia) (fun p e=>by rw[Zar e e0];exact ZgG F1) ?_;exact fun _ _=>rfl
     ·rw[if_neg k0];refine Zgu o hc (lk4.kind.trans hk) ha hb hb0 SA SB (N:=na+nb) (hiq lk4) ho h1 h2 h3 h4 (Nat.le_refl _) (fun p e=>by rw[Zar e e0];exact ZgG fun i hi=>F1 i (by lia)) ?_;exact fun _ _=>rfl
    ·rw[if_neg g1];refine wpS_bind (wpS_modify ?_);have lk4:=lk3.trans (Za1 st3 g3);refine wpS_bind (ZJ (by lia) fun p0 w0 e0=>?_);refine wpS_bind (ZaF o hc (lk4.kind.trans hk) (hb p0 w0) ha (by lia) (by lia) (Zfw SA _ _) fun k hk1 F1 F2=>?_);dsimp only;by_cases k0:na-k > 0
     ·rw[if_pos k0];have o1:=ho.extA SA (k:=k) (by lia) (fun x hx=>Zff o SB (by lia) e0 (ZkZ F2 o x hx));by_cases c1:(k == 0)=true
      ·rw[if_pos c1];exact wpS_pure ⟨lk4,.inl ⟨_,_,_,_,_,_,_,rfl,(o1.doneA SB c1)⟩⟩
      rw[if_neg c1];have n1 : ¬ k=0:=fun e=>c1 (by simp[e]);refine Zgu o hc (lk4.kind.trans hk) ha hb hb0 SA SB (N:=na+nb) (hiq lk4) o1 (by lia) (by lia) h3 h4 (by lia) (fun p e=>by rw[Zar e e0];exact ZgG F1) ?_;exact fun _ _=>rfl
     ·rw[if_neg k0];refine Zgu o hc (lk4.kind.trans hk) ha hb hb0 SA SB (N:=na+nb) (hiq lk4) ho h1 h2 h3 h4 (Nat.le_refl _) (fun p e=>by rw[Zar e e0];exact ZgG fun i hi=>F1 i (by lia)) ?_;exact fun _ _=>rfl
   ·rintro c st3 ⟨lk3,na,nb,out,g3,ac,bc,rfl,ho,h1,h2,h3,h4,hxx⟩;exact⟨lk3,.inr ⟨_,_,_,_,_,_,rfl,ho,h1,h2,h3,h4,hxx⟩⟩
   ·rintro c st3 ⟨lk3,⟨r,na,nb,out,g3,ac,bc,rfl,hr⟩|⟨na,nb,out,g3,ac,bc,rfl,ho,h1,h2,h3,h4,hxx⟩⟩
    ·exact wpS_pure ⟨lk3,_,_,_,_,_,rfl,hr⟩
    ·try dsimp only
     refine wpS_bind (wpS_modify ?_);exact wpS_pure ⟨lk3.trans (Za1 _ _),_,_,_,_,rfl,ho,h1,h2,h3,h4,by lia⟩
 ·rintro c st1 ⟨lk,na,nb,out,g,rfl,ho,h1,h2,h3,h4,hx⟩;exfalso;lia
 ·rintro c st1 ⟨lk,r,na,nb,out,g,rfl,hr⟩;exact wpS_pure (h r st1 lk hr)
end
structure Pl(lo hi:Nat)(st st':SortSt):Prop where
 pm:Pm st st'
 out:∀i,i<lo\/hi<=i->(arrOf st')[i]?= (arrOf st)[i]?
theorem Pl.refl(lo hi:Nat)(st:SortSt):Pl lo hi st st:=⟨Pm.refl _,fun _ _=>rfl⟩
theorem Pl.trans{lo hi:Nat}{a b c:SortSt}(x:Pl lo hi a b)(y:Pl lo hi b c):Pl lo hi a c:=⟨x.pm.trans y.pm,fun i h=>(y.out i h).trans (x.out i h)⟩
theorem Pl.mirror{lo hi i j:Nat}(st:SortSt)(h1:lo<=i)(h2:j<=hi)(hj:j<=(arrOf st).size):Pl lo hi st (setArr st (mirror (arrOf st) i j ((j-i) / 2))):=⟨Pm.mirror st i j,fun k hk=>by
 show(PyProof.Rows.mirror (arrOf st) i j ((j-i) / 2))[k]?= _;rw[getElem?_mirror_all hj,if_neg (by lia)]⟩
theorem Pl.bubble{lo hi src dst:Nat}(st:SortSt)(h1:lo<=dst)(h2:dst<=src)(h3:src<hi)(hs:src<(arrOf st).size):Pl lo hi st (setArr st (bubble (arrOf st) src (src-dst))):=⟨Pm.bubble st src dst,fun k hk=>by
 show(PyProof.Rows.bubble (arrOf st) src (src-dst))[k]?= _;rw[getElem?_bubble hs _ (by lia),if_neg (by lia),if_neg (by lia)]⟩
section
variable{lt:Keyed->Keyed->Bool}{arr:Array Keyed}{lo hi m:Nat}{p q:Keyed}
def Dn(lt:Keyed->Keyed->Bool)(arr:Array Keyed)(i j:Nat):Prop := ∀x y p q,i<=x->x<y->y<j->arr[x]?= some p->arr[y]?= some q->Le lt q p
def Eqv(lt:Keyed->Keyed->Bool)(arr:Array Keyed)(i j:Nat):Prop := ∀x y p q,i<=x->x<j->i<=y->y<j->arr[x]?= some p->arr[y]?= some q->Le lt p q
theorem ZjE:Up lt arr lo (lo+1):=fun x y _ _ h1 h2 h3=>by lia
theorem ZkR:Dn lt arr lo (lo+1):=fun x y _ _ h1 h2 h3=>by lia
theorem Up.ext(o:Swo lt)(h:Up lt arr lo m)(hm:lo<m)(hp:arr[m-1]?= some p)(hq:arr[m]?= some q)(hle:Le lt p q):Up lt arr lo (m+1):=fun x y u v h1 h2 h3 eu ev=>by
 by_cases hy:y<m
 ·exact h x y u v h1 h2 hy eu ev
 obtain rfl:y=m:=by lia
 rw[hq] at ev;cases ev;by_cases hx:x=y-1
 ·rw[hx,hp] at eu;cases eu;exact hle
 ·exact o.le_trans (h x (y-1) u p h1 (by lia) (by lia) eu hp) hle
theorem Dn.ext(o:Swo lt)(h:Dn lt arr lo m)(hm:lo<m)(hp:arr[m-1]?= some p)(hq:arr[m]?= some q)(hle:Le lt q p):Dn lt arr lo (m+1):=fun x y u v h1 h2 h3 eu ev=>by
 by_cases hy:y<m
 ·exact h x y u v h1 h2 hy eu ev
 obtain rfl:y=m:=by lia
 rw[hq] at ev;cases ev;by_cases hx:x=y-1
 ·rw[hx,hp] at eu;cases eu;exact hle
 ·exact o.le_trans hle (h x (y-1) u p h1 (by lia) (by lia) eu hp)
theorem Dn.mirror(h:Dn lt arr lo hi)(hs:hi<=arr.size):Up lt (mirror arr lo hi ((hi-lo) / 2)) lo hi:=fun x y u v h1 h2 h3 eu ev=>by
 rw[getElem?_mirror_all hs,if_pos (by lia)] at eu ev;exact h (lo+hi-1-y) (lo+hi-1-x) v u (by lia) (by lia) (by lia) ev eu
theorem Up.mirror(h:Up lt arr lo hi)(hs:hi<=arr.size):Dn lt (mirror arr lo hi ((hi-lo) / 2)) lo hi:=fun x y u v h1 h2 h3 eu ev=>by
 rw[getElem?_mirror_all hs,if_pos (by lia)] at eu ev;exact h (lo+hi-1-y) (lo+hi-1-x) v u (by lia) (by lia) (by lia) ev eu
theorem Dn.turn(h:Dn lt arr lo hi)(he:Eqv lt arr m hi)(hm:lo<=m)(hs:hi<=arr.size):Dn lt (PyProof.Rows.mirror arr m hi ((hi-m) / 2)) lo hi:=fun x y u v h1 h2 h3 eu ev=>by
 rw[getElem?_mirror_all hs] at eu ev;by_cases hy:m<=y/\y<hi
 ·rw[if_pos hy] at ev;by_cases hx:m<=x/\x<hi
  ·rw[if_pos hx] at eu;exact he _ _ _ _ (by lia) (by lia) (by lia) (by lia) ev eu
  ·rw[if_neg hx] at eu;exact h x (m+hi-1-y) u v h1 (by lia) (by lia) eu ev
 ·rw[if_neg hy] at ev;rw[if_neg (by lia)] at eu;exact h x y u v h1 h2 h3 eu ev
end
section
variable{prog:Program}{w:World}{A:Around}{E:Value->Shared->Prop}{s:Shared}{κ : SortKind}{Ok:Keyed->Prop}{st:SortSt}{lt:Keyed->Keyed->Bool}
theorem ZaE{i j:Nat}{Q:Option Bool->SortSt->Prop}(hc:Zg8 prog w A s κ Ok lt)(hk:kindOf st= κ)(ho:∀p∈(arrOf st).toList,Ok p)(hi:i<(arrOf st).size)(hj:j<(arrOf st).size)(h:∀p q,(arrOf st)[i]?= some p->(arrOf st)[j]?= some q->Q (some (lt p q)) st):wpS (model prog w) A E s (ltAt' i j) Q st:=by
 rw[ltAt'_eq];refine wpS_bind (wpS_get ?_);refine wpS_bind (ZJ hi fun p hp e1=>wpS_bind (ZJ hj fun q hq e2=>?_));exact ZdA hc hk (ho p hp) (ho q hq) (h p q e1 e2)
theorem Zbh{i j:Nat}{Q:PUnit->SortSt->Prop}(h:Q ⟨⟩ (setArr st (mirror (arrOf st) i j ((j-i) / 2)))):wpS (model prog w) A E s (reverseSlice' i j) Q st:=by
 rw[reverseSlice'_eq];exact wpS_modify h
theorem Zhr{i j:Nat}{Q:PUnit->SortSt->Prop}(h:Q ⟨⟩ (setArr st (bubble (arrOf st) i (i-j)))):wpS (model prog w) A E s (moveDown' i j) Q st:=by
 rw[moveDown'_eq];exact wpS_modify h
theorem Zlc(o:Swo lt){arr:Array Keyed}{lo k l:Nat}{pv:Keyed}(h:Up lt arr lo (lo+k))(hs:lo+k<arr.size)(hl:l<=k)(ep:arr[lo+k]?= some pv)(h1:∀i p,i<l->arr[lo+i]?= some p->Le lt p pv)(h2:∀i p,l<=i->i<k->arr[lo+i]?= some p->lt pv p=true) :
  Up lt (bubble arr (lo+k) (lo+k-(lo+l))) lo (lo+k+1):=fun x y u v a1 a2 a3 eu ev=>by
 rw[getElem?_bubble hs _ (by lia)] at eu ev;rw[show lo+k-(lo+k-(lo+l))=lo+l by lia] at eu ev;by_cases hy:y=lo+l
 ·rw[if_pos hy,ep] at ev;cases ev;rw[if_neg (by lia),if_neg (by lia)] at eu;exact h1 (x-lo) u (by lia) (by rw[show lo+(x-lo)=x by lia];exact eu)
 rw[if_neg hy] at ev;by_cases hx:x=lo+l
 ·rw[if_pos hx,ep] at eu;cases eu;rw[if_pos (by lia)] at ev;exact o.le_of (h2 (y-1-lo) v (by lia) (by lia) (by rw[show lo+(y-1-lo)=y-1 by lia];exact ev))
 rw[if_neg hx] at eu;by_cases hy2:lo+l<y/\y<=lo+k
 ·rw[if_pos hy2] at ev;by_cases hx2:lo+l<x/\x<=lo+k
  ·rw[if_pos hx2] at eu;exact h (x-1) (y-1) u v (by lia) (by lia) (by lia) eu ev
  ·rw[if_neg hx2] at eu;exact h x (y-1) u v (by lia) (by lia) (by lia) eu ev
 ·rw[if_neg hy2] at ev;rw[if_neg (by lia)] at eu;exact h x y u v (by lia) (by lia) (by lia) eu ev
set_option maxHeartbeats 1000000 in
theorem Zf3{lo n ok:Nat}{Q:Bool->SortSt->Prop}(o:Swo lt)(hc:Zg8 prog w A s κ Ok lt)(hk:kindOf st= κ)(ho:∀p∈(arrOf st).toList,Ok p)(hn:lo+n<=(arrOf st).size)(hok:ok<=n)(hn1:1<=n)(hu:Up lt (arrOf st) lo (lo+ok))(h:∀st',Pl lo (lo+n) st st'->Up lt (arrOf st') lo (lo+n)->Q true st'):wpS (model prog w) A E s (binarySort' lo n ok) Q st:=by
 have hu0:Up lt (arrOf st) lo (lo+max ok 1):=by
  by_cases h0:ok=0
  ·rw[h0];exact ZjE
  ·rw[show max ok 1=ok by lia];exact hu
 refine wpS_bind (wpS_mono (wpS_forRange (I:=fun x c st'=>c=(none,())/\Pl lo (lo+n) st st'/\Up lt (arrOf st') lo (lo+x)) (Q:=fun c st'=>c=(none,())/\Pl lo (lo+n) st st'/\Up lt (arrOf st') lo (lo+n)) ?_ ?_ ⟨rfl,Pl.refl _ _ _,hu0⟩) ?_)
 ·rintro k c st1 hk1 hkn ⟨rfl,pl,u1⟩
  try dsimp only
  have hsz:=pl.pm.size;obtain⟨pv,epv⟩:∃pv,(arrOf st1)[lo+k]?= some pv:=⟨_,getElem?_pos _ (lo+k) (by lia)⟩;refine wpS_bind (wpS_mono (wpS_forRange (I:=fun y c st'=>st'=st1/\∃l r,c=(none,l,r)/\l<=r/\r<=k/\(∀i p,i<l->(arrOf st1)[lo+i]?= some p->Le lt p pv)/\(∀i p,r<=i->i<k->(arrOf st1)[lo+i]?= some p->lt pv p=true)/\r-l+y<=k)
   (Q:=fun c st'=>st'=st1/\∃l r,c=(none,l,r)/\l=r/\r<=k/\(∀i p,i<l->(arrOf st1)[lo+i]?= some p->Le lt p pv)/\(∀i p,r<=i->i<k->(arrOf st1)[lo+i]?= some p->lt pv p=true)) ?_ ?_ ⟨rfl,0,k,rfl,by lia,by lia,fun i p hi=>by lia,fun i p h1 h2=>by lia,by lia⟩) ?_)
  ·rintro y c st2 _ _ ⟨rfl,l,r,rfl,h1,h2,h3,h4,h5⟩
   try dsimp only
   by_cases hlr:l>=r
   ·rw[if_pos hlr];exact wpS_pure ⟨rfl,l,r,rfl,by lia,h2,h3,h4⟩
   rw[if_neg hlr];refine wpS_bind (ZaE hc (pl.pm.kind.trans hk) (pl.pm.ok ho) (by lia) (by lia) fun p q e1 e2=>?_);rw[epv] at e1;cases e1;cases hb:lt pv q with
   | true =>
    refine wpS_pure ⟨rfl,_,_,rfl,by lia,by lia,h3,fun i p hi1 hi2 ei=>?_,by lia⟩;by_cases e:i=(l+r) / 2
    ·rw[e,e2] at ei;cases ei;exact hb
    ·exact o.lt_le hb (u1 _ _ q p (by lia) (show lo+(l+r) / 2<lo+i by lia) (by lia) e2 ei)
   | false =>
    refine wpS_pure ⟨rfl,_,_,rfl,by lia,by lia,fun i p hi1 ei=>?_,h4,by lia⟩;by_cases e:i=(l+r) / 2
    ·rw[e,e2] at ei;cases ei;exact hb
    ·exact o.le_trans (u1 _ _ p q (by lia) (show lo+i<lo+(l+r) / 2 by lia) (by lia) ei e2) hb
  ·rintro c st2 ⟨rfl,l,r,rfl,h1,h2,h3,h4,h5⟩;exact⟨rfl,l,r,rfl,by lia,h2,h3,h4⟩
  ·rintro c st2 ⟨rfl,l,r,rfl,rfl,h2,h3,h4⟩
   try dsimp only
   refine wpS_bind (Zhr ?_);exact wpS_pure ⟨rfl,pl.trans (Pl.bubble st2 (by lia) (by lia) (by lia) (by lia)),Zlc o u1 (by lia) h2 epv h3 h4⟩
 ·rintro c st1 ⟨rfl,pl,u1⟩;rw[show max (max ok 1) n=n by lia] at u1;exact⟨rfl,pl,u1⟩
 ·rintro c st1 ⟨rfl,pl,u1⟩;exact wpS_pure (h st1 pl u1)
set_option maxHeartbeats 4000000 in
theorem ZgW{lo nrem:Nat}{Q:Option Nat->SortSt->Prop}(o:Swo lt)(hc:Zg8 prog w A s κ Ok lt)(hk:kindOf st= κ)(ho:∀p∈(arrOf st).toList,Ok p)(h1:1<=nrem)(hn:lo+nrem<=(arrOf st).size)(h:∀n st',1<=n->n<=nrem->Pl lo (lo+nrem) st st'->Up lt (arrOf st') lo (lo+n)->Q (some n) st'):wpS (model prog w) A E s (countRun' lo nrem) Q st:=by
 refine wpS_bind (wpS_mono (wpS_forRange (I:=fun x c st'=>st'=st/\∃n,c=(none,n)/\n=x/\Up lt (arrOf st) lo (lo+n)) (Q:=fun c st'=>st'=st/\∃n,c=(none,n)/\1<=n/\n<=nrem/\Up lt (arrOf st) lo (lo+n)/\(n=nrem\/∀p q,(arrOf st)[lo+n]?= some p->(arrOf st)[lo+n-1]?= some q->lt p q=true)) ?_ ?_ ⟨rfl,1,rfl,rfl,ZjE⟩) ?_)
 ·rintro x c st1 hx1 hx ⟨rfl,n,rfl,rfl,u1⟩
  try dsimp only
  refine wpS_bind (ZaE hc hk ho (by lia) (by lia) fun p q e1 e2=>?_);cases hb:lt p q with
  | true=>exact wpS_pure ⟨rfl,n,rfl,by lia,by lia,u1,.inr fun p' q' f1 f2=>by rw[e1] at f1;rw[e2] at f2;cases f1;cases f2;exact hb⟩
  | false=>exact wpS_pure ⟨rfl,n+1,rfl,rfl,u1.ext (m:=lo+n) o (by lia) e2 e1 hb⟩
 ·rintro c st1 ⟨rfl,n,rfl,rfl,u1⟩;exact⟨rfl,_,rfl,by lia,by lia,u1,.inl (by lia)⟩
 ·rintro c st1 ⟨rfl,n,rfl,n1,n2,u1,hstop⟩
  try dsimp only
  by_cases e1:(n == nrem)=true
  ·rw[if_pos e1];exact wpS_pure (h n st1 n1 n2 (Pl.refl _ _ _) u1)
  rw[if_neg e1];have n3:n<nrem:=by
   have : ¬ n=nrem:=fun e=>e1 (by simp[e]);lia
  have hstop2:=hstop.resolve_left (by lia);obtain⟨pn,epn⟩:∃p,(arrOf st1)[lo+n]?= some p:=⟨_,getElem?_pos _ (lo+n) (by lia)⟩;obtain⟨pm,epm⟩:∃p,(arrOf st1)[lo+n-1]?= some p:=⟨_,getElem?_pos _ (lo+n-1) (by lia)⟩;have hless:=hstop2 pn pm epn epm;by_cases e2:n > 1
  ·rw[if_pos e2];refine wpS_bind (ZaE hc hk ho (by lia) (by lia) fun p q f1 f2=>?_);cases hb:lt p q with
   | true =>
    try dsimp only
    rw[if_pos rfl];exact wpS_pure (h n st1 n1 n2 (Pl.refl _ _ _) u1)
   | false =>
    try dsimp only
    rw[if_neg Bool.false_ne_true];refine wpS_bind (Zbh ?_);have p2:=Pl.mirror (lo:=lo) (hi:=lo+nrem) (i:=lo) (j:=lo+n) st1 (by lia) (by lia) (by lia);have d2:Dn lt (arrOf (setArr st1 (mirror (arrOf st1) lo (lo+n) ((lo+n-lo) / 2)))) lo (lo+n):=u1.mirror (by lia);have d3:Dn lt (arrOf (setArr st1 (mirror (arrOf st1) lo (lo+n) ((lo+n-lo) / 2)))) lo (lo+(n+1)):=by
     refine d2.ext (m:=lo+n) o (by lia) (p:=p) (q:=pn) ?_ ?_ ?_
     ·show(mirror (arrOf st1) lo (lo+n) ((lo+n-lo) / 2))[lo+n-1]?= some p;rw[getElem?_mirror_all (by lia),if_pos (by lia),show lo+(lo+n)-1-(lo+n-1)=lo by lia];exact f1
     ·show(mirror (arrOf st1) lo (lo+n) ((lo+n-lo) / 2))[lo+n]?= some pn;rw[getElem?_mirror_all (by lia),if_neg (by lia)];exact epn
     ·rw[epm] at f2;cases f2;exact o.le_trans (o.le_of hless) hb
    generalize setArr st1 (mirror (arrOf st1) lo (lo+n) ((lo+n-lo) / 2))=st2 at p2 d3;refine wpS_bind (wpS_lift (wpAny_rule ⟨rfl,?_⟩));refine wpS_bind (wpS_mono (wpS_forRange (I:=fun x c st'=>Pl lo (lo+nrem) st1 st'/\∃n q,c=(none,n,q)/\n=x/\1<=n/\q+1<=n/\Dn lt (arrOf st') lo (lo+n)/\Eqv lt (arrOf st') (lo+n-(q+1)) (lo+n)) (Q:=fun c st'=>Pl lo (lo+nrem) st1 st'/\∃n q,c=(none,n,q)/\1<=n/\n<=nrem/\q+1<=n/\Dn lt (arrOf st') lo (lo+n)/\Eqv lt (arrOf st') (lo+n-(q+1)) (lo+n)) ?_ ?_ ⟨p2,n+1,0,rfl,rfl,by lia,by lia,d3,fun x y u v a1 a2 a3 a4 eu ev=>by obtain rfl:x=y:=(by lia);rw[eu] at ev;cases ev;exact o.le_refl _⟩) ?_)
    ·rintro x c st3 hx1 hx ⟨p3,n,q,rfl,rfl,m1,m2,d3,q3⟩;have z3:=p3.pm.size
     try dsimp only
     refine wpS_bind (ZaE hc (p3.pm.kind.trans hk) (p3.pm.ok ho) (by lia) (by lia) fun p1 p0 e1 e0=>?_);cases hb:lt p1 p0 with
     | true =>
      try dsimp only
      rw[if_pos rfl];by_cases q0:q > 0
      ·rw[if_pos q0];refine wpS_bind (Zbh ?_);have p4:=Pl.mirror (lo:=lo) (hi:=lo+nrem) (i:=lo+n-(q+1)) (j:=lo+n) st3 (by lia) (by lia) (by lia);have d4:=d3.turn q3 (by lia) (by lia);refine wpS_pure ⟨p3.trans p4,n+1,0,rfl,rfl,by lia,by lia,?_,fun x y u v a1 a2 a3 a4 eu ev=>by obtain rfl:x=y:=(by lia);rw[eu] at ev;cases ev;exact o.le_refl _⟩;obtain⟨p5,e5⟩:∃p5,(arrOf (setArr st3 (mirror (arrOf st3) (lo+n-(q+1)) (lo+n) ((lo+n-(lo+n-(q+1))) / 2))))[lo+n-1]?= some p5:=⟨_,getElem?_pos _ (lo+n-1) (by show _<(mirror _ _ _ _).size;rw[mirror_size];lia)⟩;refine d4.ext (m:=lo+n) o (by lia) e5 (q:=p1) ?_ ?_
       ·show(mirror (arrOf st3) (lo+n-(q+1)) (lo+n) ((lo+n-(lo+n-(q+1))) / 2))[lo+n]?= some p1;rw[getElem?_mirror_all (by lia),if_neg (by lia)];exact e1
       ·have e6:(mirror (arrOf st3) (lo+n-(q+1)) (lo+n) ((lo+n-(lo+n-(q+1))) / 2))[lo+n-1]?= some p5:=e5;rw[getElem?_mirror_all (by lia),if_pos (by lia)] at e6;exact o.le_trans (o.le_of hb) (q3 _ _ p0 p5 (show lo+n-(q+1)<=lo+n-1 by lia) (by lia) (by lia) (by lia) e0 e6)
      ·rw[if_neg q0];exact wpS_pure ⟨p3,n+1,0,rfl,rfl,by lia,by lia,d3.ext (m:=lo+n) o (by lia) e0 e1 (o.le_of hb),fun x y u v a1 a2 a3 a4 eu ev=>by obtain rfl:x=y:=(by lia);rw[eu] at ev;cases ev;exact o.le_refl _⟩
     | false =>
      try dsimp only
      rw[if_neg Bool.false_ne_true];refine wpS_bind (ZaE hc (p3.pm.kind.trans hk) (p3.pm.ok ho) (by lia) (by lia) fun p0' p1' e0' e1'=>?_);rw[e0] at e0';rw[e1] at e1';cases e0';cases e1';cases hb2:lt p0 p1 with
      | true=>exact wpS_pure ⟨p3,n,q,rfl,m1,by lia,m2,d3,q3⟩
      | false =>
       refine wpS_pure ⟨p3,n+1,q+1,rfl,rfl,by lia,by lia,d3.ext (m:=lo+n) o (by lia) e0 e1 hb2,fun x y u v a1 a2 a3 a4 eu ev=>?_⟩;have one:∀x u,lo+(n+1)-(q+1+1)<=x->x<lo+(n+1)->(arrOf st3)[x]?= some u->Le lt u p0/\Le lt p0 u:=fun x u a1 a2 eu=>by
        by_cases hx:x=lo+n
        ·rw[hx,e1] at eu;cases eu;exact⟨hb2,hb⟩
        ·exact⟨q3 x (lo+n-1) u p0 (by lia) (by lia) (by lia) (by lia) eu e0,q3 (lo+n-1) x p0 u (by lia) (by lia) (by lia) (by lia) e0 eu⟩
       exact o.le_trans (one x u a1 a2 eu).1 (one y v a3 a4 ev).2
    ·rintro c st3 ⟨p3,n',q,rfl,rfl,m1,m2,d3,q3⟩;exact⟨p3,_,q,rfl,m1,by lia,m2,d3,q3⟩
    ·rintro c st3 ⟨p3,n,q,rfl,m1,mn,m2,d3,q3⟩;have z3:=p3.pm.size
     try dsimp only
     by_cases q0:q > 0
     ·rw[if_pos q0];refine wpS_bind (Zbh ?_);have p4:=Pl.mirror (lo:=lo) (hi:=lo+nrem) (i:=lo+n-(q+1)) (j:=lo+n) st3 (by lia) (by lia) (by lia);have d4:=d3.turn q3 (by lia) (by lia);have z4:=p4.pm.size;generalize hst4:setArr st3 (mirror (arrOf st3) (lo+n-(q+1)) (lo+n) ((lo+n-(lo+n-(q+1))) / 2))=st4 at p4 z4;have d5:Dn lt (arrOf st4) lo (lo+n):=by rw[<- hst4];exact d4
      refine wpS_bind (Zbh ?_);have p6:=(p3.trans p4).trans (Pl.mirror (lo:=lo) (hi:=lo+nrem) (i:=lo) (j:=lo+n) st4 (by lia) (by lia) (by lia));have u6:Up lt (arrOf (setArr st4 (mirror (arrOf st4) lo (lo+n) ((lo+n-lo) / 2)))) lo (lo+n):=d5.mirror (by lia);have z6:=p6.pm.size;generalize setArr st4 (mirror (arrOf st4) lo (lo+n) ((lo+n-lo) / 2))=st5 at p6 u6 z6;refine wpS_bind (wpS_mono (wpS_forRange (I:=fun x c st'=>st'=st5/\∃k,c=(none,k)/\k=x/\Up lt (arrOf st5) lo (lo+k)) (Q:=fun c st'=>st'=st5/\∃k,c=(none,k)/\n<=k/\k<=nrem/\Up lt (arrOf st5) lo (lo+k)) ?_ ?_ ⟨rfl,n,rfl,rfl,u6⟩) ?_)
      ·rintro x c st7 hx1 hx2 ⟨rfl,k,rfl,rfl,u7⟩
       try dsimp only
       refine wpS_bind (ZaE hc (p6.pm.kind.trans hk) (p6.pm.ok ho) (by lia) (by lia) fun p q e1 e2=>?_);cases hb:lt p q with
       | true=>exact wpS_pure ⟨rfl,k,rfl,by lia,by lia,u7⟩
       | false=>exact wpS_pure ⟨rfl,k+1,rfl,rfl,u7.ext (m:=lo+k) o (by lia) e2 e1 hb⟩
      ·rintro c st7 ⟨rfl,k,rfl,rfl,u7⟩;exact⟨rfl,max n nrem,rfl,by lia,by lia,u7⟩
      ·rintro c st7 ⟨rfl,k,rfl,k1,k2,u7⟩;exact wpS_pure (h k _ (by lia) k2 p6 u7)
     ·rw[if_neg q0];refine wpS_bind (Zbh ?_);have p6:=p3.trans (Pl.mirror (lo:=lo) (hi:=lo+nrem) (i:=lo) (j:=lo+n) st3 (by lia) (by lia) (by lia));have u6:Up lt (arrOf (setArr st3 (mirror (arrOf st3) lo (lo+n) ((lo+n-lo) / 2)))) lo (lo+n):=d3.mirror (by lia);have z6:=p6.pm.size;generalize setArr st3 (mirror (arrOf st3) lo (lo+n) ((lo+n-lo) / 2))=st5 at p6 u6 z6;refine wpS_bind (wpS_mono (wpS_forRange (I:=fun x c st'=>st'=st5/\∃k,c=(none,k)/\k=x/\Up lt (arrOf st5) lo (lo+k)) (Q:=fun c st'=>st'=st5/\∃k,c=(none,k)/\n<=k/\k<=nrem/\Up lt (arrOf st5) lo (lo+k)) ?_ ?_ ⟨rfl,n,rfl,rfl,u6⟩) ?_)
      ·rintro x c st7 hx1 hx2 ⟨rfl,k,rfl,rfl,u7⟩
       try dsimp only
       refine wpS_bind (ZaE hc (p6.pm.kind.trans hk) (p6.pm.ok ho) (by lia) (by lia) fun p q e1 e2=>?_);cases hb:lt p q with
       | true=>exact wpS_pure ⟨rfl,k,rfl,by lia,by lia,u7⟩
       | false=>exact wpS_pure ⟨rfl,k+1,rfl,rfl,u7.ext (m:=lo+k) o (by lia) e2 e1 hb⟩
      ·rintro c st7 ⟨rfl,k,rfl,rfl,u7⟩;exact⟨rfl,max n nrem,rfl,by lia,by lia,u7⟩
      ·rintro c st7 ⟨rfl,k,rfl,k1,k2,u7⟩;exact wpS_pure (h k _ (by lia) k2 p6 u7)
  ·rw[if_neg e2];have p2:=Pl.refl lo (lo+nrem) st1;have d3:Dn lt (arrOf st1) lo (lo+(n+1)):=by
    obtain rfl:n=1:=by lia
    exact ZkR.ext (m:=lo+1) o (by lia) epm epn (o.le_of hless)
   refine wpS_bind (wpS_lift (wpAny_rule ⟨rfl,?_⟩));refine wpS_bind (wpS_mono (wpS_forRange (I:=fun x c st'=>Pl lo (lo+nrem) st1 st'/\∃n q,c=(none,n,q)/\n=x/\1<=n/\q+1<=n/\Dn lt (arrOf st') lo (lo+n)/\Eqv lt (arrOf st') (lo+n-(q+1)) (lo+n)) (Q:=fun c st'=>Pl lo (lo+nrem) st1 st'/\∃n q,c=(none,n,q)/\1<=n/\n<=nrem/\q+1<=n/\Dn lt (arrOf st') lo (lo+n)/\Eqv lt (arrOf st') (lo+n-(q+1)) (lo+n)) ?_ ?_ ⟨p2,n+1,0,rfl,rfl,by lia,by lia,d3,fun x y u v a1 a2 a3 a4 eu ev=>by obtain rfl:x=y:=(by lia);rw[eu] at ev;cases ev;exact o.le_refl _⟩) ?_)
   ·rintro x c st3 hx1 hx ⟨p3,n,q,rfl,rfl,m1,m2,d3,q3⟩;have z3:=p3.pm.size
    try dsimp only
    refine wpS_bind (ZaE hc (p3.pm.kind.trans hk) (p3.pm.ok ho) (by lia) (by lia) fun p1 p0 e1 e0=>?_);cases hb:lt p1 p0 with
    | true =>
     try dsimp only
     rw[if_pos rfl];by_cases q0:q > 0
     ·rw[if_pos q0];refine wpS_bind (Zbh ?_);have p4:=Pl.mirror (lo:=lo) (hi:=lo+nrem) (i:=lo+n-(q+1)) (j:=lo+n) st3 (by lia) (by lia) (by lia);have d4:=d3.turn q3 (by lia) (by lia);refine wpS_pure ⟨p3.trans p4,n+1,0,rfl,rfl,by lia,by lia,?_,fun x y u v a1 a2 a3 a4 eu ev=>by obtain rfl:x=y:=(by lia);rw[eu] at ev;cases ev;exact o.le_refl _⟩;obtain⟨p5,e5⟩:∃p5,(arrOf (setArr st3 (mirror (arrOf st3) (lo+n-(q+1)) (lo+n) ((lo+n-(lo+n-(q+1))) / 2))))[lo+n-1]?= some p5:=⟨_,getElem?_pos _ (lo+n-1) (by show _<(mirror _ _ _ _).size;rw[mirror_size];lia)⟩;refine d4.ext (m:=lo+n) o (by lia) e5 (q:=p1) ?_ ?_
      ·show(mirror (arrOf st3) (lo+n-(q+1)) (lo+n) ((lo+n-(lo+n-(q+1))) / 2))[lo+n]?= some p1;rw[getElem?_mirror_all (by lia),if_neg (by lia)];exact e1
      ·have e6:(mirror (arrOf st3) (lo+n-(q+1)) (lo+n) ((lo+n-(lo+n-(q+1))) / 2))[lo+n-1]?= some p5:=e5;rw[getElem?_mirror_all (by lia),if_pos (by lia)] at e6;exact o.le_trans (o.le_of hb) (q3 _ _ p0 p5 (show lo+n-(q+1)<=lo+n-1 by lia) (by lia) (by lia) (by lia) e0 e6)
     ·rw[if_neg q0];exact wpS_pure ⟨p3,n+1,0,rfl,rfl,by lia,by lia,d3.ext (m:=lo+n) o (by lia) e0 e1 (o.le_of hb),fun x y u v a1 a2 a3 a4 eu ev=>by obtain rfl:x=y:=(by lia);rw[eu] at ev;cases ev;exact o.le_refl _⟩
    | false =>
     try dsimp only
     rw[if_neg Bool.false_ne_true];refine wpS_bind (ZaE hc (p3.pm.kind.trans hk) (p3.pm.ok ho) (by lia) (by lia) fun p0' p1' e0' e1'=>?_);rw[e0] at e0';rw[e1] at e1';cases e0';cases e1';cases hb2:lt p0 p1 with
     | true=>exact wpS_pure ⟨p3,n,q,rfl,m1,by lia,m2,d3,q3⟩
     | false =>
      refine wpS_pure ⟨p3,n+1,q+1,rfl,rfl,by lia,by lia,d3.ext (m:=lo+n) o (by lia) e0 e1 hb2,fun x y u v a1 a2 a3 a4 eu ev=>?_⟩;have one:∀x u,lo+(n+1)-(q+1+1)<=x->x<lo+(n+1)->(arrOf st3)[x]?= some u->Le lt u p0/\Le lt p0 u:=fun x u a1 a2 eu=>by
       by_cases hx:x=lo+n
       ·rw[hx,e1] at eu;cases eu;exact⟨hb2,hb⟩
       ·exact⟨q3 x (lo+n-1) u p0 (by lia) (by lia) (by lia) (by lia) eu e0,q3 (lo+n-1) x p0 u (by lia) (by lia) (by lia) (by lia) e0 eu⟩
      exact o.le_trans (one x u a1 a2 eu).1 (one y v a3 a4 ev).2
   ·rintro c st3 ⟨p3,n',q,rfl,rfl,m1,m2,d3,q3⟩;exact⟨p3,_,q,rfl,m1,by lia,m2,d3,q3⟩
   ·rintro c st3 ⟨p3,n,q,rfl,m1,mn,m2,d3,q3⟩;have z3:=p3.pm.size
    try dsimp only
    by_cases q0:q > 0
    ·rw[if_pos q0];refine wpS_bind (Zbh ?_);have p4:=Pl.mirror (lo:=lo) (hi:=lo+nrem) (i:=lo+n-(q+1)) (j:=lo+n) st3 (by lia) (by lia) (by lia);have d4:=d3.turn q3 (by lia) (by lia);have z4:=p4.pm.size;generalize hst4:setArr st3 (mirror (arrOf st3) (lo+n-(q+1)) (lo+n) ((lo+n-(lo+n-(q+1))) / 2))=st4 at p4 z4;have d5:Dn lt (arrOf st4) lo (lo+n):=by rw[<- hst4];exact d4
     refine wpS_bind (Zbh ?_);have p6:=(p3.trans p4).trans (Pl.mirror (lo:=lo) (hi:=lo+nrem) (i:=lo) (j:=lo+n) st4 (by lia) (by lia) (by lia));have u6:Up lt (arrOf (setArr st4 (mirror (arrOf st4) lo (lo+n) ((lo+n-lo) / 2)))) lo (lo+n):=d5.mirror (by lia);have z6:=p6.pm.size;generalize setArr st4 (mirror (arrOf st4) lo (lo+n) ((lo+n-lo) / 2))=st5 at p6 u6 z6;refine wpS_bind (wpS_mono (wpS_forRange (I:=fun x c st'=>st'=st5/\∃k,c=(none,k)/\k=x/\Up lt (arrOf st5) lo (lo+k)) (Q:=fun c st'=>st'=st5/\∃k,c=(none,k)/\n<=k/\k<=nrem/\Up lt (arrOf st5) lo (lo+k)) ?_ ?_ ⟨rfl,n,rfl,rfl,u6⟩) ?_)
     ·rintro x c st7 hx1 hx2 ⟨rfl,k,rfl,rfl,u7⟩
      try dsimp only
      refine wpS_bind (ZaE hc (p6.pm.kind.trans hk) (p6.pm.ok ho) (by lia) (by lia) fun p q e1 e2=>?_);cases hb:lt p q with
      | true=>exact wpS_pure ⟨rfl,k,rfl,by lia,by lia,u7⟩
      | false=>exact wpS_pure ⟨rfl,k+1,rfl,rfl,u7.ext (m:=lo+k) o (by lia) e2 e1 hb⟩
     ·rintro c st7 ⟨rfl,k,rfl,rfl,u7⟩;exact⟨rfl,max n nrem,rfl,by lia,by lia,u7⟩
     ·rintro c st7 ⟨rfl,k,rfl,k1,k2,u7⟩;exact wpS_pure (h k _ (by lia) k2 p6 u7)
    ·rw[if_neg q0];refine wpS_bind (Zbh ?_);have p6:=p3.trans (Pl.mirror (lo:=lo) (hi:=lo+nrem) (i:=lo) (j:=lo+n) st3 (by lia) (by lia) (by lia));have u6:Up lt (arrOf (setArr st3 (mirror (arrOf st3) lo (lo+n) ((lo+n-lo) / 2)))) lo (lo+n):=d3.mirror (by lia);have z6:=p6.pm.size;generalize setArr st3 (mirror (arrOf st3) lo (lo+n) ((lo+n-lo) / 2))=st5 at p6 u6 z6;refine wpS_bind (wpS_mono (wpS_forRange (I:=fun x c st'=>st'=st5/\∃k,c=(none,k)/\k=x/\Up lt (arrOf st5) lo (lo+k)) (Q:=fun c st'=>st'=st5/\∃k,c=(none,k)/\n<=k/\k<=nrem/\Up lt (arrOf st5) lo (lo+k)) ?_ ?_ ⟨rfl,n,rfl,rfl,u6⟩) ?_)
     ·rintro x c st7 hx1 hx2 ⟨rfl,k,rfl,rfl,u7⟩
      try dsimp only
      refine wpS_bind (ZaE hc (p6.pm.kind.trans hk) (p6.pm.ok ho) (by lia) (by lia) fun p q e1 e2=>?_);cases hb:lt p q with
      | true=>exact wpS_pure ⟨rfl,k,rfl,by lia,by lia,u7⟩
      | false=>exact wpS_pure ⟨rfl,k+1,rfl,rfl,u7.ext (m:=lo+k) o (by lia) e2 e1 hb⟩
     ·rintro c st7 ⟨rfl,k,rfl,rfl,u7⟩;exact⟨rfl,max n nrem,rfl,by lia,by lia,u7⟩
     ·rintro c st7 ⟨rfl,k,rfl,k1,k2,u7⟩;exact wpS_pure (h k _ (by lia) k2 p6 u7)
end
theorem Zie:∀{l:List (Nat×Nat×Nat)}{lo hi:Nat},Cov l lo hi->∀z∈l,lo<=z.1
 | [],_,_,_,z,hz=>(nomatch hz)
 | x::r,lo,hi,⟨a,b,c⟩,z,hz=>by
  rcases List.mem_cons.mp hz with rfl|hz
  ·lia
  ·have:=Zie c z hz;lia
theorem Zjv:∀{l:List (Nat×Nat×Nat)}{lo hi:Nat},Cov l lo hi->∀z∈l,z.1+z.2.1<=hi
 | [],_,_,_,z,hz=>(nomatch hz)
 | x::r,lo,hi,⟨a,b,c⟩,z,hz=>by
  rcases List.mem_cons.mp hz with rfl|hz
  ·have:=c.le;lia
  ·exact Zjv c z hz
theorem Zec:∀{l:List (Nat×Nat×Nat)}{i lo hi sa na p sb nb q:Nat},Cov l lo hi->l[i]?= some (sa,na,p)->l[i+1]?= some (sb,nb,q) ->
  ∀z∈(l.set i (sa,na+nb,p)).eraseIdx (i+1),z=(sa,na+nb,p)\/z∈l/\(z.1+z.2.1<=sa\/sb+nb<=z.1)
 | x::y::r,0,lo,hi,sa,na,p,sb,nb,q,⟨a,b,c1,c2,c3⟩,h1,h2,z,hz=>by
  have e1:x=(sa,na,p):=by simpa using h1
  have e2:y=(sb,nb,q):=by simpa using h2
  subst e1;subst e2;have hz':z∈(sa,na+nb,p)::r:=hz;rcases List.mem_cons.mp hz' with hz|hz
  ·exact .inl hz
  ·refine .inr ⟨List.mem_cons_of_mem _ (List.mem_cons_of_mem _ hz),.inr ?_⟩;have:=Zie c3 z hz;have c1':sb=lo+na:=c1;have this':lo+na+nb<=z.1:=this;lia
 | x::r,i+1,lo,hi,sa,na,p,sb,nb,q,⟨a,b,c⟩,h1,h2,z,hz=>by
  have h1':r[i]?= some (sa,na,p):=by simpa using h1
  have hz':z∈x::((r.set i (sa,na+nb,p)).eraseIdx (i+1)):=hz;rcases List.mem_cons.mp hz' with rfl|hz
  ·refine .inr ⟨List.mem_cons_self ..,.inl ?_⟩;have:=Zie c _ (List.mem_of_getElem? h1');have this':lo+z.2.1<=sa:=this;lia
  ·rcases Zec (l:=r) (i:=i) c h1' (by simpa using h2) z hz with h|⟨h,h'⟩
   ·exact .inl h
   ·exact .inr ⟨List.mem_cons_of_mem _ h,h'⟩
 | [x],0,_,_,_,_,_,_,_,_,_,_,h2,_,_=>by simp at h2
 | [],_,_,_,_,_,_,_,_,_,_,h1,_,_,_=>by simp at h1
theorem Zg2{L r:List Keyed}{m:Nat}(h:m+r.length<=L.length)(x:Nat):(L.take m++r++L.drop (m+r.length))[x]?= if x<m then L[x]? else if x<m+r.length then r[x-m]? else L[x]? := by
 have hm:(L.take m).length=m:=by rw[List.length_take];lia
 by_cases h1:x<m
 ·rw[if_pos h1,List.append_assoc,List.getElem?_append_left (by lia),List.getElem?_take_of_lt h1]
 rw[if_neg h1];by_cases h2:x<m+r.length
 ·rw[if_pos h2,List.getElem?_append_left (by rw[List.length_append];lia),List.getElem?_append_right (by lia),hm]
 ·rw[if_neg h2,List.getElem?_append_right (by rw[List.length_append];lia),List.getElem?_drop,List.length_append,hm]
  congr 1
  lia
section
variable{lt:Keyed->Keyed->Bool}{κ : SortKind}
structure SBL(lt:Keyed->Keyed->Bool)(a₀ : Array Keyed)(κ : SortKind)(hi:Nat)(st:SortSt):Prop where
 sb:SB a₀ κ hi st
 ups:∀z∈(pendingOf st).toList,Up lt (arrOf st) z.1 (z.1+z.2.1)
theorem Up.same{arr arr':Array Keyed}{i j:Nat}(h:Up lt arr i j)(e:∀x,i<=x->x<j->arr'[x]?= arr[x]?):Up lt arr' i j:=fun x y p q h1 h2 h3 ep eq=>by
 rw[e x (by lia) (by lia)] at ep;rw[e y (by lia) (by lia)] at eq;exact h x y p q h1 h2 h3 ep eq
theorem SBL.pl{a₀ : Array Keyed}{hi hi':Nat}{st st':SortSt}(x:SBL lt a₀ κ hi st)(p:Pl hi hi' st st'):SBL lt a₀ κ hi st':=⟨x.sb.pm p.pm,fun z hz=>by
 rw[p.pm.pend] at hz;have h1:=Zjv x.sb.cov z hz;exact(x.ups z hz).same fun i _ h=>p.out i (.inl (by lia))⟩
end
section
variable{prog:Program}{w:World}{A:Around}{E:Value->Shared->Prop}{s:Shared}{κ : SortKind}{Ok:Keyed->Prop}{st:SortSt}{lt:Keyed->Keyed->Bool}
set_option maxHeartbeats 4000000 in
theorem ZbN{a₀ : Array Keyed}{hi i:Nat}{Q:Bool->SortSt->Prop}(o:Swo lt)(hc:Zg8 prog w A s κ Ok lt)(h0:∀p∈a₀.toList,Ok p)(hL:SBL lt a₀ κ hi st)(hh:hi<=a₀.size)(hi1:i+1<(pendingOf st).size)
  (h:∀st',SBL lt a₀ κ hi st'->(∀x,hi<=x->(arrOf st')[x]?= (arrOf st)[x]?)->(pendingOf st').size+1=(pendingOf st).size->Q true st'):wpS (model prog w) A E s (mergeAt' i) Q st:=by
 have hB:=hL.sb;refine wpS_bind (wpS_get ?_);obtain⟨⟨sa,na,p⟩,e1⟩:∃x,(pendingOf st)[i]?= some x:=⟨_,getElem?_pos _ i (by lia)⟩;obtain⟨⟨sb,nb,q⟩,e2⟩:∃x,(pendingOf st)[i+1]?= some x:=⟨_,getElem?_pos _ (i+1) hi1⟩;obtain⟨k1,k2,k3,k4,k5⟩:=hB.cov.at (i:=i) (by rw[<- e1];simp) (by rw[<- e2];simp);have e3:((pendingOf st)[i]?,(pendingOf st)[i+1]?)=(some (sa,na,p),some (sb,nb,q)):=by rw[e1,e2]
 have hsz:=hB.size;have l1:(pendingOf st).toList[i]?= some (sa,na,p):=by rw[<- e1];simp
 have l2:(pendingOf st).toList[i+1]?= some (sb,nb,q):=by rw[<- e2];simp
 have ua:Up lt (arrOf st) sa (sa+na):=hL.ups _ (List.mem_of_getElem? l1);have ub:Up lt (arrOf st) sb (sb+nb):=hL.ups _ (List.mem_of_getElem? l2);have oth:=Zec hB.cov l1 l2;show wpS _ _ _ _ (match ((pendingOf st)[i]?,(pendingOf st)[i+1]?) with|(some (sa,na,power),some (sb,nb,_))=>_|_=>_) Q st
 rw[e1,e2];dsimp only;have hpl:(((pendingOf st).setIfInBounds i (sa,na+nb,p)).eraseIdxIfInBounds (i+1)).toList=((pendingOf st).toList.set i (sa,na+nb,p)).eraseIdx (i+1):=by
  simp
 have hps:((((pendingOf st).setIfInBounds i (sa,na+nb,p)).eraseIdxIfInBounds (i+1)).size+1=(pendingOf st).size):=by
  have:=congrArg List.length hpl;rw[Array.length_toList,List.length_eraseIdx,List.length_set,Array.length_toList,if_pos hi1] at this;lia
 have hB1:SB a₀ κ hi (SortSt.mk' (kindOf st) (arrOf st) (((pendingOf st).setIfInBounds i (sa,na+nb,p)).eraseIdxIfInBounds (i+1)) (gallopOf st) (failedOf st)):=⟨hB.arr,hB.kind,hB.fail,by
  show Cov (((pendingOf st).setIfInBounds i (sa,na+nb,p)).eraseIdxIfInBounds (i+1)).toList 0 hi;rw[hpl];exact k5⟩
 have hok:=hB.ok h0;have fin:∀st':SortSt,SB a₀ κ hi st'->(pendingOf st').toList=((pendingOf st).toList.set i (sa,na+nb,p)).eraseIdx (i+1)->(∀x,x<sa\/sb+nb<=x->(arrOf st')[x]?= (arrOf st)[x]?)->Up lt (arrOf st') sa (sa+(na+nb))->SBL lt a₀ κ hi st':=fun st' hB' hp he hu=>⟨hB',fun z hz=>by
  rw[hp] at hz;rcases oth z hz with rfl|⟨hz,hd⟩
  ·exact hu
  ·exact(hL.ups z hz).same fun x h1 h2=>he x (by lia)⟩
 have exm:∀(arr:Array Keyed)(x y:Nat){p:Keyed},p∈(arr.extract x y).toList->p∈arr.toList:=fun arr x y p hp=>by
  rw[Array.toList_extract,List.extract_eq_drop_take] at hp;exact List.mem_of_mem_drop (List.mem_of_mem_take hp)
 refine wpS_bind (Zkg ?_);refine wpS_bind (ZJ (arr:=arrOf st) (by lia) fun p1 m1 ep1=>?_);refine wpS_bind (ZaF (a:=arrOf st) o hc hB1.kind (hok p1 m1) hok (by lia) (by lia) ua fun k hk F1 F2=>?_);dsimp only;have low1:∀i u,i<k->(arrOf st)[sa+i]?= some u->Le lt u p1:=fun i u hi eu=>by
  have h3:=F1 i hi;unfold BV at h3;rw[eu] at h3;have h4:(!lt p1 u)=true:=h3;show lt p1 u=false
  simpa using h4
 have hig1:∀i u,k<=i->i<na->(arrOf st)[sa+i]?= some u->Le lt p1 u:=fun i u h1 h2 eu=>by
  have h3:=F2 i h1 h2;unfold BV at h3;rw[eu] at h3;have h4:(!lt p1 u)=false:=h3;exact o.le_of (by simpa using h4)
 have p1le:∀y v,sb<=y->y<sb+nb->(arrOf st)[y]?= some v->Le lt p1 v:=fun y v h1 h2 ev=>by
  by_cases e:y=sb
  ·rw[e,ep1] at ev;cases ev;exact o.le_refl _
  ·exact ub sb y p1 v (by lia) (by lia) h2 ep1 ev
 by_cases c1:(na-k == 0)=true
 ·rw[if_pos c1];have ek:k=na:=by
   have:=eq_of_beq c1;lia
  refine wpS_pure (h _ (fin _ hB1 hpl (fun _ _=>rfl) ?_) (fun _ _=>rfl) hps);intro x y u v a1 a2 a3 eu ev;have eu':(arrOf st)[x]?= some u:=eu;have ev':(arrOf st)[y]?= some v:=ev;by_cases hy:y<sb
  ·exact ua x y u v a1 a2 (by lia) eu' ev'
  by_cases hx:sb<=x
  ·exact ub x y u v hx a2 (by lia) eu' ev'
  exact o.le_trans (low1 (x-sa) u (by lia) (by rw[show sa+(x-sa)=x by lia];exact eu')) (p1le y v (by lia) (by lia) ev')
 rw[if_neg c1];have n1 : ¬ na-k=0:=fun e=>c1 (by simp[e]);refine wpS_bind (ZJ (arr:=arrOf st) (by lia) fun p2 m2 ep2=>?_);refine wpS_bind (ZaF (a:=arrOf st) o hc hB1.kind (hok p2 m2) hok (by lia) (by lia) ub fun nb' hnb G1 G2=>?_);dsimp only;have ep2':(arrOf st)[sb-1]?= some p2:=by
  rw[<- ep2]
  congr 1
  lia
 have lep2:∀x u,sa<=x->x<sb->(arrOf st)[x]?= some u->Le lt u p2:=fun x u h1 h2 eu=>by
  by_cases e:x=sb-1
  ·rw[e,ep2'] at eu;cases eu;exact o.le_refl _
  ·exact ua x (sb-1) u p2 h1 (by lia) (by lia) eu ep2'
 have low2:∀i u,i<nb'->(arrOf st)[sb+i]?= some u->Le lt u p2:=fun i u hi eu=>by
  have h3:=G1 i hi;unfold BV at h3;rw[eu] at h3;exact o.le_of h3
 have hig2:∀i u,nb'<=i->i<nb->(arrOf st)[sb+i]?= some u->Le lt p2 u:=fun i u h1 h2 eu=>by
  have h3:=G2 i h1 h2;unfold BV at h3;rw[eu] at h3;exact h3
 by_cases c2:(nb' == 0)=true
 ·rw[if_pos c2];have ek:nb'=0:=eq_of_beq c2;refine wpS_pure (h _ (fin _ hB1 hpl (fun _ _=>rfl) ?_) (fun _ _=>rfl) hps);intro x y u v a1 a2 a3 eu ev;have eu':(arrOf st)[x]?= some u:=eu;have ev':(arrOf st)[y]?= some v:=ev;by_cases hy:y<sb
  ·exact ua x y u v a1 a2 (by lia) eu' ev'
  by_cases hx:sb<=x
  ·exact ub x y u v hx a2 (by lia) eu' ev'
  exact o.le_trans (lep2 x u a1 (by lia) eu') (hig2 (y-sb) v (by lia) (by lia) (by rw[show sb+(y-sb)=y by lia];exact ev'))
 rw[if_neg c2];have n2 : ¬ nb'=0:=fun e=>c2 (by simp[e]);have xs:((arrOf st).extract (sa+k) sb).size=na-k:=by
  rw[Array.size_extract];lia
 have ys:((arrOf st).extract sb (sb+nb')).size=nb':=by
  rw[Array.size_extract];lia
 have SX:So lt ((arrOf st).extract (sa+k) sb).toList:=List.pairwise_iff_getElem.mpr fun x y hx hy hxy=>by
  rw[Array.length_toList] at hx hy;have ex:((arrOf st).extract (sa+k) sb)[x]?= (arrOf st)[sa+k+x]? := by rw[Array.getElem?_extract,if_pos (by lia)]
  have ey:((arrOf st).extract (sa+k) sb)[y]?= (arrOf st)[sa+k+y]? := by rw[Array.getElem?_extract,if_pos (by lia)]
  rw[<- Array.getElem?_toList,List.getElem?_eq_getElem (by rw[Array.length_toList];exact hx)] at ex;rw[<- Array.getElem?_toList,List.getElem?_eq_getElem (by rw[Array.length_toList];exact hy)] at ey;exact ua _ _ _ _ (by lia) (show sa+k+x<sa+k+y by lia) (by lia) ex.symm ey.symm
 have SY:So lt ((arrOf st).extract sb (sb+nb')).toList:=List.pairwise_iff_getElem.mpr fun x y hx hy hxy=>by
  rw[Array.length_toList] at hx hy;have ex:((arrOf st).extract sb (sb+nb'))[x]?= (arrOf st)[sb+x]? := by rw[Array.getElem?_extract,if_pos (by lia)]
  have ey:((arrOf st).extract sb (sb+nb'))[y]?= (arrOf st)[sb+y]? := by rw[Array.getElem?_extract,if_pos (by lia)]
  rw[<- Array.getElem?_toList,List.getElem?_eq_getElem (by rw[Array.length_toList];exact hx)] at ex;rw[<- Array.getElem?_toList,List.getElem?_eq_getElem (by rw[Array.length_toList];exact hy)] at ey;exact ub _ _ _ _ (by lia) (show sb+x<sb+y by lia) (by lia) ex.symm ey.symm
 have HB0:∀p,((arrOf st).extract sb (sb+nb'))[0]?= some p->∀y∈((arrOf st).extract (sa+k) sb).toList,Le lt p y:=fun p ep y hy=>by
  rw[Array.getElem?_extract,if_pos (by lia),Nat.add_zero,ep1] at ep;cases ep;obtain⟨m,h1,h2,e⟩:=ZbQ hy;exact hig1 (m-sa) y (by lia) (by lia) (by rw[show sa+(m-sa)=m by lia];exact e)
 have HLA:∀x∈((arrOf st).extract sb (sb+nb')).toList,∀q,((arrOf st).extract (sa+k) sb)[((arrOf st).extract (sa+k) sb).size-1]?= some q->Le lt x q:=fun x hx q eq=>by
  rw[xs,Array.getElem?_extract,if_pos (by lia),show sa+k+(na-k-1)=sb-1 by lia,ep2'] at eq;cases eq;obtain⟨m,h1,h2,e⟩:=ZbQ hx;exact low2 (m-sb) x (by lia) (by rw[show sb+(m-sb)=m by lia];exact e)
 have whole:∀(r:Array Keyed)(arr':Array Keyed),Rs lt ((arrOf st).extract (sa+k) sb) ((arrOf st).extract sb (sb+nb')) r->r.toList.length=(na-k)+nb'->arr'.toList=(arrOf st).toList.take (sa+k)++r.toList++(arrOf st).toList.drop (sa+k+r.toList.length) ->
   (∀x,x<sa\/sb+nb<=x->arr'[x]?= (arrOf st)[x]?)/\Up lt arr' sa (sa+(na+nb)):=fun r arr' hr hrl ha=>by
  have get:∀x,arr'[x]?= if x<sa+k then(arrOf st)[x]? else if x<sa+k+r.toList.length then r.toList[x-(sa+k)]? else(arrOf st)[x]? := fun x=>by
   rw[<- Array.getElem?_toList,ha,Zg2 (by have hll:(arrOf st).toList.length=(arrOf st).size:=Array.length_toList;lia),Array.getElem?_toList]
  have inr:∀u,u∈r.toList->(∃m,sa+k<=m/\m<sb/\(arrOf st)[m]?= some u)\/∃m,sb<=m/\m<sb+nb'/\(arrOf st)[m]?= some u:=fun u hu=>by
   rcases List.mem_append.mp (hr.perm.mem_iff.mp hu) with hu|hu
   ·exact .inl (ZbQ hu)
   ·exact .inr (ZbQ hu)
  refine⟨fun x hx=>?_,fun x y u v a1 a2 a3 eu ev=>?_⟩
  ·rw[get];by_cases h1:x<sa+k
   ·rw[if_pos h1]
   ·rw[if_neg h1,if_neg (by lia)]
  rw[get] at eu ev;by_cases hx1:x<sa+k
  ·rw[if_pos hx1] at eu;have hu1:=low1 (x-sa) u (by lia) (by rw[show sa+(x-sa)=x by lia];exact eu);by_cases hy1:y<sa+k
   ·rw[if_pos hy1] at ev;exact ua x y u v a1 a2 (by lia) eu ev
   rw[if_neg hy1] at ev;by_cases hy2:y<sa+k+r.toList.length
   ·rw[if_pos hy2] at ev;rcases inr v (List.mem_of_getElem? ev) with⟨m,b1,b2,e⟩|⟨m,b1,b2,e⟩
    ·exact ua x m u v a1 (by lia) (by lia) eu e
    ·exact o.le_trans hu1 (p1le m v b1 (by lia) e)
   ·rw[if_neg hy2] at ev;exact o.le_trans hu1 (p1le y v (by lia) (by lia) ev)
  rw[if_neg hx1] at eu;rw[if_neg (by lia)] at ev;by_cases hx2:x<sa+k+r.toList.length
  ·rw[if_pos hx2] at eu;by_cases hy2:y<sa+k+r.toList.length
   ·rw[if_pos hy2] at ev;obtain⟨hx3,rfl⟩:=List.getElem?_eq_some_iff.mp eu;obtain⟨hy3,rfl⟩:=List.getElem?_eq_some_iff.mp ev;exact(List.pairwise_iff_getElem.mp hr.sort) _ _ hx3 hy3 (by lia)
   ·rw[if_neg hy2] at ev;rcases inr u (List.mem_of_getElem? eu) with⟨m,b1,b2,e⟩|⟨m,b1,b2,e⟩
    ·exact o.le_trans (lep2 m u (by lia) b2 e) (hig2 (y-sb) v (by lia) (by lia) (by rw[show sb+(y-sb)=y by lia];exact ev))
    ·exact ub m y u v b1 (by lia) (by lia) e ev
  ·rw[if_neg hx2] at eu;rw[if_neg (by lia)] at ev;exact ub x y u v (by lia) a2 (by lia) eu ev
 by_cases c3:na-k<=nb'
 ·rw[if_pos c3];refine wpS_bind (ZeR (a:=(arrOf st).extract (sa+k) sb) (b:=(arrOf st).extract sb (sb+nb')) o hc hB1.kind (fun p hp=>hok p (exm _ _ _ hp)) (fun p hp=>hok p (exm _ _ _ hp)) (by rw[xs];lia) (by rw[ys];lia) SX SY HB0 HLA fun r st2 lk hr=>?_);refine wpS_bind (wpS_modify ?_);refine wpS_bind (wpS_get ?_);have hf:failedOf st2=none:=lk.fail.trans hB.fail;have hr2:r.toList.Perm (((arrOf st).toList.drop (sa+k)).take ((na-k)+nb')):=by
   refine hr.perm.trans (List.Perm.of_eq ?_);rw[Array.toList_extract,Array.toList_extract,ZjV _ (by lia) (by lia)]
   congr 1
   lia
  have hrl:r.toList.length=(na-k)+nb':=by
   rw[hr2.length_eq,List.length_take,List.length_drop,Array.length_toList];lia
  show wpS _ _ _ _ (pure (failedOf st2).isNone) Q _;rw[hf];have hnew:(List.foldl (fun(a:Array Keyed)(x:Keyed×Nat)=>a.setIfInBounds (sa+k+x.2) x.1) (arrOf st2) r.toList.zipIdx).toList=(arrOf st).toList.take (sa+k)++r.toList++(arrOf st).toList.drop (sa+k+r.toList.length):=by
   rw[lk.arr,ZiD _ _ _ (by show sa+k+r.toList.length<=(arrOf st).size;lia)]
  obtain⟨w1,w2⟩:=whole r _ hr hrl hnew;refine wpS_pure (h _ (fin _ ⟨?_,lk.kind.trans hB.kind,hf,?_⟩ (by show(pendingOf st2).toList=_;rw[lk.pend];exact hpl) w1 w2) (fun x hx=>w1 x (.inr (by lia))) ?_)
  ·show(List.foldl (fun(a:Array Keyed)(x:Keyed×Nat)=>a.setIfInBounds (sa+k+x.2) x.1) (arrOf st2) r.toList.zipIdx).toList.Perm a₀.toList;rw[hnew];exact(ZgP hr2 hrl).trans hB.arr
  ·show Cov (pendingOf st2).toList 0 hi;rw[lk.pend];exact hB1.cov
  ·show(pendingOf st2).size+1=_;rw[lk.pend];exact hps
 ·rw[if_neg c3];refine wpS_bind (Zfg (a:=(arrOf st).extract (sa+k) sb) (b:=(arrOf st).extract sb (sb+nb')) o hc hB1.kind (fun p hp=>hok p (exm _ _ _ hp)) (fun p hp=>hok p (exm _ _ _ hp)) (by rw[xs];lia) (by rw[ys];lia) SX SY HB0 HLA fun r st2 lk hr=>?_);refine wpS_bind (wpS_modify ?_);refine wpS_bind (wpS_get ?_);have hf:failedOf st2=none:=lk.fail.trans hB.fail;have hr2:r.toList.Perm (((arrOf st).toList.drop (sa+k)).take ((na-k)+nb')):=by
   refine hr.perm.trans (List.Perm.of_eq ?_);rw[Array.toList_extract,Array.toList_extract,ZjV _ (by lia) (by lia)]
   congr 1
   lia
  have hrl:r.toList.length=(na-k)+nb':=by
   rw[hr2.length_eq,List.length_take,List.length_drop,Array.length_toList];lia
  show wpS _ _ _ _ (pure (failedOf st2).isNone) Q _;rw[hf];have hnew:(List.foldl (fun(a:Array Keyed)(x:Keyed×Nat)=>a.setIfInBounds (sa+k+x.2) x.1) (arrOf st2) r.toList.zipIdx).toList=(arrOf st).toList.take (sa+k)++r.toList++(arrOf st).toList.drop (sa+k+r.toList.length):=by
   rw[lk.arr,ZiD _ _ _ (by show sa+k+r.toList.length<=(arrOf st).size;lia)]
  obtain⟨w1,w2⟩:=whole r _ hr hrl hnew;refine wpS_pure (h _ (fin _ ⟨?_,lk.kind.trans hB.kind,hf,?_⟩ (by show(pendingOf st2).toList=_;rw[lk.pend];exact hpl) w1 w2) (fun x hx=>w1 x (.inr (by lia))) ?_)
  ·show(List.foldl (fun(a:Array Keyed)(x:Keyed×Nat)=>a.setIfInBounds (sa+k+x.2) x.1) (arrOf st2) r.toList.zipIdx).toList.Perm a₀.toList;rw[hnew];exact(ZgP hr2 hrl).trans hB.arr
  ·show Cov (pendingOf st2).toList 0 hi;rw[lk.pend];exact hB1.cov
  ·show(pendingOf st2).size+1=_;rw[lk.pend];exact hps
end
section
variable{prog:Program}{w:World}{A:Around}{E:Value->Shared->Prop}{s:Shared}{κ : SortKind}{Ok:Keyed->Prop}{st:SortSt}{lt:Keyed->Keyed->Bool}
set_option maxHeartbeats 4000000 in
theorem ZhO{a₀ : Array Keyed}{Q:Unit->SortSt->Prop}(o:Swo lt)(hc:Zg8 prog w A s κ Ok lt)(h0:∀p∈a₀.toList,Ok p)(hB:SBL lt a₀ κ 0 st)(h:∀st',(arrOf st').toList.Perm a₀.toList->So lt (arrOf st').toList->failedOf st'=none->Q () st'):wpS (model prog w) A E s sortRuns' Q st:=by
 refine wpS_bind (wpS_get ?_);have hsz:=hB.sb.size;show wpS _ _ _ _ (forIn [:(arrOf st).size] _ _ >>= _) Q st;rw[hsz];refine wpS_bind (wpS_mono (wpS_forRange (I:=fun x c st'=>∃lo,c=(none,lo)/\lo<=a₀.size/\SBL lt a₀ κ lo st'/\x<=lo) (Q:=fun c st'=>∃lo,c=(none,lo)/\lo=a₀.size/\SBL lt a₀ κ lo st') ?_ (fun c st' ⟨lo,z1,z2,z3,z4⟩=>⟨lo,z1,by lia,z3⟩) ⟨0,rfl,Nat.zero_le _,hB,Nat.le_refl _⟩) ?_)
 ·rintro x c st1 _ hx ⟨lo,rfl,hlo,hB1,hxl⟩
  try dsimp only
  by_cases c1:lo>=a₀.size
  ·rw[if_pos c1];exact wpS_pure ⟨lo,rfl,by lia,hB1⟩
  rw[if_neg c1];have hs1:=hB1.sb.size;refine wpS_bind (ZgW o hc hB1.sb.kind (hB1.sb.ok h0) (by lia) (by lia) fun n st2 n1 n2 p2 u2=>?_);have hB2:=hB1.pl p2;have hs2:=hB2.sb.size
  try dsimp only
  show wpS _ _ _ _ (if n<minRun' a₀.size a₀.size 0 then _ else _) _ st2
  by_cases c2:n<minRun' a₀.size a₀.size 0
  ·rw[if_pos c2];refine wpS_bind (wpS_lift (wpAny_rule ⟨rfl,?_⟩));refine wpS_bind (Zf3 o hc hB2.sb.kind (hB2.sb.ok h0) (by show lo+min (a₀.size-lo) (minRun' a₀.size a₀.size 0)<=_;lia) (by show n<=min (a₀.size-lo) (minRun' a₀.size a₀.size 0);lia) (by show 1<=min (a₀.size-lo) (minRun' a₀.size a₀.size 0);lia) u2 fun st3 p3 u3=>?_);rw[if_neg (by decide)];have hB3:=hB2.pl p3;have u3':Up lt (arrOf st3) lo (lo+min (a₀.size-lo) (minRun' a₀.size a₀.size 0)):=u3;have hN:1<=min (a₀.size-lo) (minRun' a₀.size a₀.size 0):=by lia
   refine wpS_bind (wpS_get ?_);cases hb:(pendingOf st3).back? with
   | none =>
    dsimp only;refine wpS_bind (wpS_modify ?_);refine wpS_pure ⟨lo+min (a₀.size-lo) (minRun' a₀.size a₀.size 0),rfl,by lia,⟨⟨hB3.sb.arr,hB3.sb.kind,hB3.sb.fail,?_⟩,fun z hz=>?_⟩,by lia⟩
    ·show Cov ((pendingOf st3).push (lo,min (a₀.size-lo) (minRun' a₀.size a₀.size 0),0)).toList 0 (lo+min (a₀.size-lo) (minRun' a₀.size a₀.size 0));rw[Array.toList_push];exact hB3.sb.cov.push hN
    ·have hz':z∈((pendingOf st3).push (lo,min (a₀.size-lo) (minRun' a₀.size a₀.size 0),0)).toList:=hz;rw[Array.toList_push] at hz';rcases List.mem_append.mp hz' with hz'|hz'
     ·exact hB3.ups z hz'
     ·rw[List.mem_singleton.mp hz'];exact u3'
   | some t =>
    obtain⟨s1,n1,q⟩:=t;dsimp only;refine wpS_bind (wpS_mono (wpS_forRange (I:=fun _ c st'=>c=(none,())/\SBL lt a₀ κ lo st'/\∀x,lo<=x->(arrOf st')[x]?= (arrOf st3)[x]?) (Q:=fun c st'=>c=(none,())/\SBL lt a₀ κ lo st'/\∀x,lo<=x->(arrOf st')[x]?= (arrOf st3)[x]?) ?_ (fun _ _ z=>z) ⟨rfl,hB3,fun _ _=>rfl⟩) ?_)
    ·rintro y c st4 _ _ ⟨rfl,hB4,hO4⟩;refine wpS_bind (wpS_get ?_);by_cases g1:(pendingOf st4).size > 1
     ·rw[if_pos g1];obtain⟨⟨a1,a2,older⟩,e⟩:∃x,(pendingOf st4)[(pendingOf st4).size-2]?= some x:=⟨_,getElem?_pos _ _ (by lia)⟩;rw[e];dsimp only
      split
      ·exact wpS_pure ⟨rfl,hB4,hO4⟩
      ·refine wpS_bind (ZbN o hc h0 hB4 hlo (by show(pendingOf st4).size-2+1<(pendingOf st4).size;lia) fun st5 hB5 hO5 _=>?_);rw[if_neg (by decide)];exact wpS_pure ⟨rfl,hB5,fun x hx=>(hO5 x hx).trans (hO4 x hx)⟩
     ·rw[if_neg g1];exact wpS_pure ⟨rfl,hB4,hO4⟩
    ·rintro c st4 ⟨rfl,hB4,hO4⟩;dsimp only;refine wpS_bind (wpS_modify ?_);refine wpS_bind (wpS_modify ?_);refine wpS_pure ⟨lo+min (a₀.size-lo) (minRun' a₀.size a₀.size 0),rfl,by lia,⟨⟨hB4.sb.arr,hB4.sb.kind,hB4.sb.fail,?_⟩,fun z hz=>?_⟩,by lia⟩
     ·show Cov (Array.push ((pendingOf st4).modify _ _) (lo,min (a₀.size-lo) (minRun' a₀.size a₀.size 0),0)).toList 0 (lo+min (a₀.size-lo) (minRun' a₀.size a₀.size 0));rw[Array.toList_push,Array.toList_modify];refine Cov.push ?_ hN;refine Cov.last _ (fun x=>?_) _ hB4.sb.cov;exact⟨rfl,rfl⟩
     ·change z∈(Array.push ((pendingOf st4).modify _ _) (lo,min (a₀.size-lo) (minRun' a₀.size a₀.size 0),0)).toList at hz;rw[Array.toList_push,Array.toList_modify] at hz;rcases List.mem_append.mp hz with hz|hz
      ·obtain⟨i,hi⟩:=List.mem_iff_getElem?.mp hz;rw[List.getElem?_modify] at hi;obtain⟨z0,hz0,rfl⟩:=Option.map_eq_some_iff.mp hi;have h1:=hB4.ups z0 (List.mem_of_getElem? hz0)
       split
       ·exact h1
       ·exact h1
      ·rw[List.mem_singleton.mp hz];exact u3'.same fun x h1 _=>hO4 x h1
  ·rw[if_neg c2];have hB3:=hB2;have hN:=n1;have u3':=u2;refine wpS_bind (wpS_get ?_);cases hb:(pendingOf st2).back? with
   | none =>
    dsimp only;refine wpS_bind (wpS_modify ?_);refine wpS_pure ⟨lo+n,rfl,by lia,⟨⟨hB3.sb.arr,hB3.sb.kind,hB3.sb.fail,?_⟩,fun z hz=>?_⟩,by lia⟩
    ·show Cov ((pendingOf st2).push (lo,n,0)).toList 0 (lo+n);rw[Array.toList_push];exact hB3.sb.cov.push hN
    ·have hz':z∈((pendingOf st2).push (lo,n,0)).toList:=hz;rw[Array.toList_push] at hz';rcases List.mem_append.mp hz' with hz'|hz'
     ·exact hB3.ups z hz'
     ·rw[List.mem_singleton.mp hz'];exact u3'
   | some t =>
    obtain⟨s1,n1,q⟩:=t;dsimp only;refine wpS_bind (wpS_mono (wpS_forRange (I:=fun _ c st'=>c=(none,())/\SBL lt a₀ κ lo st'/\∀x,lo<=x->(arrOf st')[x]?= (arrOf st2)[x]?) (Q:=fun c st'=>c=(none,())/\SBL lt a₀ κ lo st'/\∀x,lo<=x->(arrOf st')[x]?= (arrOf st2)[x]?) ?_ (fun _ _ z=>z) ⟨rfl,hB3,fun _ _=>rfl⟩) ?_)
    ·rintro y c st4 _ _ ⟨rfl,hB4,hO4⟩;refine wpS_bind (wpS_get ?_);by_cases g1:(pendingOf st4).size > 1
     ·rw[if_pos g1];obtain⟨⟨a1,a2,older⟩,e⟩:∃x,(pendingOf st4)[(pendingOf st4).size-2]?= some x:=⟨_,getElem?_pos _ _ (by lia)⟩;rw[e];dsimp only
      split
      ·exact wpS_pure ⟨rfl,hB4,hO4⟩
      ·refine wpS_bind (ZbN o hc h0 hB4 hlo (by show(pendingOf st4).size-2+1<(pendingOf st4).size;lia) fun st5 hB5 hO5 _=>?_);rw[if_neg (by decide)];exact wpS_pure ⟨rfl,hB5,fun x hx=>(hO5 x hx).trans (hO4 x hx)⟩
     ·rw[if_neg g1];exact wpS_pure ⟨rfl,hB4,hO4⟩
    ·rintro c st4 ⟨rfl,hB4,hO4⟩;dsimp only;refine wpS_bind (wpS_modify ?_);refine wpS_bind (wpS_modify ?_);refine wpS_pure ⟨lo+n,rfl,by lia,⟨⟨hB4.sb.arr,hB4.sb.kind,hB4.sb.fail,?_⟩,fun z hz=>?_⟩,by lia⟩
     ·show Cov (Array.push ((pendingOf st4).modify _ _) (lo,n,0)).toList 0 (lo+n);rw[Array.toList_push,Array.toList_modify];refine Cov.push ?_ hN;refine Cov.last _ (fun x=>?_) _ hB4.sb.cov;exact⟨rfl,rfl⟩
     ·change z∈(Array.push ((pendingOf st4).modify _ _) (lo,n,0)).toList at hz;rw[Array.toList_push,Array.toList_modify] at hz;rcases List.mem_append.mp hz with hz|hz
      ·obtain⟨i,hi⟩:=List.mem_iff_getElem?.mp hz;rw[List.getElem?_modify] at hi;obtain⟨z0,hz0,rfl⟩:=Option.map_eq_some_iff.mp hi;have h1:=hB4.ups z0 (List.mem_of_getElem? hz0)
       split
       ·exact h1
       ·exact h1
      ·rw[List.mem_singleton.mp hz];exact u3'.same fun x h1 _=>hO4 x h1
 ·rintro c st1 ⟨lo,rfl,rfl,hB1⟩
  try dsimp only
  refine wpS_bind (wpS_mono (wpS_forRange (I:=fun x c st'=>c=(none,())/\SBL lt a₀ κ a₀.size st'/\(pendingOf st').size+x<=a₀.size+1) (Q:=fun c st'=>c=(none,())/\SBL lt a₀ κ a₀.size st'/\(pendingOf st').size<=1) ?_ (fun c st' ⟨z1,z2,z3⟩=>⟨z1,z2,by lia⟩) ⟨rfl,hB1,by have:=hB1.sb.cov.le;rw[Array.length_toList] at this;lia⟩) ?_)
  ·rintro x c st2 _ _ ⟨rfl,hB2,hp2⟩
   try dsimp only
   refine wpS_bind (wpS_get ?_)
   try dsimp only
   by_cases c2:(pendingOf st2).size<=1
   ·rw[if_pos c2];exact wpS_pure ⟨rfl,hB2,c2⟩
   ·rw[if_neg c2];have hx:∀b:Bool,(if b=true then(pendingOf st2).size-2-1 else(pendingOf st2).size-2)+1<(pendingOf st2).size:=fun b=>by
     cases b
     ·rw[if_neg Bool.false_ne_true];lia
     ·rw[if_pos rfl];lia
    refine wpS_bind (ZbN o hc h0 hB2 (Nat.le_refl _) (hx _) fun st3 hB3 _ hs3=>?_);rw[if_neg (by decide)];exact wpS_pure ⟨rfl,hB3,by lia⟩
  ·rintro c st2 ⟨rfl,hB2,hp2⟩;refine wpS_pure (h st2 hB2.sb.arr ?_ hB2.sb.fail);have hz2:=hB2.sb.size;have hcov:=hB2.sb.cov;have hups:=hB2.ups;have hpl:(pendingOf st2).toList.length<=1:=by rw[Array.length_toList];exact hp2
   match hl:(pendingOf st2).toList,hpl with
   | [],_ =>
    rw[hl] at hcov;have h0:0=a₀.size:=hcov;refine Zk9 (n:=0) (fun x y _ _ _ _ h3=>by lia) (by lia)
   | [z],_ =>
    rw[hl] at hcov hups;obtain⟨z1,z2,z3⟩:=hcov;have z3':0+z.2.1=a₀.size:=z3;have hu:=hups z (List.mem_singleton.mpr rfl);rw[z1,z3'] at hu;exact Zk9 hu (by lia)
end
end Srd
namespace Srd
open PySem PyProof.Rows Srt PySem.W
section
variable{prog:Program}{w:World}{A:Around}{E:Value->Shared->Prop}{s:Shared}
def Zby(prog:Program)(w:World)(A:Around)(lv:Value->Value->Bool)(vs:List Value)(s:Shared):Prop :=
 ∃ κ,(∀(Q:SortKind->Shared->Prop)(E:Value->Shared->Prop),Q κ s->wpAny (model prog w) A (keyKind' vs.toArray) Q E s)/\Zg8 prog w A s κ (fun p=>p∈(pairsOf vs).toList) fun x y=>lv x.1 y.1
theorem ZdL{vs:List Value}{p:Keyed}(h:p∈(pairsOf vs).toList):p.1=p.2:=by
 rw[pairsOf_toList] at h;obtain⟨i,hi⟩:=List.mem_iff_getElem?.mp h;rw[List.getElem?_zip_eq_some] at hi;have:=hi.1.symm.trans hi.2;exact Option.some.inj this
theorem Zjh{lt:Keyed->Keyed->Bool}{vs:List Value}(h:vs.length<2):So lt (pairsOf vs).toList:=List.pairwise_iff_getElem.mpr fun i j hi hj hij=>by
 rw[Array.length_toList,pairsOf_size] at hi hj;lia
theorem ZhG{lv:Value->Value->Bool}{vs:List Value}{xs:Array Keyed}(hp:xs.toList.Perm (pairsOf vs).toList)(h:So (fun x y=>lv x.1 y.1) xs.toList):(xs.map (·.2)).toList.Pairwise (fun u v=>lv v u=false):=by
 rw[Array.toList_map,List.pairwise_map];refine List.Pairwise.imp_of_mem (fun{x y} hx hy hxy=>?_) h;have hxy':lv y.1 x.1=false:=hxy;rw[ZdL (hp.mem_iff.mp hx),ZdL (hp.mem_iff.mp hy)] at hxy';exact hxy'
theorem Zgb{lv:Value->Value->Bool}(o:Swo fun x y=>lv x.1 y.1){a:Addr}{vs:List Value}{n:Nat}{P:Fin->Shared->Prop}(ho:s.heap.get? a=some (seqObj "list" vs.toArray n)) (hlen:vs.length<=90000)
  (hc:∀h6:Heap,(∀b o,b≠a->s.heap.get? b=some o->h6.get? b=some o)->2<=vs.length->Zby prog w A lv vs { s with heap:=h6 })
  (h:∀out:Array Value,out.toList.Perm vs->out.toList.Pairwise (fun u v=>lv v u=false)->P (.done (.ret .none)) { s with heap:=sortedHeap s.heap a vs out }):wpAny (model prog w) A (Builtin.«list.sort» ⟨[.ref a],[]⟩) P E s:=by
 have hv:vs.toArray.size<=sizeLine:=by rw[List.size_toArray,sizeLine_eq];lia
 have ha:a<s.heap.objs.size:=Heap.lt_size ho;obtain⟨e1,ho1⟩:∃e1,(s.heap.update a (Obj.mapSeq fun _=>#[])).get? a=some (seqObj "list" #[] e1):=⟨_,get?_update_seq ho (fun _=>#[])⟩;rw[list_sort_plain];refine wpAny_bind (listItems_at ho rfl (wpAny_bind (listUpdate_at ho rfl (wpAny_bind (seqEpoch_at ho1 rfl (wpAny_bind (wpAny_newTuple (wpAny_bind (wpAny_newList (wpAny_holding ?_)))))))  hv (Nat.zero_le _))));have nT:a≠(s.heap.update a (Obj.mapSeq fun _=>#[])).objs.size:=by rw[Heap.size_update];exact Nat.ne_of_lt ha
 have nL:a≠((s.heap.update a (Obj.mapSeq fun _=>#[])).push (seqObj "tuple" vs.toArray 0)).objs.size:=by rw[size_push',Heap.size_update];exact Nat.ne_of_lt (Nat.lt_succ_of_lt ha)
 have ho6:(((s.heap.update a (Obj.mapSeq fun _=>#[])).push (seqObj "tuple" vs.toArray 0)).push (seqObj "list" #[] 0)).get? a=some (seqObj "list" #[] e1):=by
  rw[Heap.get?_push_ne _ _ _ nL,Heap.get?_push_ne _ _ _ nT];exact ho1
 have hkeep:∀b o,b≠a->s.heap.get? b=some o->(((s.heap.update a (Obj.mapSeq fun _=>#[])).push (seqObj "tuple" vs.toArray 0)).push (seqObj "list" #[] 0)).get? b=some o:=fun b o hb e=>by
  refine Heap.get?_push_of_some _ (Heap.get?_push_of_some _ ?_);rw[Heap.get?_update_other _ _ hb.symm];exact e
 show wpAny (model prog w) A _ P E { s with heap:=((s.heap.update a (Obj.mapSeq fun _=>#[])).push (seqObj "tuple" vs.toArray 0)).push (seqObj "list" #[] 0) };dsimp only;by_cases h2:vs.toArray.size<2
 ·rw[if_pos h2,if_pos h2];refine wpAny_bind (wpAny_pure ?_);rw[StateT.run_pure];refine wpAny_bind (wpAny_pure (wpAny_bind (seqEpoch_at ho6 rfl (wpAny_bind (listUpdate_at ho6 rfl ?_ (Nat.zero_le _) ?_)))))
  ·simp only[bne_self_eq_false,Bool.false_eq_true,if_false];exact wpAny_pure (h _ (Ze3 (xs:=pairsOf vs) (List.Perm.refl _)) (ZhG (xs:=pairsOf vs) (List.Perm.refl _) (Zjh (by rw[List.size_toArray] at h2;exact h2))))
  ·show((pairsOf vs).map (·.2)).size<=_;rw[Array.size_map,pairsOf_size,sizeLine_eq];lia
 ·rw[if_neg h2,if_neg h2];rw[List.size_toArray] at h2;obtain⟨κ,hkk,hcm⟩:=hc _ hkeep (by lia);refine wpAny_bind (hkk _ _ ?_);refine wpAny_bind (wpAny_mono (ZhO (a₀ := pairsOf vs) (Q:=fun _ st'=>(arrOf st').toList.Perm (pairsOf vs).toList/\So (fun x y=>lv x.1 y.1) (arrOf st').toList/\failedOf st'=none) o hcm (fun p hp=>hp) ⟨⟨List.Perm.refl _,rfl,rfl,rfl⟩,fun z hz=>(nomatch hz)⟩ fun st' a1 a3 a2=>⟨a1,a3,a2⟩) ?_ fun _ _ e=>e)
  rintro⟨⟨⟩,st'⟩ s' ⟨rfl,hp,hso,hf⟩;dsimp only;refine wpAny_bind (seqEpoch_at ho6 rfl (wpAny_bind (listUpdate_at ho6 rfl ?_ (Nat.zero_le _) ?_)))
  ·rw[hf];simp only[bne_self_eq_false,Bool.false_eq_true,if_false];exact wpAny_pure (h _ (Ze3 hp) (ZhG hp hso))
  ·have hp':(arrOf st').toList.Perm (pairsOf vs).toList:=hp;have:=hp'.length_eq;rw[Array.length_toList,Array.length_toList,pairsOf_size] at this;show((arrOf st').map (·.2)).size<=_;rw[Array.size_map,sizeLine_eq];lia
theorem ZbF{lv:Value->Value->Bool}(o:Swo fun x y=>lv x.1 y.1){v:Value}{C:List Value->Prop}{Q:Value->Shared->Prop}
  (hcol:∀(Q':List Value->Shared->Prop)(E':Value->Shared->Prop),(∀(ys:List Value)(h':Heap)(tk:Nat)(d:Drawn),(∀b o,s.heap.get? b=some o->h'.get? b=some o)->C ys->ys.length<=90000->s.heap.objs.size<=h'.objs.size->Q' ys { s with heap:=h',toks:=tk,drawn:=d })->wpAny (model prog w) A.in1 (collect v) Q' E' s)
  (hc:∀(ys:List Value)(h6:Heap)(tk:Nat)(d:Drawn),C ys->(∀b o,s.heap.get? b=some o->h6.get? b=some o)->2<=ys.length->Zby prog w A.in1.in1 lv ys { s with heap:=h6,toks:=tk,drawn:=d })
  (q:∀(p:Addr)(ys:List Value)(out:Array Value)(h':Heap)(tk:Nat)(d:Drawn)(c:Nat),C ys->out.toList.Perm ys->out.toList.Pairwise (fun u v=>lv v u=false)->(∀b o,s.heap.get? b=some o->h'.get? b=some o)->h'.get? p=some (seqObj "list" out c)->s.heap.objs.size<=p->out.size<=90000->Q (.ref p) { s with heap:=h',toks:=tk,drawn:=d }) :
  wpAny (model prog w) A (call (.builtin "sorted") [v]) Q E s:=by
 refine Calls.call_function_entry kind_sorted plain_sorted entry_sorted (args_sorted1 _) ?_;unfold Builtin.«sorted»;refine wpAny_bind (m:=checkCount "sorted" 1 1 _) (wpAny_pure (wpAny_bind (hcol _ _ fun ys h1 tk d k1 hC hyl hle=>wpAny_bind (wpAny_newList ?_ (by rw[sizeLine_eq];lia)))));have hoL:(h1.push (seqObj "list" ys.toArray 0)).get? h1.objs.size=some (seqObj "list" ys.toArray 0):=Heap.get?_push_size _ rfl;have keep:∀b o,s.heap.get? b=some o->(h1.push (seqObj "list" ys.toArray 0)).get? b=some o:=fun b o e=>Heap.get?_push_of_some _ (k1 b o e);have hbp:∀b o,s.heap.get? b=some o->h1.objs.size≠b:=fun b o e=>Nat.ne_of_gt (Nat.lt_of_lt_of_le (Heap.lt_size e) hle);change wpAny _ _ _ _ _ { s with heap:=h1.push (seqObj "list" ys.toArray 0),toks:=tk,drawn:=d };refine wpAny_bind (wpAny_holding (wpAny_call_entry slot_list_sort ⟨_,hoL,rfl⟩ entry_list_sort (Zgb (s:={ s with heap:=h1.push (seqObj "list" ys.toArray 0),toks:=tk,drawn:=d }) o hoL (by lia) (fun h6 k6 h2=>hc ys h6 tk d hC (fun b o e=>k6 b o (hbp b o e).symm (keep b o e)) h2) fun out hp hso=>⟨_,rfl,?_⟩) (args_list_sort _)));generalize h1.push (seqObj "list" ys.toArray 0)=h5 at hoL keep;obtain⟨e1,ho1⟩:∃e1,(h5.update h1.objs.size (Obj.mapSeq fun _=>#[])).get? h1.objs.size=some (seqObj "list" #[] e1):=⟨_,get?_update_seq hoL (fun _=>#[])⟩;have ho6:=Heap.get?_push_of_some (seqObj "list" #[] 0) (Heap.get?_push_of_some (seqObj "tuple" ys.toArray 0) ho1);have hol:out.size<=90000:=by rw[<- Array.length_toList,hp.length_eq];exact hyl
 refine wpAny_pure ⟨_,rfl,q h1.objs.size ys out (sortedHeap h5 h1.objs.size ys out) tk d _ hC hp hso (fun b o e=>?_) (get?_update_seq ho6 (fun _=>out)) hle hol⟩;unfold sortedHeap;rw[Heap.get?_update_other _ _ (hbp b o e)];refine Heap.get?_push_of_some _ (Heap.get?_push_of_some _ ?_);rw[Heap.get?_update_other _ _ (hbp b o e)];exact keep b o e
def Zlz:Value->Int
 | .int i _=>i
 | _=>0
def iLt(u v:Value):Bool:=decide (Zlz u<Zlz v)
theorem ZkA:Swo fun x y=>iLt x.1 y.1:=⟨fun x y h=>decide_eq_false (by have:=of_decide_eq_true h;lia),fun x y z h1 h2=>decide_eq_false (by have:=of_decide_eq_false h1;have:=of_decide_eq_false h2;lia)⟩
theorem ZdU{vs:List Value}(hv:∀v∈vs,∃i t,v=Value.int i t)(h2:2<=vs.length):Zby prog w A iLt vs s:=by
 refine⟨oneType',fun Q E hq=>kas_kind (T:=.type "int") h2 (fun v hm=>?_) rfl rfl hq,?_⟩
 ·obtain⟨i,t,rfl⟩:=hv v hm;exact Looks.of_pure rfl
 ·intro x y hx hy E;rw[pairsOf_toList] at hx hy;obtain⟨i,t,e⟩:=hv _ (mem_zip_self hx).2;obtain⟨i',t',e'⟩:=hv _ (mem_zip_self hy).2;rw[e,e',keyLt'_oneType];refine oneLt_int ⟨rfl,?_⟩;show decide (i<i')=decide (Zlz x.1<Zlz y.1);rw[e,e'];rfl
end
section
variable{prog:Program}{w:World}{A:Around}{E:Value->Shared->Prop}{s:Shared}{T:String}{r d:Addr}{n:Nat}{P:Nat->Value->Prop}{OK:Heap->Prop}
theorem ZbD{Q:List Value->Shared->Prop}(K:KdlSrc prog w T r d n P OK)(hh:A.handled=none)(hok:OK s.heap)(hn:n<=sizeLine)
  (q:∀(acc:Array Value)(h':Heap)(tk:Nat),(∀b o,s.heap.get? b=some o->h'.get? b=some o)->ItemsOf P acc n->s.heap.objs.size<=h'.objs.size->Q acc.toList { s with heap:=h',toks:=tk }):wpAny (model prog w) A (collect (.ref r)) Q E s:=by
 unfold collect;refine wpAny_bind (wpAny_runValue (codeAny_builtin entry_proto_collect' ?_));change wpAny _ _ (do again (.builtin "list.__iadd__" ⟨[<- newList [],.ref r],[]⟩)) _ _ s;refine wpAny_bind (wpAny_newList (wpAny_pure ⟨Code.quiet_builtin _ (by decide +kernel),codeAny_builtin entry_list_iadd' ?_⟩));change wpAny _ A.in1 (Builtin.List.listExtendWith (.ref s.heap.objs.size) (.ref r) (.ref s.heap.objs.size)) _ _ { s with heap:=s.heap.push (seqObj "list" #[] 0) };have hlt:=K.there _ hok;refine kdl_extend (R:=wants (fun v s'=>wpAny (model prog w) A (match v with
     | Value.ref a=>do
      let o <- load a
      match o.data with
      | .seq xs _=>pure xs.toList
      | _=>unsupported "internal:collect"
     | _=>unsupported "internal:collect") Q E s') E) (s:={ s with heap:=s.heap.push (seqObj "list" #[] 0) }) K hh (K.keep _ _ hok fun b _ o e=>Heap.get?_push_of_some _ e) s.heap.objs.size (Nat.ne_of_gt hlt.1) (Nat.ne_of_gt hlt.2) _ 0 (Heap.get?_push_size _ rfl) (fun h' tk acc c kp hS hit=>?_) hn
 refine wpAny_bind (wpAny_load hS ?_);refine wpAny_pure ?_;exact q acc h' tk (fun b o e=>kp b o (Nat.ne_of_lt (Heap.lt_size e)) (Heap.get?_push_of_some _ e)) hit (Nat.le_of_lt (Heap.lt_size hS))
end
end Srd
namespace Srd
open PySem PyProof.Rows
theorem Zfi:typeLookup (.type "list") "keys" = pure none:=by rw[typeLookup_type,builtinLookup_eq_fast];kernel_rfl
theorem Zbv:isSubtype (.type "AttributeError") (.type "AttributeError")=pure true:=by rw[isSubtype_type];kernel_rfl
section
variable{prog:Program}{w:World}{A:Around}{E:Value->Shared->Prop}{h:Heap}{g:Array GenState}{d:Drawn}{t:Nat}{os:OsState}{a:Addr}
theorem ZgY{α : Type}{Q : α -> Shared->Prop}{o:Value}{name msg:Str}(hh:A.handled=none)(hm:msg.length<=sizeLine)(hq:∀(x:Addr) (h':Heap) (tk:Nat),(∀b u,h.get? b=some u->h'.get? b=some u)->(∃ob,h'.get? x=some ob/\ob.cls=.type "AttributeError")->h.objs.size<=h'.objs.size->E (.ref x) ⟨h',g,d,tk,os⟩) :
  wpAny (model prog w) A (raiseAttrError o name msg:Sem α) Q E ⟨h,g,d,t,os⟩:=by
 unfold raiseAttrError
 repeat (any_goals (first|assumption|wp_step))
 refine wpAny_of_eq Zbv ?_;rw[if_neg (by decide)];generalize hfa:(if((Manifest.find? "AttributeError").elim false fun t=>t.mro.contains "StopIteration" || t.mro.contains "SystemExit")=true then [Value.str msg t].headD Value.none else Value.none)=fa
 have k1:∀b u,h.get? b=some u->(h.push { cls:=Value.type "tuple",data:=Data.seq #[Value.str msg t] }).get? b=some u:=fun b u e=>Heap.get?_push_of_some _ e;have z1:(h.push { cls:=Value.type "tuple",data:=Data.seq #[Value.str msg t] }).objs.size=h.objs.size+1:=Heap.size_push ..;generalize h.push { cls:=Value.type "tuple",data:=Data.seq #[Value.str msg t] }=h1 at k1 z1;have e1:(h1.push { cls:=Value.type "AttributeError",data:=Data.fields (#[Value.ref h.objs.size,Value.none,Value.none,Value.none,Value.bool false,fa]++ownMembersOf (Value.type "AttributeError") [Value.str msg t]) }).get? h1.objs.size=some { cls:=Value.type "AttributeError",data:=Data.fields (#[Value.ref h.objs.size,Value.none,Value.none,Value.none,Value.bool false,fa]++ownMembersOf (Value.type "AttributeError") [Value.str msg t]) }:=Heap.get?_push_size _ rfl;have k2:∀b u,h.get? b=some u->(h1.push { cls:=Value.type "AttributeError",data:=Data.fields (#[Value.ref h.objs.size,Value.none,Value.none,Value.none,Value.bool false,fa]++ownMembersOf (Value.type "AttributeError") [Value.str msg t]) }).get? b=some u:=fun b u e=>Heap.get?_push_of_some _ (k1 b u e);have z2:(h1.push { cls:=Value.type "AttributeError",data:=Data.fields (#[Value.ref h.objs.size,Value.none,Value.none,Value.none,Value.bool false,fa]++ownMembersOf (Value.type "AttributeError") [Value.str msg t]) }).objs.size=h1.objs.size+1:=Heap.size_push ..;generalize h1.push { cls:=Value.type "AttributeError",data:=Data.fields (#[Value.ref h.objs.size,Value.none,Value.none,Value.none,Value.bool false,fa]++ownMembersOf (Value.type "AttributeError") [Value.str msg t]) }=h2 at e1 k2 z2;refine wpAny_bind (wpAny_load e1 ?_);dsimp only;have v6:(#[Value.ref h.objs.size,Value.none,Value.none,Value.none,Value.bool false,fa]++ownMembersOf (Value.type "AttributeError") [Value.str msg t])[6]?= some unsetMember:=rfl;have v7:(#[Value.ref h.objs.size,Value.none,Value.none,Value.none,Value.bool false,fa]++ownMembersOf (Value.type "AttributeError") [Value.str msg t])[7]?= some unsetMember:=rfl;refine wpAny_ite_split (fun hab=>absurd hab (by rw[v6,v7];decide)) (fun _=>wpAny_ite_split (fun hab=>absurd hab (by rw[v6,v7];decide)) (fun _=>wpAny_pure ?_));rw[if_pos rfl];refine wpAny_bind (wpAny_rule (wpAny_bind (wpAny_typeOf (T := "AttributeError") ⟨_,e1,rfl⟩ ?_)));dsimp only;unfold layMembers;refine wpAny_bind (wpAny_load e1 ?_);dsimp only;refine wpAny_update e1 ?_;unfold raiseNew;refine wpAny_bind (wpAny_handled ?_);rw[hh];refine wpAny_throw (hq _ _ _ (fun b u e=>?_) ?_ ?_)
 ·rw[Heap.get?_update_other _ _ (show h1.objs.size≠b from fun z=>?_)]
  ·exact k2 b u e
  ·have:=Heap.lt_size e;have h3:h1.objs.size<h.objs.size:=z ▸ this;lia
 ·exact⟨_,Heap.get?_update_self _ e1 rfl,rfl⟩
 ·rw[Heap.size_update];show h.objs.size<=h2.objs.size;lia
theorem Zdg{tk:Tok}{Q:Fin->Shared->Prop}{its:Array Value}{n:Nat}{sl:Array (Option Value)}(hh:A.handled=none)(hx:h.get? a=some { cls:=.type "list",dict:=none,data:=.seq its n,slots:=sl }) (hq:∀(x:Addr)(h':Heap)(tk:Nat),(∀b u,h.get? b=some u->h'.get? b=some u)->(∃ob,h'.get? x=some ob/\ob.cls=.type "AttributeError")->h.objs.size<=h'.objs.size->E (.ref x) ⟨h',g,d,tk,os⟩) :
  wpAny (model prog w) A (Builtin.«object.__getattribute__» ⟨[.ref a,.str "keys" tk],[]⟩) Q E ⟨h,g,d,t,os⟩:=by
 have hT:(⟨h,g,d,t,os⟩:Shared).TypeIs (.ref a) "list" := ⟨_,hx,rfl⟩;have f4:=Zfi
 repeat (any_goals (first|assumption|with_reducible apply ZgY hh|wp_step))
 decide +kernel
theorem ZdG:typeLookup (.type "list") "__getattr__" = pure none:=by rw[typeLookup_type,builtinLookup_eq_fast];kernel_rfl
theorem ZdO{tk:Tok}{R:Result->Shared->Prop}{its:Array Value}{n:Nat}{sl:Array (Option Value)}(hh:A.handled=none)(hx:h.get? a=some { cls:=.type "list",dict:=none,data:=.seq its n,slots:=sl }) (hq:∀(x:Addr)(h':Heap)(tk:Nat),(∀b u,h.get? b=some u->h'.get? b=some u)->(∃ob,h'.get? x=some ob/\ob.cls=.type "AttributeError")->h.objs.size<=h'.objs.size->R (.error (.ref x)) ⟨h',g,d,tk,os⟩) :
  codeAny (model prog w) A (.call (.builtin "list.__getattribute__") ⟨[.ref a,.str "keys" tk],[]⟩) R ⟨h,g,d,t,os⟩ :=
 codeAny_call_builtin F.slot_list_getattribute.plain F.entry_list_ga (F.slot_list_getattribute.check _ _ _ _ _ _ _ _ (show(⟨h,g,d,t,os⟩:Shared).TypeIs (.ref a) "list" from⟨_,hx,rfl⟩) (F.args_list_getattribute_2 _ _) (Zdg hh hx hq))
theorem Zfh{tk:Tok}{Q:Value->Shared->Prop}{its:Array Value}{n:Nat}{sl:Array (Option Value)}(hh:A.handled=none)(hx:h.get? a=some { cls:=.type "list",dict:=none,data:=.seq its n,slots:=sl }) (hq:∀(x:Addr)(h':Heap)(tk:Nat),(∀b u,h.get? b=some u->h'.get? b=some u)->(∃ob,h'.get? x=some ob/\ob.cls=.type "AttributeError")->h.objs.size<=h'.objs.size->E (.ref x) ⟨h',g,d,tk,os⟩) :
  wpAny (model prog w) A (getAttrBy (.ref a) (.str "keys" tk) false) Q E ⟨h,g,d,t,os⟩:=by
 have hT:(⟨h,g,d,t,os⟩:Shared).TypeIs (.ref a) "list" := ⟨_,hx,rfl⟩;have f2:=F.slot_list_getattribute.lookup;have f3:=F.slot_list_getattribute.bind (.ref a);have f4:=ZdG
 repeat (any_goals (first|assumption|wp_step))
 refine ZdO hh hx fun x h' tk' k1 k2 k3=>?_;obtain⟨ob,e2,c2⟩:=k2;dsimp only;unfold getattributeRaised;refine wpAny_bind (wpAny_isInstance (T := "AttributeError") (b:=true) ⟨ob,e2,c2⟩ Zbv ?_);rw[if_pos rfl];unfold hookBehind;rw[if_neg (by decide)];refine wpAny_bind (wpAny_of_eq f4 ?_);unfold hookOrError attributeErrorLeaves;dsimp only;rw[if_pos (by decide)];exact wpAny_bind (wpAny_throw (hq x h' tk' k1 ⟨ob,e2,c2⟩ k3))
theorem Zb6{Q:Option Value->Shared->Prop}{its:Array Value}{n:Nat}{sl:Array (Option Value)}(hh:A.handled=none)(hx:h.get? a=some { cls:=.type "list",dict:=none,data:=.seq its n,slots:=sl }) (hq:∀(h':Heap)(tk:Nat),(∀b u,h.get? b=some u->h'.get? b=some u)->h.objs.size<=h'.objs.size->Q none ⟨h',g,d,tk,os⟩) :
  wpAny (model prog w) A (getAttr? (.ref a) "keys") Q E ⟨h,g,d,t,os⟩:=by
 unfold getAttr? getAttrBy?
 repeat (any_goals (first|assumption|with_reducible apply Zfh hh hx|wp_step))
 intro x h' tk' k1 k2 k3;obtain⟨ob,e2,c2⟩:=k2;dsimp only;refine wpAny_bind (wpAny_isInstance (T := "AttributeError") (b:=true) ⟨ob,e2,c2⟩ Zbv ?_);rw[if_pos rfl];exact wpAny_pure (hq h' tk' k1 k3)
end
theorem Zak:entryFor table "dict.update.loop" = some Builtin.«dict.update.loop» := entryFor_of_tree (by kernel_rfl)
theorem Zw:plainId "dict.update.loop" = true:=by decide +kernel
section
variable{prog:Program}{w:World}{K:Type}[DecidableEq K]{knd:KeyKind prog w K}{A:Around}{E:Value->Shared->Prop}{R:Result->Shared->Prop}
def ZiF(knd:KeyKind prog w K)(h:Heap)(v:Value)(k:K)(u:Value):Prop := ∃b o n uk,v=.ref b/\h.get? b=some o/\o.cls=.type "tuple" /\ o.data=.seq #[uk,u] n/\knd.is k uk=true
def Zid(knd:KeyKind prog w K)(h0:Heap)(d:Addr)(items:Array Value)(ps:List (K×Value)):Prop:=items.size=ps.length/\∀(i:Nat) v p,items[i]?= some v->ps[i]?= some p->∀h:Heap,(∀b o,b<d->h0.get? b=some o->h.get? b=some o)->ZiF knd h v p.1 p.2
theorem pair_items{s:Shared}{v:Value}{k:K}{u:Value}{Q:List Value->Shared->Prop}(hp:ZiF knd s.heap v k u)(q:∀uk,knd.is k uk=true->Q [uk,u] s):wpAny (model prog w) A (Builtin.Dict.pairItems v) Q E s:=by
 obtain⟨b,o,n,uk,rfl,ho,hc,hd,hk⟩:=hp;unfold Builtin.Dict.pairItems;refine wpAny_bind (wpAny_typeOf (T := "tuple") ⟨o,ho,hc⟩ ?_);rw[if_pos (by decide)];refine wpAny_bind (wpAny_seqItems ho hd (wpAny_pure (q uk hk)))
set_option maxHeartbeats 1000000 in
theorem Ziu{h0:Heap}{D I l:Addr}{items:Array Value}{ps:List (K×Value)}(hh:A.in1.handled=none)(ht:Zid knd h0 D items ps)(hDI:D<I)(hlI:l≠I)(hn:items.size<=100000):∀(k i:Nat)(j:Int)(jt:Tok)(s:Shared),items.size-i=k->i<=items.size->(s.heap.IsListIter I l i/\s.heap.IsList l items)->l<D->s.heap.DictOf knd D (merged [] (ps.take i))->(∀b o,b<D->h0.get? b=some o->s.heap.get? b=some o) ->
   (∀h' tk,h'.DictOf knd D (merged [] ps)->(∀b o,b<D->h0.get? b=some o->h'.get? b=some o)->R (.ok (.ret .none)) { s with heap:=h',toks:=tk })->codeAny (model prog w) A (.builtin "dict.update.loop" ⟨[.ref D,.ref I,.int j jt,.none],[]⟩) R s:=by
 have W:=Walks.list (prog:=prog) (w:=w) (A:=A.in1) hh I l hlI items;have DK:∀{h h':Heap}{kvs:List (K×Value)},h.DictOf knd D kvs->(∀b o,b<=D->h.get? b=some o->h'.get? b=some o)->h'.DictOf knd D kvs:=fun{h h' kvs} ⟨o,es,ep,ho,r⟩ hk=>⟨o,es,ep,hk D o (Nat.le_refl _) ho,r⟩;intro k
 induction k with
 | zero =>
  intro i j jt s hk hi hst hlD hd hb hR;obtain rfl:i=items.size:=by lia
  refine codeAny_builtin Zak ?_;rw[Around.under_plainId Zw _];change wpAny _ A.in1 (pyNext (.ref I) >>= _) _ _ s;refine wpAny_bind (W.done s _ _ hst fun h' tk hm=>?_);change wpAny _ A.in1 (Builtin.Dict.addKeywords D [] >>= fun _=>ret Value.none) _ _ _;refine wpAny_bind ?_;unfold Builtin.Dict.addKeywords;refine wpAny_pure (wpAny_pure ?_);rw[ht.1,List.take_length] at hd;exact hR h' tk (DK hd fun b o hb' e=>hm b o (fun z=>Nat.lt_irrefl _ (Nat.lt_of_le_of_lt (List.mem_singleton.mp z ▸ hb') hDI)) e) fun b o hb' e=>hm b o (fun z=>Nat.lt_irrefl _ (Nat.lt_trans (List.mem_singleton.mp z ▸ hb') hDI)) (hb b o hb' e)
 | succ k ih =>
  intro i j jt s hk hi hst hlD hd hb hR;have hlt:i<items.size:=by lia
  refine codeAny_builtin Zak ?_;rw[Around.under_plainId Zw _];change wpAny _ A.in1 (pyNext (.ref I) >>= _) _ _ s;refine wpAny_bind (W.item i s _ _ hlt hst fun v h' tk hP hst' hm=>?_);have hd':h'.DictOf knd D (merged [] (ps.take i)):=DK hd fun b o hb' e=>hm b o (fun z=>Nat.lt_irrefl _ (Nat.lt_of_le_of_lt (List.mem_singleton.mp z ▸ hb') hDI)) e;have hb1:∀b o,b<D->h0.get? b=some o->h'.get? b=some o:=fun b o hb' e=>hm b o (fun z=>Nat.lt_irrefl _ (Nat.lt_trans (List.mem_singleton.mp z ▸ hb') hDI)) (hb b o hb' e);have hpl:i<ps.length:=by have:=ht.1;lia
  have hp:=ht.2 i v ps[i] hP (List.getElem?_eq_getElem hpl) h' hb1;refine wpAny_bind (wpAny_holding (wpAny_bind (wpAny_tryCatch (pair_items (s:={ s with heap:=h',toks:=tk }) hp fun uk huk=>?_))));dsimp only;have hml:(merged [] (ps.take i)).length<=sizeLine:=by
   have:=merged_length_le ([]:List (K×Value)) (ps.take i);rw[List.length_take] at this;have h0l:([]:List (K×Value)).length=0:=rfl;have:=ht.1;rw[sizeLine_eq];lia
  refine wpAny_holding (wpAny_dictSet_pairs (s:={ s with heap:=h',toks:=tk }) (hsz:=hml) huk hd' fun h2 hd2 sb=>?_);have hk2:∀b o,b≠D->h'.get? b=some o->h2.get? b=some o:=fun b o hb e=>(sb.2 b hb).trans e;refine wpAny_pure ⟨plainId_quiet Zw _,ih (i+1) (j+1) 0 _ (by lia) hlt ?_ hlD ?_ (fun b o hb' e=>hk2 b o (Nat.ne_of_lt hb') (hb1 b o hb' e)) fun h3 tk3 hw3 hb3=>hR h3 tk3 hw3 hb3⟩
  ·refine W.frame _ h' h2 hst' fun b hb o e=>hk2 b o (fun z=>?_) e;simp only[List.mem_cons,List.not_mem_nil,or_false] at hb;rcases hb with rfl|rfl
   ·exact Nat.lt_irrefl _ (z ▸ hDI)
   ·exact Nat.lt_irrefl _ (z ▸ hlD)
  ·rw[merged_take_succ [] ps i ps[i] (List.getElem?_eq_getElem hpl)];exact hd2
set_option maxHeartbeats 1000000 in
theorem Zdh{s:Shared}{l:Addr}{items:Array Value}{n:Nat}{sl:Array (Option Value)}{ps:List (K×Value)}{Q:Value->Shared->Prop}(hh:A.handled=none)(hl:s.heap.get? l=some { cls:=.type "list",dict:=none,data:=.seq items n,slots:=sl }) (ht:Zid knd s.heap s.heap.objs.size items ps) (hn:items.size<=100000)
  (q:∀(h':Heap)(tk:Nat),h'.DictOf knd s.heap.objs.size (merged [] ps)->(∀b o,s.heap.get? b=some o->h'.get? b=some o)->Q (.ref s.heap.objs.size) { s with heap:=h',toks:=tk }) :
  wpAny (model prog w) A (call (.type "dict") [.ref l]) Q E s:=by
 refine callType_codes (Q₁ := fun obj s₁=>obj=.ref s.heap.objs.size/\s₁ = { s with heap:=s.heap.push { cls:=.type "dict",data:=.dict #[] } }) F.kt_called_dict (F.kt_typeCall_dict_1 _) F.entry_dict_init (kt_code_dict_new _ ⟨rfl,rfl⟩) ?_;rintro obj s₁ ⟨rfl,rfl⟩;have hnew:(s.heap.push { cls:=.type "dict",data:=.dict #[] }).DictOf knd s.heap.objs.size []:=Heap.DictOf.new s.heap;have hl1:(s.heap.push { cls:=.type "dict",data:=.dict #[] }).get? l=some { cls:=.type "list",dict:=none,data:=.seq items n,slots:=sl }:=Heap.get?_push_of_some _ hl;have hlD:l<s.heap.objs.size:=Heap.lt_size hl;have k0:∀b o,b<s.heap.objs.size->s.heap.get? b=some o->(s.heap.push { cls:=.type "dict",data:=.dict #[] }).get? b=some o:=fun b o _ e=>Heap.get?_push_of_some _ e;have z0:(s.heap.push { cls:=.type "dict",data:=.dict #[] }).objs.size=s.heap.objs.size+1:=Heap.size_push ..;refine⟨hnew.typeIs,F.args_dict_init_2 _ _,?_⟩;generalize s.heap.push { cls:=.type "dict",data:=.dict #[] }=h1 at hnew hl1 k0 z0;unfold Builtin.«dict.__init__»;refine wpAny_bind ?_;unfold Builtin.Dict.selfAndRest;refine wpAny_bind (wpAny_notOrdered_dict hnew.typeIs ?_);show wpAny _ _ (pure (s.heap.objs.size,[Value.ref l])) _ _ _;refine wpAny_pure ?_;show wpAny _ _ (Builtin.Dict.updateFrom "dict.__init__" s.heap.objs.size (.ref l) [] .none) _ _ _;unfold Builtin.Dict.updateFrom;refine wpAny_bind (wpAny_typeOf (T := "list") ⟨_,hl1,rfl⟩ ?_);rw[if_pos (by decide)];refine wpAny_bind (Zb6 hh hl1 fun h2 tk2 k2 z2=>?_);rw[if_pos (show(none:Option Value).isNone=true from rfl)];refine wpAny_bind (wpAny_rule ?_);have hl2:=k2 _ _ hl1;have hL2:h2.IsList l items:=⟨_,hl2,rfl,n,rfl⟩;refine wpAny_bind (wpAny_pyIter_list hL2 ?_);have hd2:h2.DictOf knd s.heap.objs.size []:=let ⟨o,es,ep,ho,r⟩:=hnew;⟨o,es,ep,k2 _ _ ho,r⟩;have hd3:(h2.push { cls:=.type "list_iterator",data:=.fields #[.ref l,.int 0 0] }).DictOf knd s.heap.objs.size []:=hd2.push _;have hsz:s.heap.objs.size<h2.objs.size:=by lia
 refine wpAny_pure ⟨plainId_quiet Zw _,?_⟩;refine Ziu (knd:=knd) (h0:=s.heap) (by simpa using hh) ht hsz (Nat.ne_of_lt (Nat.lt_trans hlD hsz)) hn (items.size-0) 0 0 0 _ rfl (Nat.zero_le _) ⟨⟨_,Heap.get?_push_size _ rfl,rfl,rfl⟩,hL2.push _⟩ hlD hd3 (fun b o hb e=>Heap.get?_push_of_some _ (k2 _ _ (k0 b o hb e))) fun h' tk hd' hb'=>?_;exact⟨rfl,q h' tk hd' fun b o e=>hb' b o (Heap.lt_size e) e⟩
end
end Srd
namespace L2
open PySem PySem.Spec PyProof.Rows PySem.W
def putAll(kvs:List (Key×V)):List (Key×V):=kvs.foldl (fun m kv=>putK m kv.1 kv.2) []
theorem ZbP:∀(kvs m:List (Key×V)),(kvs.foldl (fun m kv=>putK m kv.1 kv.2) m).length<=m.length+kvs.length
 | [],m=>Nat.le_refl _
 | kv::kvs,m=>by
  have h1:=ZbP kvs (putK m kv.1 kv.2);have h2:=Za5 m kv.1 kv.2;rw[List.length_cons,List.foldl_cons];lia
theorem Zcu(kvs:List (Key×V)):(putAll kvs).length<=kvs.length:=by
 have:=ZbP kvs [];rw[List.length_nil,Nat.zero_add] at this;exact this
theorem ZjA:∀{kvs:List (Key×V)}{ps:List (Key×Value)}{m:List (Key×V)}{m':List (Key×Value)},KV kvs ps->KV m m'->KV (kvs.foldl (fun m kv=>putK m kv.1 kv.2) m) (merged m' ps)
 | _,_,_,_,.nil,h=>h
 | _,_,m,m',.cons (a:=kv) (b:=p) r t,h=>by
  have e:p.1=kv.1:=r.1.symm;have h1:=h.put kv.1 r.2;have h2:=ZjA t h1;show KV (List.foldl _ (putK m kv.1 kv.2) _) (merged (stored m' p.1 p.2) _);rw[e];exact h2
section
variable{X:Cx}
theorem Zbw(hc:X.calm=true):Zb3 X (.type "dict") (fun xs H Q=>∃l ys kvs,xs=[.ref l]/\SqL X.K H l ys/\ys.length<=90000/\Paired (fun(y:V)(kv:Key×V)=>∃t,y=.ref t/\H t=some (.tup [kV kv.1,kv.2])) ys kvs/\∀d,H d=none->Q (.ref d) (upd H d (.dK (putAll kvs)))):=by
 intro pins s σ H xs us Q I r h;obtain⟨l,ys,kvs,rfl,hq,hlen,hp,q⟩:=h;obtain⟨u,rfl,ru⟩:=vals1 r;cases ru;obtain⟨its,rv,⟨o,n,ho,ocl,odi,oda⟩,hz⟩:=I.list hq;have hl:=rv.length;obtain⟨ocls,odict,odata,oslots⟩:=o;simp only at ocl odi oda;subst ocl odi oda;have key:∀{ys:List V}{kvs:List (Key×V)}{its:List Value},Paired (fun(y:V)(kv:Key×V)=>∃t,y=.ref t/\H t=some (.tup [kV kv.1,kv.2])) ys kvs->Vals ys its->∃ps:List (Key×Value),KV kvs ps/\its.length=ps.length/\∀(i:Nat) v p,its[i]?= some v->ps[i]?= some p->Srd.ZiF (Zao X.prog X.w) s.heap v p.1 p.2:=by
  intro ys kvs its hp
  induction hp generalizing its with
  | nil =>
   intro rv;cases rv;exact⟨[],.nil,rfl,fun i v p h=>(nomatch h)⟩
  | @cons y kv ys kvs r t ih =>
   intro rv;cases rv with
   | @cons _ v _ its ry rr =>
    obtain⟨ps,h1,h2,h3⟩:=ih rr;obtain⟨ta,rfl,ht⟩:=r;obtain rfl:v=Value.ref ta:=ry;obtain⟨_,us,rus,o,ho,hc',n,hd⟩:=I.hok ta _ ht;obtain⟨u1,u2,rfl,r1,r2⟩:=Vals.two rus;refine⟨(kv.1,u2)::ps,.cons ⟨rfl,r2⟩ h1,by rw[List.length_cons,List.length_cons,h2],fun i v p e1 e2=>?_⟩;cases i with
    | zero =>
     injection e1 with e1;injection e2 with e2;subst e1 e2;exact⟨ta,o,n,u1,rfl,ho,hc',hd,ZeY r1⟩
    | succ i=>exact h3 i v p e1 e2
 obtain⟨ps,h1,h2,h3⟩:=key hp rv;refine Srd.Zdh (knd:=Zao X.prog X.w) (ps:=ps) (I.ok.hd hc) ho ⟨by rw[List.size_toArray];exact h2,fun i v p e1 e2 h' hk=>?_⟩ (by rw[List.size_toArray];lia) fun h' tk hd' hk=>?_
 ·obtain⟨b,o,n,uk,e,ho2,r⟩:=h3 i v p (by rw[<- e1];simp) e2;exact⟨b,o,n,uk,e,hk b o (Heap.lt_size ho2) ho2,r⟩
 ·have hkl:kvs.length=ps.length:=h1.length;have hpl:=Zcu kvs;exact⟨.ref _,_,I.laid (t':=tk) (fun b o e=>hk b o e) (Nat.le_refl _) (show Zaz X.prog X.w _ h' _ (.dK (putAll kvs)) from⟨by rw[sizeLine_eq];lia,beq_eq_false_iff_ne.mpr (Ne.symm (Nat.ne_of_lt I.big)),_,ZjA h1 .nil,hd'⟩),rfl,q _ (I.hok.fresh (Nat.le_refl _))⟩
theorem Zhu{zs:List V}{ns:List Int}(h:zs.Perm (ns.map V.int)):∃ms:List Int,zs=ms.map V.int/\ms.Perm ns:=by
 obtain⟨ms,rfl,_⟩:=Zgv zs fun z hz=>h.mem_iff.mp hz;refine⟨ms,rfl,?_⟩;have h2:=h.filterMap (fun v=>match v with|V.int i=>some i|_=>none)
 simpa[List.filterMap_map,Function.comp_def] using h2
theorem Zfs:∀{vs:List V}{us:List Value},Vals vs us->∀v∈vs,∃u∈us,RelV v u
 | _,_,.cons a t,v,hv=>by
  rcases List.mem_cons.mp hv with rfl|hv
  ·exact⟨_,List.mem_cons_self ..,a⟩
  ·obtain⟨u,hu,r⟩:=Zfs t v hv;exact⟨u,List.mem_cons_of_mem _ hu,r⟩
theorem rising:∀{ms:List Int}{us:List Value},Vals (ms.map V.int) us->us.Pairwise (fun u v=>Srd.iLt v u=false)->ms.Pairwise (· <= ·)
 | [],_,_,_=>.nil
 | m::ms,us,r,h=>by
  cases r with
  | cons r rr =>
   obtain⟨t,rfl⟩:=r;obtain⟨h1,h2⟩:=List.pairwise_cons.mp h;refine List.pairwise_cons.mpr ⟨fun m' hm=>?_,rising rr h2⟩;obtain⟨u,hu,ru⟩:=Zfs rr (V.int m') (List.mem_map.mpr ⟨m',hm,rfl⟩);obtain⟨t',rfl⟩:=ru;have:=of_decide_eq_false (h1 _ hu);have h3 : ¬ m'<m:=this;lia
theorem strictly{ms:List Int}(h:ms.Pairwise (· <= ·))(hn:ms.Nodup):ms.Pairwise (· < ·):=by
 refine List.pairwise_iff_getElem.mpr fun i j hi hj hij=>?_;have h1:=(List.pairwise_iff_getElem.mp h) i j hi hj hij;have h2:=(List.pairwise_iff_getElem.mp hn) i j hi hj hij;lia
theorem Zhm{P:Program}{w:World}{kvs:List (Key×V)}{ps:List (Key×Value)}(h:KV kvs ps):∀{es:List DictEntry}{ns:List Int},PySem.Pairs (Zao P w) es ps->kvs.map (·.1)=ns.map Sum.inl->Vals (ns.map V.int) (es.map (·.key)):=by
 have h':Paired (fun(p:Key×V)(q:Key×Value)=>p.1=q.1/\RelV p.2 q.2) kvs ps:=h;clear h
 induction h' with
 | nil =>
  intro es ns h2 e;cases h2;cases ns with
  | nil=>exact .nil
  | cons n ns=>cases e
 | cons r t ih =>
  intro es ns h2 e;cases h2 with
  | cons h1 h2 h3 =>
   cases ns with
   | nil=>cases e
   | cons n ns =>
    rw[List.map_cons,List.map_cons] at e;obtain⟨e1,e2⟩:=List.cons.inj e;refine .cons ?_ (ih h3 e2);rw[<- r.1,e1] at h1;have h1':ZfG (Sum.inl n) _=true:=h1;rcases Zaq h1' with⟨i,t,he,hk⟩|⟨x,t,he,hk⟩
    ·cases he;exact⟨t,hk⟩
    ·cases he
theorem ZhV:∀{kvs:List (Key×V)}{vs:List (Key×Value)},KV kvs vs->kvs.map (·.1)=vs.map (·.1)
 | _,_,.nil=>rfl
 | _,_,.cons r t=>by rw[List.map_cons,List.map_cons,r.1,ZhV t]
theorem ZdW(hc:X.calm=true):Zb3 X (.builtin "sorted") (fun xs H Q=>∃(d:Addr)(kvs:List (Key×V))(ns:List Int),xs=[.ref d]/\H d=some (.dK kvs)/\kvs.length<=90000/\kvs.map (·.1)=ns.map Sum.inl/\∀(p:Addr)(ms:List Int),H p=none->ms.Perm ns->ms.Pairwise (· < ·)->Q (.ref p) (upd H p (.lst (ms.map V.int)))):=by
 intro pins s σ H xs us Q I r h;obtain⟨d,kvs,ns,rfl,hd,hlen,hkn,q⟩:=h;obtain⟨u,rfl,rx⟩:=vals1 r;obtain rfl:u=.ref d:=rx;obtain⟨hl,lo,vs,kv,o,es,ep,ho,hx,hdat,hko,hpr,hnd⟩:=Zkm I.hok hd;have hvals:=Zhm kv hpr hkn;have hkl:kvs.length=vs.length:=kv.length;have hnl:kvs.length=ns.length:=by have:=congrArg List.length hkn;simpa using this
 have hes:es.size=ns.length:=by
  have:=hvals.length
  simpa using this.symm
 have hnod:ns.Nodup:=by
  rw[<- ZhV kv,hkn] at hnd;exact(List.pairwise_map.mp hnd).imp fun h e=>h (by rw[e])
 refine Srd.ZbF (C:=fun ys=>Vals (ns.map V.int) ys) Srd.ZkA (fun Q' E' hq=>?_) (fun ys h6 tk d6 hC k6 h2=>Srd.ZdU (fun v hv=>?_) h2) fun p ys out h' tk d6 c hC hperm hso kp e3 hle hos=>?_
 ·refine Srd.ZbD (Zen lo) (I.ok.hd hc) (⟨o,ho,hx,hdat⟩:ZgB s.heap d es ep) (by rw[sizeLine_eq];lia) fun acc h' tk kp hit hle=>?_;have hacc:acc.toList=es.toList.map (·.key):=by
   refine List.ext_getElem? fun j=>?_;rw[Array.getElem?_toList,List.getElem?_map,Array.getElem?_toList];cases hj:acc[j]? with
   | none =>
    have h3:acc.size<=j:=Array.getElem?_eq_none_iff.mp hj;rw[hit.1] at h3;rw[Array.getElem?_eq_none h3];rfl
   | some v =>
    obtain⟨e,h1,rfl⟩:=hit.2 j v hj;rw[h1];rfl
  rw[hacc];exact hq _ h' tk s.drawn kp hvals (by rw[List.length_map,Array.length_toList];lia) hle
 ·obtain⟨y,hy,ry⟩:=Zbd hC v hv;obtain⟨i,_,rfl⟩:=List.mem_map.mp hy;obtain⟨t,rfl⟩:=ry;exact⟨i,t,rfl⟩
 ·obtain⟨zs,pz,rz⟩:=Ziz hperm hC;obtain⟨ms,rfl,pm⟩:=Zhu pz;have hzl:=rz.length;have I2:=I.laid (h':=h') (t':=tk) (a:=p) (o:=.lst (ms.map V.int)) (fun b o e=>kp b o e) hle (show Zaz X.prog X.w _ h' _ (.lst (ms.map V.int)) from⟨by rw[hzl,Array.length_toList,sizeLine_eq];lia,out.toList,c,rz,e3⟩);exact⟨.ref p,_,I2.draws (d:=d6),rfl,q p ms (I.hok.fresh hle) pm (strictly (rising rz hso) ((pm.nodup_iff).mpr hnod))⟩
end
end L2
namespace Srd
open PySem PyProof.Rows Srt PySem.W
structure Sto{α : Type}(lt : α -> α -> Bool):Prop where
 irr:∀a,lt a a=false
 trans:∀a b c,lt a b=true->lt b c=true->lt a c=true
 tri:∀a b,lt a b=false->lt b a=false->a=b
section
variable{α β : Type}{lt : α -> α -> Bool}{lt2 : β -> β -> Bool}
theorem Sto.asym(o:Sto lt){a b : α}(h:lt a b=true):lt b a=false:=by
 cases e:lt b a with
 | false=>rfl
 | true =>
  have:=o.trans a b a h e;rw[o.irr] at this;cases this
theorem Sto.neg(o:Sto lt){x y z : α}(h1:lt x y=false)(h2:lt y z=false):lt x z=false:=by
 cases e:lt x z with
 | false=>rfl
 | true =>
  cases e2:lt y x with
  | true=>rw[o.trans y x z e2 e] at h2;cases h2
  | false =>
   have:=o.tri x y h1 e2;subst this;rw[e] at h2;cases h2
theorem Sto.swo(o:Sto lt)(f:Value -> α):Swo fun x y=>lt (f x.1) (f y.1):=⟨fun _ _ h=>o.asym h,fun _ _ _ h1 h2=>o.neg h1 h2⟩
def ZiJ[DecidableEq α](lt : α -> α -> Bool)(lt2 : β -> β -> Bool)(x y : α × β):Bool:=lt x.1 y.1 || (decide (x.1=y.1)&&lt2 x.2 y.2)
theorem Sto.lex[DecidableEq α](o:Sto lt)(o2:Sto lt2):Sto (ZiJ lt lt2) where
 irr:=fun a=>by unfold ZiJ;rw[o.irr,o2.irr];simp
 trans:=fun a b c h1 h2=>by
  unfold ZiJ at *;simp only[Bool.or_eq_true,Bool.and_eq_true,decide_eq_true_eq] at *;rcases h1 with h1|⟨e1,h1⟩
  ·rcases h2 with h2|⟨e2,h2⟩
   ·exact .inl (o.trans _ _ _ h1 h2)
   ·exact .inl (e2 ▸ h1)
  ·rcases h2 with h2|⟨e2,h2⟩
   ·exact .inl (e1.symm ▸ h2)
   ·exact .inr ⟨e1.trans e2,o2.trans _ _ _ h1 h2⟩
 tri:=fun a b h1 h2=>by
  unfold ZiJ at *;simp only[Bool.or_eq_false_iff,Bool.and_eq_false_imp,decide_eq_true_eq] at *;have e1:=o.tri _ _ h1.1 h2.1;have e2:=o2.tri _ _ (h1.2 e1) (h2.2 e1.symm);exact Prod.ext e1 e2
theorem Zb9:Sto fun a b:Int=>decide (a<b):=⟨fun a=>by simp,fun a b c h1 h2=>by simp only[decide_eq_true_eq] at *;lia,fun a b h1 h2=>by simp only[decide_eq_false_iff_not] at *;lia⟩
theorem ZdE:∀a b:List Nat,¬ a<b -> ¬ b<a->a=b
 | [],[],_,_=>rfl
 | [],b::bs,h,_=>absurd (List.nil_lt_cons b bs) h
 | a::as,[],_,h=>absurd (List.nil_lt_cons a as) h
 | a::as,b::bs,h1,h2=>by
  rw[List.cons_lt_cons_iff] at h1 h2;have e:a=b:=by
   rcases Nat.lt_trichotomy a b with z|z|z
   ·exact absurd (.inl z) h1
   ·exact z
   ·exact absurd (.inl z) h2
  subst e;rw[ZdE as bs (fun z=>h1 (.inr ⟨rfl,z⟩)) (fun z=>h2 (.inr ⟨rfl,z⟩))]
theorem Za6:∀a:List Nat,¬ a<a
 | [],h=>by cases h
 | a::as,h=>by
  rw[List.cons_lt_cons_iff] at h;rcases h with h|⟨_,h⟩
  ·lia
  ·exact Za6 as h
theorem Zck:∀a b c:List Nat,a<b->b<c->a<c
 | [],_,[],_,h2=>by cases h2
 | [],_,c::cs,_,_=>List.nil_lt_cons c cs
 | a::as,[],_,h1,_=>by cases h1
 | a::as,b::bs,[],_,h2=>by cases h2
 | a::as,b::bs,c::cs,h1,h2=>by
  rw[List.cons_lt_cons_iff] at *;rcases h1 with h1|⟨e1,h1⟩
  ·rcases h2 with h2|⟨e2,h2⟩
   ·exact .inl (by lia)
   ·exact .inl (by lia)
  ·rcases h2 with h2|⟨e2,h2⟩
   ·exact .inl (by lia)
   ·exact .inr ⟨by lia,Zck as bs cs h1 h2⟩
theorem ZkJ{x y:Str}(h:x.cps.toList=y.cps.toList):x=y:=by
 cases x;cases y
 congr 1
 exact Array.toList_inj.mp h
theorem Zig:Sto fun a b:Str=>decide (a.cps.toList<b.cps.toList):=⟨fun a=>decide_eq_false (Za6 _),fun a b c h1 h2=>decide_eq_true (Zck _ _ _ (of_decide_eq_true h1) (of_decide_eq_true h2)),fun a b h1 h2=>ZkJ (ZdE _ _ (of_decide_eq_false h1) (of_decide_eq_false h2))⟩
end
abbrev Qd:=Int×Str×Int×Int
def qLt:Qd->Qd->Bool:=ZiJ (fun a b:Int=>decide (a<b)) (ZiJ (fun a b:Str=>decide (a.cps.toList<b.cps.toList)) (ZiJ (fun a b:Int=>decide (a<b)) fun a b:Int=>decide (a<b)))
theorem ZhM:Sto qLt:=Zb9.lex (Zig.lex (Zb9.lex Zb9))
def IsQ(h:Heap)(v:Value)(q:Qd):Prop := ∃a o t u t2 t3 n,v=.ref a/\h.get? a=some o/\o.cls=.type "tuple" /\ o.data=.seq #[.int q.1 t,.str q.2.1 u,.int q.2.2.1 t2,.int q.2.2.2 t3] n
theorem IsQ.inj{h:Heap}{v:Value}{q q':Qd}(x:IsQ h v q)(y:IsQ h v q'):q=q':=by
 obtain⟨a,o,t,u,t2,t3,n,rfl,h1,_,h3⟩:=x;obtain⟨a',o',t',u',t2',t3',n',e,h1',_,h3'⟩:=y;cases e;rw[h1] at h1';cases h1';rw[h3] at h3';obtain⟨q1,q2,q3,q4⟩:=q;obtain⟨r1,r2,r3,r4⟩:=q';simp only[Data.seq.injEq,Array.mk.injEq,List.cons.injEq,Value.int.injEq,Value.str.injEq,and_true] at h3';obtain⟨⟨⟨e1,_⟩,⟨e2,_⟩,⟨e3,_⟩,⟨e4,_⟩⟩,_⟩:=h3';rw[e1,e2,e3,e4]
theorem IsQ.keep{h h':Heap}{v:Value}{q:Qd}(x:IsQ h v q)(k:∀b o,h.get? b=some o->h'.get? b=some o):IsQ h' v q:=by
 obtain⟨a,o,t,u,t2,t3,n,rfl,h1,r⟩:=x;exact⟨a,o,t,u,t2,t3,n,rfl,k _ _ h1,r⟩
open Classical in
noncomputable def kq(h:Heap)(v:Value):Qd:=if x:∃q,IsQ h v q then x.choose else(0,Str.empty,0,0)
theorem ZiW{h:Heap}{v:Value}{q:Qd}(x:IsQ h v q):kq h v=q:=by
 unfold kq;rw[dif_pos ⟨q,x⟩];exact(Exists.choose_spec (⟨q,x⟩:∃q,IsQ h v q)).inj x
section
variable{prog:Program}{w:World}{A:Around}{s:Shared}
theorem ZhI{h:Heap}:∀{vs:List Value},(∀v∈vs,∃q,IsQ h v q)->∃fs,KatTups h vs fs/\fs.length=vs.length/\∀f∈fs,∃i t,f=.int i t
 | [],_=>⟨[],trivial,rfl,fun _ h=>nomatch h⟩
 | v::vs,hv=>by
  obtain⟨q,a,o,t,u,t2,t3,n,rfl,ho,hc,hd⟩:=hv v (List.mem_cons_self ..);obtain⟨fs,kt,hl,hf⟩:=ZhI (vs:=vs) fun x hx=>hv x (List.mem_cons_of_mem _ hx);refine⟨.int q.1 t::fs,KatTups.cons ho hc hd rfl kt,by simp[hl],fun f hm=>?_⟩;rcases List.mem_cons.mp hm with rfl|hm
  ·exact⟨_,t,rfl⟩
  ·exact hf f hm
theorem Ze9{h0:Heap}{vs:List Value}(hv:∀v∈vs,∃q,IsQ h0 v q)(k0:∀b o,h0.get? b=some o->s.heap.get? b=some o)(h2:2<=vs.length):Zby prog w A (fun u v=>qLt (kq h0 u) (kq h0 v)) vs s:=by
 have hv':∀v∈vs,∃q,IsQ s.heap v q:=fun v hm=>let ⟨q,x⟩:=hv v hm;⟨q,x.keep k0⟩;obtain⟨fs,k,hl,hf⟩:=ZhI hv';refine⟨tuples' true,fun Q E hq=>?_,?_⟩
 ·refine kat_kind (T:=.type "int") k (by lia) (fun v hm=>?_) rfl hq;obtain⟨i,t,rfl⟩:=hf v hm;exact Looks.of_pure rfl
 ·intro x y hx hy E;rw[pairsOf_toList] at hx hy;obtain⟨q,xq⟩:=hv _ (mem_zip_self hx).2;obtain⟨q',yq⟩:=hv _ (mem_zip_self hy).2;have e1:(fun x y:Keyed=>qLt (kq h0 x.1) (kq h0 y.1)) x y=qLt q q':=by
   show qLt (kq h0 x.1) (kq h0 y.1)=_;have hx1:=(mem_zip_self hx);have hy1:=(mem_zip_self hy);rw[ZiW xq,ZiW yq]
  rw[e1];obtain⟨a,o,t,u,t2,t3,n,e,ho,hc,hd⟩:=xq.keep k0;obtain⟨a',o',t',u',t2',t3',n',e',ho',hc',hd'⟩:=yq.keep k0;rw[e,e'];obtain⟨q1,q2,q3,q4⟩:=q;obtain⟨r1,r2,r3,r4⟩:=q';refine kat_lt ho hd ho' hd' ?_;have unf:qLt (q1,q2,q3,q4) (r1,r2,r3,r4)=(decide (q1<r1) || (decide (q1=r1)&&(decide (q2.cps.toList<r2.cps.toList) || (decide (q2=r2)&&(decide (q3<r3) || (decide (q3=r3)&&decide (q4<r4))))))):=rfl;rw[unf];refine kat_cons (wpAny_eqBool_int (kat_go (fun c1=>kat_yes ?_) (fun c1=>kat_no ?_)))
  ·have c1':q1=r1:=eq_of_beq c1;refine kat_cons (wpAny_eqBool_str (kat_go (fun c2=>kat_yes ?_) (fun c2=>kat_no ?_)))
   ·have c2':q2=r2:=of_decide_eq_true c2;refine kat_cons (wpAny_eqBool_int (kat_go (fun c3=>kat_yes ?_) (fun c3=>kat_no ?_)))
    ·have c3':q3=r3:=eq_of_beq c3;refine kat_cons (wpAny_eqBool_int (kat_go (fun c4=>kat_yes (kat_nil ⟨rfl,?_⟩)) (fun c4=>kat_no ?_)))
     ·have c4':q4=r4:=eq_of_beq c4;subst c1' c2' c3' c4';rw[decide_eq_false (Za6 q2.cps.toList)];simp
     ·refine kat_one _ _ (wpAny_lt_int ⟨rfl,?_⟩);subst c1' c2' c3';rw[decide_eq_false (Za6 q2.cps.toList)];simp
    ·refine kat_one _ _ (wpAny_lt_int ⟨rfl,?_⟩);have c3' : ¬ q3=r3:=fun z=>by rw[z] at c3;simp at c3
     subst c1' c2';rw[decide_eq_false (Za6 q2.cps.toList)];simp[c3']
   ·refine kat_one _ _ (PyProof.Rows.lt_str ⟨rfl,?_⟩);have c2' : ¬ q2=r2:=of_decide_eq_false c2;subst c1';simp[c2']
  ·refine oneLt_int ⟨rfl,?_⟩;have c1' : ¬ q1=r1:=fun z=>by rw[z] at c1;simp at c1
   simp[c1']
end
end Srd
namespace Srd
theorem Sto.one{α : Type}{lt : α -> α -> Bool}(o:Sto lt):∀{l m:List α},l.Pairwise (fun a b=>lt a b=true)->m.Pairwise (fun a b=>lt a b=true)->(∀x,x∈l↔x∈m)->l=m
 | [],[],_,_,_=>rfl
 | [],b::m,_,_,h=>absurd ((h b).mpr (List.mem_cons_self ..)) (by simp)
 | a::l,[],_,_,h=>absurd ((h a).mp (List.mem_cons_self ..)) (by simp)
 | a::l,b::m,hl,hm,h=>by
  obtain⟨l1,l2⟩:=List.pairwise_cons.mp hl;obtain⟨m1,m2⟩:=List.pairwise_cons.mp hm;have e:a=b:=by
   rcases List.mem_cons.mp ((h a).mp (List.mem_cons_self ..)) with z|z
   ·exact z
   ·rcases List.mem_cons.mp ((h b).mpr (List.mem_cons_self ..)) with y|y
    ·exact y.symm
    ·have h1:=m1 a z;have h2:=l1 b y;rw[o.asym h1] at h2;cases h2
  subst e;rw[Sto.one o l2 m2 fun x=>?_];constructor
  ·intro hx;rcases List.mem_cons.mp ((h x).mp (List.mem_cons_of_mem _ hx)) with z|z
   ·subst z;have:=l1 x hx;rw[o.irr] at this;cases this
   ·exact z
  ·intro hx;rcases List.mem_cons.mp ((h x).mpr (List.mem_cons_of_mem _ hx)) with z|z
   ·subst z;have:=m1 x hx;rw[o.irr] at this;cases this
   ·exact z
theorem Sto.strict{α : Type}{lt : α -> α -> Bool}(o:Sto lt){l:List α}(h:l.Pairwise (fun a b=>lt b a=false))(hn:l.Nodup):l.Pairwise (fun a b=>lt a b=true):=by
 refine List.pairwise_iff_getElem.mpr fun i j hi hj hij=>?_;have h1:=(List.pairwise_iff_getElem.mp h) i j hi hj hij;have h2:=(List.pairwise_iff_getElem.mp hn) i j hi hj hij;cases e:lt l[i] l[j] with
 | true=>rfl
 | false=>exact absurd (o.tri _ _ e h1) h2
end Srd
namespace L2
open PySem PySem.Spec PyProof.Rows PySem.W Srd Sts Stg
def tq(q:Qd):HO:=.tup [.int q.1,.str q.2.1,.int q.2.2.1,.int q.2.2.2]
def QL(H:Hp)(zs:List V)(qs:List Qd):Prop:=Paired (fun z q=>∃p,z=V.ref p/\H p=some (tq q)) zs qs
def kOf(q:Qd):List Key:=[Sum.inl q.1,Sum.inr q.2.1,Sum.inl q.2.2.1,Sum.inl q.2.2.2]
theorem QL.mem{H:Hp}:∀{zs:List V}{qs:List Qd},QL H zs qs->∀z∈zs,∃p,∃q∈qs,z=V.ref p/\H p=some (tq q)
 | _,_,.cons ⟨p,e1,e2⟩ t,z,hz=>by
  rcases List.mem_cons.mp hz with rfl|hz
  ·exact⟨p,_,List.mem_cons_self ..,e1,e2⟩
  ·obtain⟨p',q',h1,h2⟩:=QL.mem t z hz;exact⟨p',q',List.mem_cons_of_mem _ h1,h2⟩
theorem QL.length{H:Hp}:∀{zs:List V}{qs:List Qd},QL H zs qs->zs.length=qs.length
 | _,_,.nil=>rfl
 | _,_,.cons _ t=>by rw[List.length_cons,List.length_cons,QL.length t]
theorem QL.get{H:Hp}:∀{zs:List V}{qs:List Qd},QL H zs qs->∀(i:Nat) z,zs[i]?= some z->∃p q,qs[i]?= some q/\z=V.ref p/\H p=some (tq q)
 | _,_,.cons ⟨p,e1,e2⟩ t,i,z,hz=>by
  cases i with
  | zero =>
   injection hz with hz;subst hz;exact⟨p,_,rfl,e1,e2⟩
  | succ i=>exact QL.get t i z hz
theorem QL.keep{H H':Hp}:∀{zs:List V}{qs:List Qd},QL H zs qs->(∀b xs,H b=some (.tup xs)->H' b=some (.tup xs))->QL H' zs qs
 | _,_,.nil,_=>.nil
 | _,_,.cons ⟨p,e1,e2⟩ t,k=>.cons ⟨p,e1,k _ _ e2⟩ (QL.keep t k)
section
variable{X:Cx}{e:Expr}{te:TE}{p p' pos pos':Pos}
theorem ZhR{P:Program}{w:World}{H:Hp}{h:Heap}{t:Addr}{q:Qd}(ok:HOk P w H h)(e:H t=some (tq q)):IsQ h (.ref t) q:=by
 obtain⟨_,us,rus,o,ho,hc',n,hd⟩:=ok t _ e;obtain⟨u1,us,rfl,r1,rus⟩:=Vals.inv rus;obtain⟨u2,us,rfl,r2,rus⟩:=Vals.inv rus;obtain⟨u3,us,rfl,r3,rus⟩:=Vals.inv rus;obtain⟨u4,us,rfl,r4,rus⟩:=Vals.inv rus;obtain rfl:=Vals.end_ rus;obtain⟨t1,rfl⟩:=r1;obtain⟨t2,rfl⟩:=r2;obtain⟨t3,rfl⟩:=r3;obtain⟨t4,rfl⟩:=r4;exact⟨t,o,t1,t2,t3,t4,n,rfl,ho,hc',hd⟩
theorem ZjH{P:Program}{w:World}{H:Hp}{h0:Heap}(ok:HOk P w H h0){ys:List V}{its:List Value}{qs:List Qd}(rv:Vals ys its)(ql:QL H ys qs):∀us:List Value,(∀u∈us,u∈its)->∃zs,Vals zs us/\QL H zs (us.map (kq h0))
 | [],_=>⟨[],.nil,.nil⟩
 | u::us,h=>by
  obtain⟨y,hy,ry⟩:=Zbd rv u (h u (List.mem_cons_self ..));obtain⟨zs,rz,hz⟩:=ZjH ok rv ql us fun x hx=>h x (List.mem_cons_of_mem _ hx);obtain⟨t,q,_,rfl,e2⟩:=ql.mem y hy;have hu:u=Value.ref t:=ry;subst hu;exact⟨_,.cons ry rz,.cons ⟨t,rfl,by rw[ZiW (ZhR ok e2)];exact e2⟩ hz⟩
end
end L2
namespace L2
open PySem PySem.Spec PyProof.Rows PySem.W Srd
section
variable{X:Cx}
theorem ZjJ{P:Program}{w:World}{H:Hp}{h0:Heap}(ok:HOk P w H h0):∀{ys:List V}{its:List Value}{qs:List Qd},Vals ys its->QL H ys qs->its.map (kq h0)=qs
 | _,_,_,.nil,.nil=>rfl
 | _,_,_,.cons (b:=u) r rr,.cons ⟨p,e1,e2⟩ t=>by
  subst e1;have hu:u=Value.ref p:=r;subst hu;rw[List.map_cons,ZjJ ok rr t,ZiW (ZhR ok e2)]
end
end L2
namespace Fg
open PySem L2 FgM
theorem Zfz{X:Cx}{K:PySem.W.Frag}{es:List Expr}{k:Nat}{t:TGs}{n:Nat}{pos:Pos}(hK:X.K=K)(hc:X.calm=true)(h:PGs X es t)(hn:(assignEach es X.env).length=n:=by rfl)(hst:(assignEach es X.env).findIdx? (·.1)=none:=by rfl):PG X (.Tuple es k pos) (Zl8 K n t):=by
 subst hK;exact Zdw hc h hn hst
theorem Zcs:bootBuiltins "sorted" = some (.builtin "sorted"):=by decide +kernel
theorem Zda{K:PySem.W.Frag}{a p:Addr}{xs:List V}{g:TG}{te:TE}{R:Hp->Prop}{σ0:St}{H0:Hp}(Pv:Nat->List V->St->Hp->Prop)(h0:Pv 0 [] σ0 H0)
  (hl:∀i ys σ H,i<=xs.length->Pv i ys σ H->SqT K H a xs/\H p=some (.lst ys))
  (hs:∀i ys x σ H,i<xs.length->xs[i]?= some x->Pv i ys σ H->g x σ H fun σ3 H4=>te σ3 H4 fun v H5=>H5 p=some (.lst ys)/\ys.length<sizeLine/\∃m',m'<xs.length-i/\CW xs.length Pv (i+1) m' (ys ++ [v]) σ3 (upd H5 p (.lst (ys ++ [v]))))
  (hd:∀ys σ H,Pv xs.length ys σ H->R H) :
  ∃W:Nat->Nat->List V->St->Hp->Prop,(∃m,W 0 m [] σ0 H0)/\∀i m ys σc H2,W i m ys σc H2->H2 p=some (.lst ys)/\(((Itt K a).stop i H2/\R H2)\/((Itt K a).go i H2/\∀x H3,(Itt K a).yld i H2 x H3->g x σc H3 fun σ3 H4=>te σ3 H4 fun v H5 =>
   H5 p=some (.lst ys)/\ys.length<sizeLine/\∃m',m'<m/\W (i+1) m' (ys ++ [v]) σ3 (upd H5 p (.lst (ys ++ [v]))))):=by
 refine⟨CW xs.length Pv,⟨_,rfl,Nat.zero_le _,h0⟩,?_⟩;rintro i m ys σ H ⟨rfl,hi,hp⟩;obtain⟨h1,h2⟩:=hl i ys σ H hi hp;refine⟨h2,?_⟩;by_cases hlt:i<xs.length
 ·refine .inr ⟨⟨xs,xs[i],h1,List.getElem?_eq_getElem hlt⟩,?_⟩;rintro x H3 ⟨rfl,hx⟩;exact hs i ys x σ _ hlt (hx xs h1) hp
 ·refine .inl ⟨⟨xs,h1,by lia⟩,hd ys σ H ?_⟩;have e:i=xs.length:=by lia
  rw[<- e];exact hp
theorem Zz{α : Type}{l:List α}{i:Nat}{x : α}(h:l[i]?= some x):l.take (i+1)=l.take i ++ [x]:=by
 rw[List.take_add_one,h];rfl
theorem Zg6{lo:Int}{n:Nat}{p:Addr}{g:TG}{te:TE}{R:Hp->Prop}{σ0:St}{H0:Hp}(Pv:Nat->List V->St->Hp->Prop)(h0:Pv 0 [] σ0 H0)
  (hl:∀i ys σ H,i<=n->Pv i ys σ H->H p=some (.lst ys))
  (hs:∀i ys σ H,i<n->Pv i ys σ H->g (.int (lo+i)) σ H fun σ3 H4=>te σ3 H4 fun v H5=>H5 p=some (.lst ys)/\ys.length<sizeLine/\∃m',m'<n-i/\CW n Pv (i+1) m' (ys ++ [v]) σ3 (upd H5 p (.lst (ys ++ [v]))))
  (hd:∀ys σ H,Pv n ys σ H->R H) :
  ∃W:Nat->Nat->List V->St->Hp->Prop,(∃m,W 0 m [] σ0 H0)/\∀i m ys σc H2,W i m ys σc H2->H2 p=some (.lst ys)/\(((Itr lo n).stop i H2/\R H2)\/((Itr lo n).go i H2/\∀x H3,(Itr lo n).yld i H2 x H3->g x σc H3 fun σ3 H4=>te σ3 H4 fun v H5 =>
   H5 p=some (.lst ys)/\ys.length<sizeLine/\∃m',m'<m/\W (i+1) m' (ys ++ [v]) σ3 (upd H5 p (.lst (ys ++ [v]))))):=by
 refine⟨CW n Pv,⟨_,rfl,Nat.zero_le _,h0⟩,?_⟩;rintro i m ys σ H ⟨rfl,hi,hp⟩;refine⟨hl i ys σ H hi hp,?_⟩;by_cases hlt:i<n
 ·refine .inr ⟨hlt,?_⟩;rintro x H3 ⟨rfl,rfl⟩;exact hs i ys σ _ hlt hp
 ·have e:i=n:=by lia
  subst e;exact .inl ⟨Nat.le_refl _,hd ys σ H hp⟩
theorem Zgp{X:Cx}{K:PySem.W.Frag}(h:X.K=K):IxR X (Zmf K):=h ▸ Zaa
theorem ZjD{n k:Nat}(h:k<n):ixN n ((k:Nat):Int)=some k:=by
 unfold ixN;rw[if_pos (by lia),if_pos (by lia)];rfl
theorem ZcC{H:Hp}{p:Addr}{ys zs:List V}(hp:H p=some (.lst ys)):∀b xs,H b=some (.tup xs)->(upd H p (.lst zs)) b=some (.tup xs):=fun b xs h=>by
 rw[Zd (fun e=>by rw[e,hp] at h;cases h)];exact h
theorem Zkr(x:Int){n:Nat}(h:0<n):∃k:Nat,x % (n:Int)=(k:Int)/\k<n:=by
 have h1:=Int.emod_nonneg x (by lia:(n:Int)≠0);have h2:=Int.emod_lt_of_pos x (by lia:(0:Int)<(n:Int));obtain⟨k,hk⟩:=Int.eq_ofNat_of_zero_le h1;exact⟨k,hk,by lia⟩
structure FQ where
 n:Int
 hs:List Int
 ts:List Int
 qs:List Srd.Qd
abbrev ZiI(l:List Int):Prop:=l.Pairwise (· < ·)
abbrev Zl3(l:List Srd.Qd):Prop:=l.Pairwise (fun a b=>Srd.qLt a b=true)
def FmQ(H:Hp)(a:Addr)(f:FQ):Prop := ∃(h1 h2 h3:Addr)(zs:List V),H a=some (.tup [.int f.n,.ref h1,.ref h2,.ref h3])/\H h1=some (.tup (f.hs.map V.int))/\H h2=some (.tup (f.ts.map V.int))/\H h3=some (.tup zs)/\QL H zs f.qs
theorem FmQ.same{H H':Hp}{a:Addr}{f:FQ}(h:FmQ H a f)(s:Zk H H'):FmQ H' a f:=by
 obtain⟨h1,h2,h3,zs,e1,e2,e3,e4,e5⟩:=h;exact⟨h1,h2,h3,zs,s _ _ e1,s _ _ e2,s _ _ e3,s _ _ e4,e5.keep fun b xs e=>s _ _ e⟩
theorem Zev{α : Type}[DecidableEq α]:∀{l m:List α},l.Nodup->(∀x∈l,x∈m)->l.length<=m.length
 | [],_,_,_=>Nat.zero_le _
 | a::l,m,hn,h=>by
  obtain⟨h1,h2⟩:=List.nodup_cons.mp hn;have ha:=h a (List.mem_cons_self ..);have h3:=Zev (m:=m.erase a) h2 fun x hx=>(List.mem_erase_of_ne (fun(e:x=a)=>h1 (e ▸ hx))).mpr (h x (List.mem_cons_of_mem _ hx));rw[List.length_erase_of_mem ha] at h3;have:=List.length_pos_of_mem ha;rw[List.length_cons];lia
theorem ZgR{l m:List Int}(hl:ZiI l)(hm:ZiI m)(h:∀x,x∈l↔x∈m):l=m :=
 Srd.Zb9.one (hl.imp fun h=>decide_eq_true h) (hm.imp fun h=>decide_eq_true h) h
def QB(n:Int)(qs:List Srd.Qd):Prop := ∀q∈qs,(0<=q.1/\q.1<n)/\(0<=q.2.2.1/\q.2.2.1<n)/\0<=q.2.2.2/\q.2.2.2<n
def IB(n:Int)(xs:List Int):Prop := ∀x∈xs,0<=x/\x<n
theorem ZhA{K:PySem.W.Frag}{a p:Addr}{xs:List V}{g:TG}{tt:TT}{te:TE}{R:Hp->Prop}{σ0:St}{H0:Hp}(Pv:Nat->List V->St->Hp->Prop)(h0:Pv 0 [] σ0 H0)
  (hl:∀i ys σ H,i<=xs.length->Pv i ys σ H->SqT K H a xs/\H p=some (.lst ys))
  (hs:∀i ys x σ H,i<xs.length->xs[i]?= some x->Pv i ys σ H->g x σ H fun σ3 H4=>tt σ3 H4 fun b H4'=>if b=true then te σ3 H4' fun v H5=>H5 p=some (.lst ys)/\ys.length<sizeLine/\∃m',m'<xs.length-i/\CW xs.length Pv (i+1) m' (ys ++ [v]) σ3 (upd H5 p (.lst (ys ++ [v])))
   else ∃m',m'<xs.length-i/\CW xs.length Pv (i+1) m' ys σ3 H4')
  (hd:∀ys σ H,Pv xs.length ys σ H->R H) :
  ∃W:Nat->Nat->List V->St->Hp->Prop,(∃m,W 0 m [] σ0 H0)/\∀i m ys σc H2,W i m ys σc H2->H2 p=some (.lst ys)/\(((Itt K a).stop i H2/\R H2)\/((Itt K a).go i H2/\∀x H3,(Itt K a).yld i H2 x H3->g x σc H3 fun σ3 H4=>tt σ3 H4 fun b H4'=>if b=true then te σ3 H4' fun v H5 =>
   H5 p=some (.lst ys)/\ys.length<sizeLine/\∃m',m'<m/\W (i+1) m' (ys ++ [v]) σ3 (upd H5 p (.lst (ys ++ [v]))) else ∃m',m'<m/\W (i+1) m' ys σ3 H4')):=by
 refine⟨CW xs.length Pv,⟨_,rfl,Nat.zero_le _,h0⟩,?_⟩;rintro i m ys σ H ⟨rfl,hi,hp⟩;obtain⟨h1,h2⟩:=hl i ys σ H hi hp;refine⟨h2,?_⟩;by_cases hlt:i<xs.length
 ·refine .inr ⟨⟨xs,xs[i],h1,List.getElem?_eq_getElem hlt⟩,?_⟩;rintro x H3 ⟨rfl,hx⟩;exact hs i ys x σ _ hlt (hx xs h1) hp
 ·have e:i=xs.length:=by lia
  subst e;exact .inl ⟨⟨xs,h1,Nat.le_refl _⟩,hd ys σ H hp⟩
end Fg
namespace L2
open PySem PySem.Spec PyProof.Rows
def Zk3(td ty tx:TE):TE:=fun σ H Q=>td σ H fun x H1=>∃a,x=.ref a/\IsD H1 a/\ty σ H1 fun y H2=>tx σ H2 fun z H3=>∃kvs k,H3 a=some (.dK kvs)/\y=kV k/\kvs.length<sizeLine /\
 (∀v,Zbe kvs k=some v->Q v H3)/\(Zbe kvs k=none->Q z (upd H3 a (.dK (putK kvs k z))))
section
variable{X:Cx}{o e f:Expr}{apos cpos:Pos}{td ty tx:TE}
theorem Zgh(ho:PE X o td)(he:PE X e ty)(hf:PE X f tx)(m:M2 X o "setdefault" apos e f cpos):PE X (.Call (.Attribute o "setdefault" apos) [e,f] [] cpos) (Zk3 td ty tx):=by
 intro pins s σ H Q I h;refine wpAny_Call_method m.base m.few m.line PySem.F.plainAttrs_dict PySem.F.slot_dict_setdefault PySem.F.type_dict_setdefault (thn (ho pins s σ H _ I h) fun u s1 ⟨x,H1,I1,rx,a,ex,d,q1⟩=>?_);subst ex;obtain rfl:u=Value.ref a:=rx;obtain⟨t1,t2,_⟩:=ZjM I1 d;refine⟨t1,t2,?_⟩;rw[m.trees];refine Calls.callWith_builtin rfl (Calls.evalArgs_plain (Calls.spliced_cons (thn (he pins s1 σ H1 _ I1 q1) fun iv s2 ⟨y,H2,I2,ry,q2⟩ =>
  Calls.spliced_cons (thn (hf pins s2 σ H2 _ I2 q2) fun fv s3 ⟨z,H3,I3,rz,kvs,k,e3,ey,hl,g1,g2⟩=>Calls.spliced_nil ?_))))
 subst ey;obtain⟨zz,hd,vs,rel,dd⟩:=Zkm I3.hok e3;have hz:vs.length<=sizeLine:=by rw[<- rel.length];exact zz
 have rv:=rel.val k;refine call_meetsIn PySem.F.slot_dict_setdefault dd.typeIs PySem.F.entry_dict_setdefault (PySem.F.args_dict_setdefault_3 _ _ _) (kt_meets_setdefault (Zao X.prog X.w) a (ZeY ry) hd fv) ⟨vs,dd,hz,fun v hv=>?_,fun hn h' dd' hs=>?_⟩
 ·rw[hv] at rv;cases hk:Zbe kvs k with
  | none =>
   rw[hk] at rv;exact(show False from rv).elim
  | some x =>
   rw[hk] at rv;exact⟨x,H3,I3.tok _,rv,g1 x hk⟩
 ·rw[hn] at rv;cases hk:Zbe kvs k with
  | some x =>
   rw[hk] at rv;exact(show False from rv).elim
  | none =>
   have he:∃q,h'.get? a=some q:=let ⟨q,_,_,hq,_⟩:=dd';⟨q,hq⟩;have hl2:(putK kvs k z).length<=sizeLine:=by have:=Za5 kvs k z;lia
   exact⟨z,_,ZfX I3 (by rw[e3];exact True.intro) hs he (ZjP hl2 hd (rel.put k rz) dd'),rz,g2 hk⟩
end
end L2
namespace Fg
open PySem L2 FgM
def DI(H:Hp)(p:Addr)(ns:List Int):Prop := ∃m:List (Key×V),H p=some (.dK m)/\m.map (·.1)=ns.map Sum.inl
theorem DI.same{H H':Hp}{p:Addr}{ns:List Int}(h:DI H p ns)(s:Zk H H'):DI H' p ns:=by
 obtain⟨m,h1,h2⟩:=h;exact⟨m,s _ _ h1,h2⟩
theorem DI.has{m:List (Key×V)}{ns:List Int}(h:m.map (·.1)=ns.map Sum.inl)(x:Int):(Zbe m (Sum.inl x)).isSome=decide (x∈ns):=by
 rw[<- ZaS];have e1:(m.any fun kv=>decide (kv.1=(Sum.inl x:Key)))=(m.map (·.1)).any (fun y=>decide (y=(Sum.inl x:Key))):=by rw[List.any_map];rfl
 rw[e1,h,List.any_map,Bool.eq_iff_iff,List.any_eq_true,decide_eq_true_eq];constructor
 ·rintro⟨y,hy,h⟩;have:=of_decide_eq_true h;injection this with this;rw[<- this];exact hy
 ·intro hx;exact⟨x,hx,decide_eq_true rfl⟩
theorem DI.put{m:List (Key×V)}{ns:List Int}(h:m.map (·.1)=ns.map Sum.inl)(x:Int)(v:V):(putK m (Sum.inl x) v).map (·.1)=(if x∈ns then ns else ns ++ [x]).map Sum.inl:=by
 have hh:=DI.has h x;unfold putK;rw[ZaS,hh];by_cases hx:x∈ns
 ·rw[decide_eq_true hx,if_pos rfl,if_pos hx,List.map_map,<- h];refine List.map_congr_left fun kv _=>?_;show(if kv.1=Sum.inl x then(kv.1,v) else kv).1=kv.1
  split <;> rfl
 ·rw[decide_eq_false hx,if_neg (by decide),if_neg hx,List.map_append,List.map_append,h];rfl
end Fg
namespace L2
open PySem PySem.Spec PyProof.Rows
theorem Zd2{K:PySem.W.Frag}{a p:Addr}{xs:List V}{g:TG}{tt:TT}{te:TE}{R:Hp->Prop}{σ0:St}{H0:Hp}(Pv:Nat->List V->St->Hp->Prop)(h0:Pv 0 [] σ0 H0)
  (hl:∀i ys σ H,i<=xs.length->Pv i ys σ H->SqL K H a xs/\H p=some (.lst ys))
  (hs:∀i ys x σ H,i<xs.length->xs[i]?= some x->Pv i ys σ H->g x σ H fun σ3 H4=>tt σ3 H4 fun b H4'=>if b=true then te σ3 H4' fun v H5=>H5 p=some (.lst ys)/\ys.length<sizeLine/\∃m',m'<xs.length-i/\CW xs.length Pv (i+1) m' (ys ++ [v]) σ3 (upd H5 p (.lst (ys ++ [v])))
   else ∃m',m'<xs.length-i/\CW xs.length Pv (i+1) m' ys σ3 H4')
  (hd:∀ys σ H,Pv xs.length ys σ H->R H) :
  ∃W:Nat->Nat->List V->St->Hp->Prop,(∃m,W 0 m [] σ0 H0)/\∀i m ys σc H2,W i m ys σc H2->H2 p=some (.lst ys)/\(((Itl K a).stop i H2/\R H2)\/((Itl K a).go i H2/\∀x H3,(Itl K a).yld i H2 x H3->g x σc H3 fun σ3 H4=>tt σ3 H4 fun b H4'=>if b=true then te σ3 H4' fun v H5 =>
   H5 p=some (.lst ys)/\ys.length<sizeLine/\∃m',m'<m/\W (i+1) m' (ys ++ [v]) σ3 (upd H5 p (.lst (ys ++ [v]))) else ∃m',m'<m/\W (i+1) m' ys σ3 H4')):=by
 refine⟨CW xs.length Pv,⟨_,rfl,Nat.zero_le _,h0⟩,?_⟩;rintro i m ys σ H ⟨rfl,hi,hp⟩;obtain⟨h1,h2⟩:=hl i ys σ H hi hp;refine⟨h2,?_⟩;by_cases hlt:i<xs.length
 ·refine .inr ⟨⟨xs,xs[i],h1,List.getElem?_eq_getElem hlt⟩,?_⟩;rintro x H3 ⟨rfl,hx⟩;exact hs i ys x σ _ hlt (hx xs h1) hp
 ·have e:i=xs.length:=by lia
  subst e;exact .inl ⟨⟨xs,h1,Nat.le_refl _⟩,hd ys σ H hp⟩
end L2
namespace L2
open PySem PySem.Spec PyProof.Rows PySem.W
section
variable{X:Cx}
def ZlY:List V->Hp->VK->Prop:=fun vs H Q=>∃(d:Addr)(m:List (Key×V)),vs=[V.ref d]/\H d=some (.dK m)/\Q (.int (m.length:Int)) H
theorem Ziq:Zb3 X (.builtin "len") ZlY:=by
 rintro pins s σ H vs us Q I r ⟨d,m,rfl,hd,q⟩;obtain⟨u,rfl,ru⟩:=vals1 r;cases ru;refine ZlE I (.inl hd) ?_;intro t s2 I2;exact⟨.int (m.length:Int),H,I2,⟨t,rfl⟩,q⟩
variable{o e:Expr}{es:List Expr}{to:TE}{t:TA}{name:Str}{apos cpos:Pos}{T id:String}{r:V->List V->Hp->VK->Prop}
end
end L2
namespace Srd
open PySem PyProof.Rows Srt PySem.W
abbrev Pr:=Int×Int
def pLt:Pr->Pr->Bool:=ZiJ (fun a b:Int=>decide (a<b)) fun a b:Int=>decide (a<b)
theorem ZfF:Sto pLt:=Zb9.lex Zb9
def IsP(h:Heap)(v:Value)(q:Pr):Prop := ∃a o t u n,v=.ref a/\h.get? a=some o/\o.cls=.type "tuple" /\ o.data=.seq #[.int q.1 t,.int q.2 u] n
theorem IsP.inj{h:Heap}{v:Value}{q q':Pr}(x:IsP h v q)(y:IsP h v q'):q=q':=by
 obtain⟨a,o,t,u,n,rfl,h1,_,h3⟩:=x;obtain⟨a',o',t',u',n',e,h1',_,h3'⟩:=y;cases e;rw[h1] at h1';cases h1';rw[h3] at h3';obtain⟨q1,q2⟩:=q;obtain⟨r1,r2⟩:=q';simp only[Data.seq.injEq,Array.mk.injEq,List.cons.injEq,Value.int.injEq,and_true] at h3';obtain⟨⟨⟨e1,_⟩,⟨e2,_⟩⟩,_⟩:=h3';rw[e1,e2]
theorem IsP.keep{h h':Heap}{v:Value}{q:Pr}(x:IsP h v q)(k:∀b o,h.get? b=some o->h'.get? b=some o):IsP h' v q:=by
 obtain⟨a,o,t,u,n,rfl,h1,r⟩:=x;exact⟨a,o,t,u,n,rfl,k _ _ h1,r⟩
open Classical in
noncomputable def kpr(h:Heap)(v:Value):Pr:=if x:∃q,IsP h v q then x.choose else(0,0)
theorem ZgH{h:Heap}{v:Value}{q:Pr}(x:IsP h v q):kpr h v=q:=by
 unfold kpr;rw[dif_pos ⟨q,x⟩];exact(Exists.choose_spec (⟨q,x⟩:∃q,IsP h v q)).inj x
section
variable{prog:Program}{w:World}{A:Around}{s:Shared}
theorem Ziw{h:Heap}:∀{vs:List Value},(∀v∈vs,∃q,IsP h v q)->∃fs,KatTups h vs fs/\fs.length=vs.length/\∀f∈fs,∃i t,f=.int i t
 | [],_=>⟨[],trivial,rfl,fun _ h=>nomatch h⟩
 | v::vs,hv=>by
  obtain⟨q,a,o,t,u,n,rfl,ho,hc,hd⟩:=hv v (List.mem_cons_self ..);obtain⟨fs,kt,hl,hf⟩:=Ziw (vs:=vs) fun x hx=>hv x (List.mem_cons_of_mem _ hx);refine⟨.int q.1 t::fs,KatTups.cons ho hc hd rfl kt,by simp[hl],fun f hm=>?_⟩;rcases List.mem_cons.mp hm with rfl|hm
  ·exact⟨_,t,rfl⟩
  ·exact hf f hm
theorem Ze0{h0:Heap}{vs:List Value}(hv:∀v∈vs,∃q,IsP h0 v q)(k0:∀b o,h0.get? b=some o->s.heap.get? b=some o)(h2:2<=vs.length):Zby prog w A (fun u v=>pLt (kpr h0 u) (kpr h0 v)) vs s:=by
 have hv':∀v∈vs,∃q,IsP s.heap v q:=fun v hm=>let ⟨q,x⟩:=hv v hm;⟨q,x.keep k0⟩;obtain⟨fs,k,hl,hf⟩:=Ziw hv';refine⟨tuples' true,fun Q E hq=>?_,?_⟩
 ·refine kat_kind (T:=.type "int") k (by lia) (fun v hm=>?_) rfl hq;obtain⟨i,t,rfl⟩:=hf v hm;exact Looks.of_pure rfl
 ·intro x y hx hy E;rw[pairsOf_toList] at hx hy;obtain⟨q,xq⟩:=hv _ (mem_zip_self hx).2;obtain⟨q',yq⟩:=hv _ (mem_zip_self hy).2;have e1:(fun x y:Keyed=>pLt (kpr h0 x.1) (kpr h0 y.1)) x y=pLt q q':=by
   show pLt (kpr h0 x.1) (kpr h0 y.1)=_;have hx1:=(mem_zip_self hx);have hy1:=(mem_zip_self hy);rw[ZgH xq,ZgH yq]
  rw[e1];obtain⟨a,o,t,u,n,e,ho,hc,hd⟩:=xq.keep k0;obtain⟨a',o',t',u',n',e',ho',hc',hd'⟩:=yq.keep k0;rw[e,e'];obtain⟨q1,q2⟩:=q;obtain⟨r1,r2⟩:=q';refine kat_lt ho hd ho' hd' ?_;have unf:pLt (q1,q2) (r1,r2)=(decide (q1<r1) || (decide (q1=r1)&&decide (q2<r2))):=rfl;rw[unf];refine kat_cons (wpAny_eqBool_int (kat_go (fun c1=>kat_yes ?_) (fun c1=>kat_no ?_)))
  ·have c1':q1=r1:=eq_of_beq c1;refine kat_cons (wpAny_eqBool_int (kat_go (fun c4=>kat_yes (kat_nil ⟨rfl,?_⟩)) (fun c4=>kat_no ?_)))
   ·have c4':q2=r2:=eq_of_beq c4;subst c1' c4';simp
   ·refine kat_one _ _ (wpAny_lt_int ⟨rfl,?_⟩);subst c1';simp
  ·refine oneLt_int ⟨rfl,?_⟩;have c1' : ¬ q1=r1:=fun z=>by rw[z] at c1;simp at c1
   simp[c1']
end
end Srd
namespace L2
open PySem PySem.Spec PyProof.Rows PySem.W Srd
def tp(q:Pr):HO:=.tup [.int q.1,.int q.2]
def pK(q:Pr):List Key:=[Sum.inl q.1,Sum.inl q.2]
def PL(H:Hp)(zs:List V)(qs:List Pr):Prop:=Paired (fun z q=>∃p,z=V.ref p/\H p=some (tp q)) zs qs
theorem PL.mem{H:Hp}:∀{zs:List V}{qs:List Pr},PL H zs qs->∀z∈zs,∃p,∃q∈qs,z=V.ref p/\H p=some (tp q)
 | _,_,.cons ⟨p,e1,e2⟩ t,z,hz=>by
  rcases List.mem_cons.mp hz with rfl|hz
  ·exact⟨p,_,List.mem_cons_self ..,e1,e2⟩
  ·obtain⟨p,q,hq,r⟩:=PL.mem t z hz;exact⟨p,q,List.mem_cons_of_mem _ hq,r⟩
theorem PL.length{H:Hp}:∀{zs:List V}{qs:List Pr},PL H zs qs->zs.length=qs.length
 | _,_,.nil=>rfl
 | _,_,.cons _ t=>by rw[List.length_cons,List.length_cons,PL.length t]
theorem PL.get{H:Hp}:∀{zs:List V}{qs:List Pr},PL H zs qs->∀(i:Nat) z,zs[i]?= some z->∃p q,qs[i]?= some q/\z=V.ref p/\H p=some (tp q)
 | _,_,.cons ⟨p,e1,e2⟩ t,i,z,hz=>by
  cases i with
  | zero =>
   injection hz with hz;subst hz;exact⟨p,_,rfl,e1,e2⟩
  | succ i=>exact PL.get t i z hz
theorem PL.keep{H H':Hp}:∀{zs:List V}{qs:List Pr},PL H zs qs->(∀b xs,H b=some (.tup xs)->H' b=some (.tup xs))->PL H' zs qs
 | _,_,.nil,_=>.nil
 | _,_,.cons ⟨p,e1,e2⟩ t,k=>.cons ⟨p,e1,k _ _ e2⟩ (PL.keep t k)
theorem PL.snoc{H:Hp}{q:Pr}{p:Addr}(e:H p=some (tp q)):∀{zs:List V}{qs:List Pr},PL H zs qs->PL H (zs ++ [.ref p]) (qs ++ [q])
 | _,_,.nil=>.cons ⟨p,rfl,e⟩ .nil
 | _,_,.cons r t=>.cons r (PL.snoc e t)
theorem Zh1{P:Program}{w:World}{H:Hp}{h:Heap}{t:Addr}{q:Pr}(ok:HOk P w H h)(e:H t=some (tp q)):IsP h (.ref t) q:=by
 obtain⟨_,us,rus,o,ho,hc',n,hd⟩:=ok t _ e;obtain⟨u1,us,rfl,r1,rus⟩:=Vals.inv rus;obtain⟨u2,us,rfl,r2,rus⟩:=Vals.inv rus;obtain rfl:=Vals.end_ rus;obtain⟨t1,rfl⟩:=r1;obtain⟨t2,rfl⟩:=r2;exact⟨t,o,t1,t2,n,rfl,ho,hc',hd⟩
theorem Zjy{P:Program}{w:World}{H:Hp}{h0:Heap}(ok:HOk P w H h0){ys:List V}{its:List Value}{qs:List Pr}(rv:Vals ys its)(ql:PL H ys qs):∀us:List Value,(∀u∈us,u∈its)->∃zs,Vals zs us/\PL H zs (us.map (kpr h0))
 | [],_=>⟨[],.nil,.nil⟩
 | u::us,h=>by
  obtain⟨y,hy,ry⟩:=Zbd rv u (h u (List.mem_cons_self ..));obtain⟨zs,rz,hz⟩:=Zjy ok rv ql us fun x hx=>h x (List.mem_cons_of_mem _ hx);obtain⟨t,q,_,rfl,e2⟩:=ql.mem y hy;have hu:u=Value.ref t:=ry;subst hu;exact⟨_,.cons ry rz,.cons ⟨t,rfl,by rw[ZgH (Zh1 ok e2)];exact e2⟩ hz⟩
theorem Zhw{P:Program}{w:World}{H:Hp}{h0:Heap}(ok:HOk P w H h0):∀{ys:List V}{its:List Value}{qs:List Pr},Vals ys its->PL H ys qs->its.map (kpr h0)=qs
 | _,_,_,.nil,.nil=>rfl
 | _,_,_,.cons (b:=u) r rr,.cons ⟨p,e1,e2⟩ t=>by
  subst e1;have hu:u=Value.ref p:=r;subst hu;rw[List.map_cons,Zhw ok rr t,ZgH (Zh1 ok e2)]
theorem Zkt{H:Hp}{kvs:List (List Key×V)}{xs:List (List Key×Addr×Value)}(h:Paired (fun(p:List Key×V)(q:List Key×Addr×Value)=>p.1=q.1/\H q.2.1=some (.tup (p.1.map kV))/\RelV p.2 q.2.2) kvs xs):∀{ps:List Pr},kvs.map (·.1)=ps.map pK->∃ys,Vals ys (xs.map fun x=>Value.ref x.2.1)/\PL H ys ps:=by
 induction h with
 | nil =>
  intro ps e;cases ps with
  | nil=>exact⟨[],.nil,.nil⟩
  | cons n ns=>cases e
 | @cons p q l m r t ih =>
  intro ps e;cases ps with
  | nil=>cases e
  | cons n ns =>
   rw[List.map_cons,List.map_cons] at e;obtain⟨e1,e2⟩:=List.cons.inj e;obtain⟨ys,h1,h2⟩:=ih e2;refine⟨.ref q.2.1::ys,.cons rfl h1,.cons ⟨q.2.1,rfl,?_⟩ h2⟩;have h3:=r.2.1;rw[e1] at h3;exact h3
section
variable{X:Cx}
theorem ZdN(hc:X.calm=true):Zb3 X (.builtin "sorted") (fun xs H Q=>∃(d:Addr)(kvs:List (List Key×V))(ps:List Pr),xs=[.ref d]/\H d=some (.dT kvs)/\kvs.length<=90000/\kvs.map (·.1)=ps.map pK/\∀(r:Addr)(zs:List V)(ms:List Pr),H r=none->ms.Perm ps->ms.Pairwise (fun a b=>pLt b a=false)->PL H zs ms->Q (.ref r) (upd H r (.lst zs))):=by
 intro pins s σ H xs us Q I r h;obtain⟨d,kvs,ps,rfl,hd,hlen,hkn,q⟩:=h;obtain⟨u,rfl,rx⟩:=vals1 r;obtain rfl:u=.ref d:=rx;obtain⟨z,lo,xs,rel,o,es,ep,ho,hx,hdat,hes,hnd⟩:=(show Zaz X.prog X.w H s.heap d (.dT kvs) from I.hok d _ hd);obtain⟨ys,rv,pl⟩:=Zkt rel hkn;have hek:es.toList.map (·.key)=xs.map fun x=>Value.ref x.2.1:=by
  rw[hes,List.map_map];rfl
 have hxl:kvs.length=xs.length:=rel.length;have hel:es.size=xs.length:=by rw[<- Array.length_toList,hes,List.length_map]
 refine ZbF (lv:=fun u v=>pLt (kpr s.heap u) (kpr s.heap v)) (C:=fun ys=>ys=xs.map fun x=>Value.ref x.2.1) (ZfF.swo (kpr s.heap)) (fun Q' E' hq=>?_) (fun ys' h6 tk6 d6 hC k6 h2l=>?_) fun pa ys' out h3 tk3 d3 c hC hperm hso k3 e3 hle hos=>?_
 ·refine ZbD (Zen lo) (I.ok.hd hc) (⟨o,ho,hx,hdat⟩:ZgB s.heap d es ep) (by rw[sizeLine_eq];lia) fun acc h' tk kp hit hle=>?_;have hacc:acc.toList=es.toList.map (·.key):=by
   refine List.ext_getElem? fun j=>?_;rw[Array.getElem?_toList,List.getElem?_map,Array.getElem?_toList];cases hj:acc[j]? with
   | none =>
    have h3:acc.size<=j:=Array.getElem?_eq_none_iff.mp hj;rw[hit.1] at h3;rw[Array.getElem?_eq_none h3];rfl
   | some v =>
    obtain⟨e,h1,rfl⟩:=hit.2 j v hj;rw[h1];rfl
  rw[hacc,hek];exact hq _ h' tk s.drawn kp rfl (by rw[List.length_map];lia) hle
 ·subst hC;refine Ze0 (h0:=s.heap) (fun v hv=>?_) k6 h2l;obtain⟨y,hy,ry⟩:=Zbd rv v hv;obtain⟨t,q1,_,rfl,e2⟩:=pl.mem y hy;obtain rfl:v=Value.ref t:=ry;exact⟨q1,Zh1 I.hok e2⟩
 ·subst hC;obtain⟨zs,rz,hzq⟩:=Zjy I.hok rv pl out.toList fun u hu=>hperm.mem_iff.mp hu;have hzl:zs.length=out.size:=rz.length.trans (Array.length_toList ..);have hol:out.size=xs.length:=by
   have:=hperm.length_eq;rw[Array.length_toList,List.length_map] at this;exact this
  have I2:=I.laid (h':=h3) (t':=tk3) (a:=pa) (o:=.lst zs) (fun b o e=>k3 b o e) hle (show Zaz X.prog X.w _ h3 _ (.lst zs) from⟨by rw[sizeLine_eq];lia,out.toList,c,rz,e3⟩);refine⟨.ref pa,_,I2.draws (d:=d3),rfl,q pa zs _ (I.hok.fresh hle) ?_ (List.pairwise_map.mpr hso) hzq⟩;rw[<- Zhw I.hok rv pl];exact hperm.map _
end
def KL(H:Hp)(ys:List V)(ks:List (List Key)):Prop:=Paired (fun z k=>∃b,z=V.ref b/\H b=some (.tup (k.map kV))) ys ks
theorem Zko{H:Hp}{kvs:List (List Key×V)}{xs:List (List Key×Addr×Value)}(h:Paired (fun(p:List Key×V)(q:List Key×Addr×Value)=>p.1=q.1/\H q.2.1=some (.tup (p.1.map kV))/\RelV p.2 q.2.2) kvs xs):∃ys,Vals ys (xs.map fun x=>Value.ref x.2.1)/\KL H ys (kvs.map (·.1)):=by
 induction h with
 | nil=>exact⟨[],.nil,.nil⟩
 | @cons p q l m r t ih =>
  obtain⟨ys,h1,h2⟩:=ih;exact⟨.ref q.2.1::ys,.cons rfl h1,.cons ⟨q.2.1,rfl,r.2.1⟩ h2⟩
theorem KL.quads{H:Hp}:∀{ys:List V}{qs:List Qd},KL H ys (qs.map kOf)->QL H ys qs
 | [],[],_=>.nil
 | _::_,_::_,.cons ⟨b,e1,e2⟩ t=>.cons ⟨b,e1,e2⟩ (KL.quads t)
section
variable{X:Cx}
theorem Zg3{es:Array DictEntry}{acc:Array Value}(hit:ItemsOf (fun i v=>∃e,es[i]?= some e/\v=e.key) acc es.size):acc.toList=es.toList.map (·.key):=by
 refine List.ext_getElem? fun j=>?_;rw[Array.getElem?_toList,List.getElem?_map,Array.getElem?_toList];cases hj:acc[j]? with
 | none =>
  have h3:acc.size<=j:=Array.getElem?_eq_none_iff.mp hj;rw[hit.1] at h3;rw[Array.getElem?_eq_none h3];rfl
 | some v =>
  obtain⟨e,h1,rfl⟩:=hit.2 j v hj;rw[h1];rfl
end
end L2
namespace L2
open PySem PySem.Spec PyProof.Rows
section
variable{X:Cx}{C:Addr}{m x:Str}{ps:List Str}{j k:Nat}{sp:Sp}{o e:Expr}{es:List Expr}{ta:TE}{t:TA}{p pos apos:Pos}
theorem Zcd(G:HasC X.prog X.w X.K X.mg X.base C x ps j sp)(hr:Room k X.A)(hg:Gl X x)(ha:PA X (e::es) t)(hk:j+1<=k:=by decide)(hdb:(x == ("__debug__" : Str))=false:=by decide)
  (he:starEach (e::es) X.env=(false,eval e X.env)::starEach es X.env:=by rfl) (hpl:(backTo pos (starEach es X.env)).any (·.1)=false:=by rfl):PE X (.Call (.Name x p) (e::es) [] pos) (Zlr C sp [] E0 t):=by
 obtain⟨f,fd,F,b,M,hm⟩:=G.ex;exact Zj0 M F (hr.mono hk) hg hm b .nil Zjb ha hdb he hpl
end
end L2
namespace Stg
open PySem PyProof.Rows Sts
end Stg
namespace L2
open PySem PySem.Spec PyProof.Rows
theorem Zkp{X:Cx}{K:PySem.W.Frag}{e:Expr}{f:Str}{pos:Pos}{ta:TE}(hK:X.K=K)(he:PE X e ta)(hb:attributeBase e f X.env (eval e X.env)=eval e X.env):PE X (.Attribute e f pos) (Zmd K ta f):=hK ▸ Zaf he hb
def Zl6(K:PySem.W.Frag)(ta:TE):TE:=fun σ H Q=>ta σ H fun x H1=>∃k,ZlB K x H1 k/\Q (.bl (!k)) H1
theorem Zku{X:Cx}{a:Expr}{pos:Pos}{ta:TE}(ha:PE X a ta):PE X (.UnaryOp .Not a pos) (Zl6 X.K ta):=by
 intro pins s σ H Q I h;refine UnaryOp_ (thn (ha pins s σ H _ I h) fun v s1 ⟨x,H1,I1,r1,q1⟩=>?_);obtain⟨c,ht,q1⟩:=q1;refine not_of (thn (ZjC pins s1 σ H1 x v (fun k H'=>Q (.bl (!k)) H') I1 r1 ⟨c,ht,q1⟩) fun b s2 ⟨H2,I2,q2⟩=>⟨.bl (!b),H2,I2,rfl,q2⟩)
end L2
namespace Fg
open PySem L2 FgM
inductive LvQ(f:FQ):Int->Prop
 | e {x:Int}:x∈f.ts->LvQ f x
 | r {q:Srd.Qd}:q∈f.qs->LvQ f q.2.2.1->LvQ f q.2.2.2->LvQ f q.1
def Zhk(n:Nat)(S:List Int):Nat:=((List.range n).map fun k:Nat=>if(k:Int)∈S then 0 else 1).sum
theorem ZjB{g g':Nat->Nat}:∀{l:List Nat},(∀x∈l,g' x<=g x)->(l.map g').sum<=(l.map g).sum
 | [],_=>Nat.le_refl _
 | y::l,h=>by
  rw[List.map_cons,List.map_cons,List.sum_cons,List.sum_cons];have h1:=h y (List.mem_cons_self ..);have h2:=ZjB fun x hx=>h x (List.mem_cons_of_mem (a:=x) y hx);lia
theorem Zgr{g g':Nat->Nat}{k:Nat}(hs:g' k+1<=g k):∀{l:List Nat},(∀x∈l,g' x<=g x)->k∈l->(l.map g').sum+1<=(l.map g).sum
 | [],_,hk=>nomatch hk
 | y::l,h,hk=>by
  rw[List.map_cons,List.map_cons,List.sum_cons,List.sum_cons];have hy:=h y (List.mem_cons_self ..);have hl:=fun x hx=>h x (List.mem_cons_of_mem (a:=x) y hx);rcases List.mem_cons.mp hk with rfl|hk
  ·have:=ZjB hl;lia
  ·have:=Zgr hs hl hk;lia
theorem Zjn{n:Nat}{k:Int}{S:List Int}(h0:0<=k)(hk:k<(n:Int))(h:k∉S):Zhk n (S ++ [k])+1<=Zhk n S:=by
 unfold Zhk;have ek:((k.toNat:Nat):Int)=k:=Int.toNat_of_nonneg h0;refine Zgr (k:=k.toNat) ?_ (fun x _=>?_) (List.mem_range.mpr (by lia))
 ·rw[ek,if_pos (List.mem_append_right _ (List.mem_singleton.mpr rfl)),if_neg h];exact Nat.le_refl _
 ·by_cases hx:(x:Int)∈S
  ·rw[if_pos (List.mem_append_left _ hx),if_pos hx];exact Nat.le_refl _
  ·rw[if_neg hx]
   split <;> lia
theorem Zks(n:Nat)(S:List Int):Zhk n S<=n:=by
 have h:∀l:List Nat,(l.map fun k:Nat=>if(k:Int)∈S then 0 else 1).sum<=l.length:=by
  intro l
  induction l with
  | nil=>exact Nat.le_refl _
  | cons a l ih =>
   rw[List.map_cons,List.sum_cons,List.length_cons]
   split <;> lia
 have:=h (List.range n);rw[List.length_range] at this;exact this
def PT(H:Hp)(ys:List V)(es:List Int):Prop:=Paired (fun(y:V)(e:Int)=>∃t,y=V.ref t/\H t=some (.tup [.int e,.bl true])) ys es
theorem PT.keep{H H':Hp}:∀{ys:List V}{es:List Int},PT H ys es->(∀b xs,H b=some (.tup xs)->H' b=some (.tup xs))->PT H' ys es
 | _,_,.nil,_=>.nil
 | _,_,.cons ⟨p,e1,e2⟩ t,k=>.cons ⟨p,e1,k _ _ e2⟩ (PT.keep t k)
theorem PT.snoc{H:Hp}{e:Int}{p:Addr}(h:H p=some (.tup [.int e,.bl true])):∀{ys:List V}{es:List Int},PT H ys es->PT H (ys ++ [.ref p]) (es ++ [e])
 | _,_,.nil=>.cons ⟨p,rfl,h⟩ .nil
 | _,_,.cons r t=>.cons r (PT.snoc h t)
theorem PT.length{H:Hp}:∀{ys:List V}{es:List Int},PT H ys es->ys.length=es.length
 | _,_,.nil=>rfl
 | _,_,.cons _ t=>by rw[List.length_cons,List.length_cons,PT.length t]
def kB(e:Int):Key×V:=(Sum.inl e,V.bl true)
theorem PT.pairs{H:Hp}:∀{ys:List V}{es:List Int},PT H ys es->Paired (fun(y:V)(kv:Key×V)=>∃t,y=.ref t/\H t=some (.tup [kV kv.1,kv.2])) ys (es.map kB)
 | _,_,.nil=>.nil
 | _,_,.cons ⟨p,e1,e2⟩ t=>.cons ⟨p,e1,e2⟩ (PT.pairs t)
def ZkM(S:List Int)(x:Int):List Int:=if x∈S then S else S ++ [x]
theorem ZeE{S:List Int}{x y:Int}:y∈ZkM S x↔y∈S\/y=x:=by
 unfold ZkM
 split
 ·rename_i h
  exact⟨.inl,fun z=>z.elim id fun z=>z ▸ h⟩
 ·rw[List.mem_append,List.mem_singleton]
theorem ZgQ:∀(es:List Int)(m:List (Key×V))(S:List Int),m.map (·.1)=S.map Sum.inl->∃S':List Int,((es.map kB).foldl (fun m kv=>putK m kv.1 kv.2) m).map (·.1)=S'.map Sum.inl/\∀x,x∈S'↔x∈S\/x∈es
 | [],m,S,h=>⟨S,h,fun x=>⟨.inl,fun z=>z.elim id fun z=>nomatch z⟩⟩
 | e::es,m,S,h=>by
  obtain⟨S',h1,h2⟩:=ZgQ es (putK m (Sum.inl e) (V.bl true)) (ZkM S e) (DI.put h e (V.bl true));refine⟨S',h1,fun x=>(h2 x).trans ?_⟩;rw[ZeE,List.mem_cons,or_assoc]
theorem ZbH{m:List (Key×V)}{S:List Int}(h:m.map (·.1)=S.map Sum.inl):m.length=S.length:=by
 have:=congrArg List.length h
 simpa using this
def Zjd(qs:List Srd.Qd)(S:List Int):Prop := ∀q∈qs,q.2.2.1∈S->q.2.2.2∈S->q.1∈S
theorem ZiN{f:FQ}{S:List Int}(he:∀e∈f.ts,e∈S)(hs:Zjd f.qs S){k:Int}(h:LvQ f k):k∈S:=by
 induction h with
 | e h=>exact he _ h
 | r h _ _ h1 h2=>exact hs _ h h1 h2
abbrev Pr:=Srd.Pr
abbrev Zg5(l:List Pr):Prop:=l.Pairwise (fun a b=>Srd.pLt a b=true)
structure OkR(f:FQ):Prop where
 n0:0<=f.n
 n8:f.n<=64
 hs:ZiI f.hs
 ts:ZiI f.ts
 qs:Zl3 f.qs
 hb:IB f.n f.hs
 tb:IB f.n f.ts
 qb:QB f.n f.qs
 hl:f.hs.length<=70
 tl:f.ts.length<=70
 ql:f.qs.length<=100
 lt:∀q∈f.qs,q.2.1≠SL
def Zgd(K:PySem.W.Frag):Sp:=fun vs H Q _=>∃(a:Addr)(f:FQ),vs=[.ref a]/\FmQ H a f/\OkR f/\∀(d:Addr)(S:List Int)(H':Hp),Zk H H'->H d=none->DI H' d S->S.length<=200->(∀x,x∈S↔LvQ f x)->Q (.ref d) H'
def ROk(f:FQ)(R:List Srd.Qd):Prop := ∀q,q∈R↔q∈f.qs/\LvQ f q.2.2.1/\LvQ f q.2.2.2
def rlA(A:List Int)(qs:List Srd.Qd):List Srd.Qd:=qs.filter fun q=>decide (q.2.2.1∈A)&&decide (q.2.2.2∈A)
theorem ZkU{f:FQ}{A:List Int}(h:∀x,x∈A↔LvQ f x):ROk f (rlA A f.qs):=fun q=>by
 unfold rlA;rw[List.mem_filter,Bool.and_eq_true,decide_eq_true_eq,decide_eq_true_eq,h,h]
def pr2(q:Srd.Qd):Pr:=(q.2.2.1,q.2.2.2)
def Zc2(R:List Srd.Qd)(k:Int)(t:Str):List Pr:=(R.filter fun q=>decide (q.1=k)&&decide (q.2.1=t)).map pr2
theorem ZbZ{R:List Srd.Qd}{k:Int}{t:Str}{p:Pr}:p∈Zc2 R k t↔(k,t,p.1,p.2)∈R:=by
 unfold Zc2;rw[List.mem_map];constructor
 ·rintro⟨⟨q1,q2,q3,q4⟩,hq,rfl⟩;obtain⟨h1,h2⟩:=List.mem_filter.mp hq;rw[Bool.and_eq_true,decide_eq_true_eq,decide_eq_true_eq] at h2;obtain⟨e1,e2⟩:=h2;have e1:q1=k:=e1;have e2:q2=t:=e2;subst e1 e2;exact h1
 ·intro h;refine⟨_,List.mem_filter.mpr ⟨h,?_⟩,rfl⟩;rw[decide_eq_true rfl,decide_eq_true rfl];rfl
theorem ZiE(R:List Srd.Qd)(q:Srd.Qd)(k:Int)(t:Str):Zc2 (R ++ [q]) k t=Zc2 R k t++if q.1=k/\q.2.1=t then [pr2 q] else []:=by
 unfold Zc2;rw[List.filter_append,List.map_append]
 congr 1
 rw[List.filter_cons];by_cases h:q.1=k/\q.2.1=t
 ·rw[if_pos (by rw[decide_eq_true h.1,decide_eq_true h.2];rfl),if_pos h];rfl
 ·rw[if_neg (by rw[Bool.and_eq_true,decide_eq_true_eq,decide_eq_true_eq];exact h),if_neg h];rfl
theorem ZiK(R:List Srd.Qd)(k:Int)(t:Str):(Zc2 R k t).length<=R.length:=by
 unfold Zc2;rw[List.length_map];exact List.length_filter_le ..
def dup(x:Int):Pr:=(x,x)
def Bgs(R:List Srd.Qd)(l:List Pr)(w:Str)(x:Int):Prop := ∃p∈l,∃r,(p.2,w,x,r)∈R
def Edd(ts:List Int)(l:List Pr)(b:Int):Prop := ∃n,(b,n)∈l/\n∈ts
def Shu(ts:List Int)(R:List Srd.Qd)(l1 l:List Pr)(w:Str)(p:Pr):Prop := ∃n i,(p.1,n)∈l1/\(n,w,i,p.2)∈R/\Edd ts l i
inductive Stp(ts:List Int)(R:List Srd.Qd):List (List Pr)->List Str->Str->List (List Pr)->List Str->Prop
 | tag {lv:List (List Pr)} {l:List Pr} {tg:List Str} {w:Str} {ks:List Int}:w≠SL->ZiI ks->(∀x,x∈ks↔Bgs R l w x)->ks ≠ []->Stp ts R (lv ++ [l]) tg w ((lv ++ [l]) ++ [ks.map dup]) (tg ++ [w])
 | fin {lv:List (List Pr)} {l1 l l2:List Pr} {tg:List Str} {w:Str}:(∃b,Edd ts l b)->Zg5 l2->(∀p,p∈l2↔Shu ts R l1 l w p)->Stp ts R ((lv ++ [l1]) ++ [l]) (tg ++ [w]) SL (lv ++ [l2]) tg
def Nst(ts:List Int)(R:List Srd.Qd)(l:List Pr)(tg:List Str)(w:Str):Prop:=(w≠SL/\∀x,¬ Bgs R l w x)\/(w=SL/\(tg=[]\/∀b,¬ Edd ts l b))
structure RdOk(n:Int)(lv:List (List Pr))(tg:List Str):Prop where
 len:lv.length=tg.length+1
 ri:∀l∈lv,Zg5 l
 bd:∀l∈lv,∀p∈l,(0<=p.1/\p.1<n)/\0<=p.2/\p.2<n
theorem ZiC{a b:Pr}:Srd.pLt a b=true↔a.1<b.1\/(a.1=b.1/\a.2<b.2):=by
 simp only[Srd.pLt,Srd.ZiJ,Bool.or_eq_true,Bool.and_eq_true,decide_eq_true_eq]
theorem Zfk{ks:List Int}(h:ZiI ks):Zg5 (ks.map dup):=List.pairwise_map.mpr (h.imp fun hab=>ZiC.mpr (.inl hab))
theorem Zft{l:List Pr}(h:Zg5 l):l.Nodup:=h.imp fun{a b} hab e=>by
 rw[ZiC,e] at hab;lia
theorem RdOk.stp{f:FQ}{R:List Srd.Qd}{lv lv':List (List Pr)}{tg tg':List Str}{w:Str}(h:RdOk f.n lv tg)(hR:QB f.n R)(s:Stp f.ts R lv tg w lv' tg'):RdOk f.n lv' tg':=by
 obtain⟨h1,h2,h3⟩:=h;cases s with
 | @tag lv l tg w ks hw r m e =>
  refine⟨?_,fun x hx=>?_,fun x hx p hp=>?_⟩
  ·rw[List.length_append,h1,List.length_append];rfl
  ·rcases List.mem_append.mp hx with hx|hx
   ·exact h2 x hx
   ·rw[List.mem_singleton.mp hx];exact Zfk r
  ·rcases List.mem_append.mp hx with hx|hx
   ·exact h3 x hx p hp
   ·rw[List.mem_singleton.mp hx] at hp;obtain⟨k,hk,rfl⟩:=List.mem_map.mp hp;obtain⟨p',_,r',hq⟩:=(m k).mp hk;have:=(hR _ hq).2.1;exact⟨this,this⟩
 | @fin lv l1 l l2 tg w hb r m =>
  refine⟨?_,fun x hx=>?_,fun x hx p hp=>?_⟩
  ·rw[List.length_append,List.length_append,List.length_append,List.length_singleton,List.length_singleton,List.length_singleton] at h1;rw[List.length_append,List.length_singleton];lia
  ·rcases List.mem_append.mp hx with hx|hx
   ·exact h2 x (List.mem_append_left _ (List.mem_append_left _ hx))
   ·rw[List.mem_singleton.mp hx];exact r
  ·rcases List.mem_append.mp hx with hx|hx
   ·exact h3 x (List.mem_append_left _ (List.mem_append_left _ hx)) p hp
   ·rw[List.mem_singleton.mp hx] at hp;obtain⟨n,i,e1,e2,_⟩:=(m p).mp hp;exact⟨(h3 l1 (List.mem_append_left _ (List.mem_append_right _ (List.mem_singleton.mpr rfl))) _ e1).1,(hR _ e2).2.2⟩
def Zc7:List Pr:=(List.range 64).flatMap fun a:Nat=>(List.range 64).map fun b:Nat=>((a:Int),(b:Int))
theorem Zbf:Zc7.length=4096:=by decide +kernel
theorem Zdf{l:List Pr}{n:Int}(hn:n<=64)(h:l.Nodup)(hb:∀p∈l,(0<=p.1/\p.1<n)/\0<=p.2/\p.2<n):l.length<=4096:=by
 rw[<- Zbf];refine Zev h fun p hp=>?_;obtain⟨⟨a1,a2⟩,b1,b2⟩:=hb p hp;refine List.mem_flatMap.mpr ⟨p.1.toNat,List.mem_range.mpr (by lia),List.mem_map.mpr ⟨p.2.toNat,List.mem_range.mpr (by lia),?_⟩⟩;rw[Int.toNat_of_nonneg a1,Int.toNat_of_nonneg b1]
theorem RdOk.few{n:Int}{lv:List (List Pr)}{tg:List Str}(h:RdOk n lv tg)(hn:n<=64){l:List Pr}(hl:l∈lv):l.length<=4096:=Zdf hn (Zft (h.ri l hl)) (h.bd l hl)
def Zv(ex:List Addr)(H H':Hp):Prop := ∀b o,b∉ex->H b=some o->H' b=some o
theorem Zv.trans{ex:List Addr}{H H1 H2:Hp}(a:Zv ex H H1)(b:Zv ex H1 H2):Zv ex H H2:=fun c o hc h=>b c o hc (a c o hc h)
theorem Zk.keepX{ex:List Addr}{H H':Hp}(s:Zk H H'):Zv ex H H':=fun b o _ h=>s b o h
theorem Zv.upd{ex:List Addr}{H H':Hp}{a:Addr}{o:HO}(k:Zv ex H H')(h:a∈ex):Zv ex H (L2.upd H' a o):=fun b u hb e=>by
 have hne:b≠a:=fun z=>hb (by rw[z];exact h);rw[Zd hne];exact k b u hb e
def WK(ex:List Addr)(H:Hp)(a:Addr)(W:Str->List Pr):Prop:=a∉ex/\∃(mk:List (Key×V))(ts:List Str),H a=some (.dK mk)/\mk.map (·.1)=ts.map Sum.inr/\ts.length<=900/\∀t,(Zbe mk (Sum.inr t)=none/\W t=[])\/∃l zs,Zbe mk (Sum.inr t)=some (.ref l)/\l∉ex/\H l=some (.lst zs)/\PL H zs (W t)/\W t ≠ []
def WI(ex:List Addr)(H:Hp)(d:Addr)(R:List Srd.Qd):Prop:=d∉ex/\∃(m:List (Key×V))(D:Int->Option Addr),H d=some (.dK m)/\(∀k,Zbe m (Sum.inl k)=(D k).map V.ref)/\(∀k,D k=none->∀t,Zc2 R k t=[])/\∀k a,D k=some a->WK ex H a fun t=>Zc2 R k t
def Zja(H H':Hp):Prop := ∀b xs,H b=some (.tup xs)->H' b=some (.tup xs)
theorem WK.keep{ex:List Addr}{H H':Hp}{a:Addr}{W:Str->List Pr}(h:WK ex H a W)(k:Zv ex H H')(kt:Zja H H'):WK ex H' a W:=by
 obtain⟨h1,mk,ts,h2,h3,h4,h5⟩:=h;refine⟨h1,mk,ts,k _ _ h1 h2,h3,h4,fun t=>?_⟩;rcases h5 t with h|⟨l,zs,e1,e2,e3,e4,e5⟩
 ·exact .inl h
 ·exact .inr ⟨l,zs,e1,e2,k _ _ e2 e3,e4.keep kt,e5⟩
theorem WI.keep{ex:List Addr}{H H':Hp}{d:Addr}{R:List Srd.Qd}(h:WI ex H d R)(k:Zv ex H H')(kt:Zja H H'):WI ex H' d R:=by
 obtain⟨h1,m,D,h2,h3,h4,h5⟩:=h;exact⟨h1,m,D,k _ _ h1 h2,h3,h4,fun x a e=>(h5 x a e).keep k kt⟩
theorem KS.new{m:List (Key×V)}{ts:List Str}(h:m.map (·.1)=ts.map Sum.inr){x:Str}(v:V)(hn:Zbe m (Sum.inr x)=none):(putK m (Sum.inr x) v).map (·.1)=(ts ++ [x]).map Sum.inr:=by
 rw[ZeK v hn,List.map_append,List.map_append,h];rfl
def LVs(ex:List Addr)(H:Hp)(zs:List V)(lv:List (List Pr)):Prop:=Paired (fun z l=>∃p xs,z=V.ref p/\p∉ex/\H p=some (.lst xs)/\PL H xs l) zs lv
theorem LVs.keep{ex:List Addr}{H H':Hp}(k:Zv ex H H')(kt:Zja H H'):∀{zs:List V}{lv:List (List Pr)},LVs ex H zs lv->LVs ex H' zs lv
 | _,_,.nil=>.nil
 | _,_,.cons ⟨p,xs,e1,e2,e3,e4⟩ t=>.cons ⟨p,xs,e1,e2,k _ _ e2 e3,e4.keep kt⟩ (LVs.keep k kt t)
theorem LVs.length{ex:List Addr}{H:Hp}{zs:List V}{lv:List (List Pr)}(h:LVs ex H zs lv):zs.length=lv.length:=Paired.length h
theorem LVs.last{ex:List Addr}{H:Hp}:∀{lv:List (List Pr)}{zs:List V}{l:List Pr},LVs ex H zs (lv ++ [l])->∃zs' p xs,zs=zs' ++ [V.ref p]/\LVs ex H zs' lv/\p∉ex/\H p=some (.lst xs)/\PL H xs l
 | [],_,_,.cons ⟨p,xs,e1,e2,e3,e4⟩ .nil=>⟨[],p,xs,by rw[e1];rfl,.nil,e2,e3,e4⟩
 | _::lv,_,_,.cons r t=>by
  obtain⟨zs',p,xs,h1,h2,h3⟩:=LVs.last (lv:=lv) t;exact⟨_::zs',p,xs,by rw[h1];rfl,.cons r h2,h3⟩
theorem LVs.snoc{ex:List Addr}{H:Hp}{p:Addr}{xs:List V}{l:List Pr}(h1:p∉ex)(h2:H p=some (.lst xs))(h3:PL H xs l){zs:List V}{lv:List (List Pr)}(h:LVs ex H zs lv):LVs ex H (zs ++ [.ref p]) (lv ++ [l]):=Paired.snoc h ⟨p,xs,rfl,h1,h2,h3⟩
def rdF(p df dw L T:Addr):List (Str×V):=[("form",.ref p),("final",.ref df),("ways",.ref dw),("levels",.ref L),("tags",.ref T)]
structure RdC(K:PySem.W.Frag)(C:Addr):Prop where
 cls:Cls K C
 n1:ZaO K C "form"
 n2:ZaO K C "final"
 n3:ZaO K C "ways"
 n4:ZaO K C "levels"
 n5:ZaO K C "tags"
structure RdAt(C:Addr)(H:Hp)(a L T:Addr)(ex:List Addr)(f:FQ)(R:List Srd.Qd)(lv:List (List Pr))(tg:List Str):Prop where
 ok:OkR f
 rk:ROk f R
 st:RdOk f.n lv tg
 ne:L≠T
 al:∀x∈ex,x ∉ [L,T]/\∃xs,H x=some (.lst xs)
 ho:∃(dx p df dw:Addr)(ns:List Int)(zs:List V),H a=some (.ins C dx (rdF p df dw L T))/\FmQ H p f/\DI H df ns/\(∀x,x∈ns↔x∈f.ts)/\WI (L::T::ex) H dw R/\H L=some (.lst zs)/\LVs (L::T::ex) H zs lv/\H T=some (.lst (tg.map V.str))
theorem ROk.qb{f:FQ}{R:List Srd.Qd}(h:ROk f R)(ok:OkR f):QB f.n R:=fun q hq=>ok.qb q ((h q).mp hq).1
theorem ZaP{b L T:Addr}(h1:b≠L)(h2:b≠T):b ∉ [L,T]:=fun h=>by
 rcases List.mem_cons.mp h with h|h
 ·exact h1 h
 ·exact h2 (List.mem_singleton.mp h)
theorem Zv.tups{L T:Addr}{H H':Hp}{xs ys:List V}(k:Zv [L,T] H H')(hL:H L=some (.lst xs))(hT:H T=some (.lst ys)):Zja H H':=fun b zs e=>k b _ (ZaP (fun z=>by rw[z,hL] at e;cases e) (fun z=>by rw[z,hT] at e;cases e)) e
theorem Zv.less{ex ex':List Addr}{H H':Hp}(k:Zv ex H H')(h:∀b∈ex,b∈ex'):Zv ex' H H':=fun b o hb e=>k b o (fun z=>hb (h b z)) e
theorem Zcw{L T:Addr}{ex:List Addr}:∀b ∈ [L,T],b∈L::T::ex:=fun b hb=>by
 rcases List.mem_cons.mp hb with rfl|hb
 ·exact List.mem_cons_self ..
 ·rw[List.mem_singleton.mp hb];exact List.mem_cons_of_mem _ (List.mem_cons_self ..)
section
variable{C a L T:Addr}{ex:List Addr}{H H':Hp}{f:FQ}{R:List Srd.Qd}{lv lv':List (List Pr)}{tg tg':List Str}
theorem RdAt.same(h:RdAt C H a L T ex f R lv tg)(s:Zk H H'):RdAt C H' a L T ex f R lv tg:=by
 obtain⟨ok,rk,st,ne,al,dx,p,df,dw,ns,zs,h1,h2,h3,h4,h5,h6,h7,h8⟩:=h;have kt:Zja H H':=fun b xs e=>s _ _ e;exact⟨ok,rk,st,ne,fun x hx=>⟨(al x hx).1,let ⟨xs,e⟩:=(al x hx).2;⟨xs,s _ _ e⟩⟩,dx,p,df,dw,ns,zs,s _ _ h1,h2.same s,h3.same s,h4,h5.keep (Zk.keepX s) kt,s _ _ h6,h7.keep (Zk.keepX s) kt,s _ _ h8⟩
theorem RdAt.fresh(h:RdAt C H a L T ex f R lv tg){b:Addr}(hb:H b=none):b∉L::T::ex:=fun hm=>by
 obtain⟨dx,p,df,dw,ns,zs,h1,h2,h3,h4,h5,h6,h7,h8⟩:=h.ho;rcases List.mem_cons.mp hm with rfl|hm
 ·rw[hb] at h6;cases h6
 ·rcases List.mem_cons.mp hm with rfl|hm
  ·rw[hb] at h8;cases h8
  ·obtain⟨xs,e⟩:=(h.al b hm).2;rw[hb] at e;cases e
theorem RdAt.move{zs':List V}(h:RdAt C H a L T ex f R lv tg)(k:Zv [L,T] H H')(st:RdOk f.n lv' tg')(e1:H' L=some (.lst zs'))(e2:LVs (L::T::ex) H' zs' lv')(e3:H' T=some (.lst (tg'.map V.str))):RdAt C H' a L T ex f R lv' tg':=by
 obtain⟨ok,rk,_,ne,al,dx,p,df,dw,ns,zs,h1,h2,⟨m,h3,h3'⟩,h4,h5,h6,h7,h8⟩:=h;have kt:=k.tups h6 h8;have no:∀b o,H b=some o->(∀xs,o ≠ .lst xs)->b ∉ [L,T]:=fun b o e n=>ZaP (fun z=>by rw[z,h6] at e;injection e with e;exact n _ e.symm) (fun z=>by rw[z,h8] at e;injection e with e;exact n _ e.symm);refine⟨ok,rk,st,ne,fun x hx=>⟨(al x hx).1,let ⟨xs,e⟩:=(al x hx).2;⟨xs,k _ _ (al x hx).1 e⟩⟩,dx,p,df,dw,ns,zs',k _ _ (no _ _ h1 fun _ z=>nomatch z) h1,?_,⟨m,k _ _ (no _ _ h3 fun _ z=>nomatch z) h3,h3'⟩,h4,h5.keep (k.less Zcw) kt,e1,e2,e3⟩
 obtain⟨f1,f2,f3,zf,a1,a2,a3,a4,a5⟩:=h2;exact⟨f1,f2,f3,zf,kt _ _ a1,kt _ _ a2,kt _ _ a3,kt _ _ a4,a5.keep kt⟩
end
theorem RdAt.lastL{C a L T:Addr}{ex:List Addr}{H:Hp}{f:FQ}{R:List Srd.Qd}{lv:List (List Pr)}{tg:List Str}(h:RdAt C H a L T ex f R lv tg):∃lv0 l,lv=lv0 ++ [l]:=by
 have:=h.st.len;rcases List.eq_nil_or_concat lv with rfl|⟨lv0,l,rfl⟩
 ·rw[List.length_nil] at this;lia
 ·exact⟨lv0,l,List.concat_eq_append ..⟩
structure WS(H5 H:Hp)(d:Addr)(m:List (Key×V))(D:Int->Option Addr)(mk:Int->List (Key×V))(tf:Int->List Str)(Lf:Int->Str->Option Addr)(W:Int->Str->List Pr)(c:Nat):Prop where
 kp:∀b o,b≠d->H5 b=some o->H b=some o
 h5:∃o,H5 d=some o
 hm:H d=some (.dK m)
 ml:m.length<=c
 vm:∀k,Zbe m (Sum.inl k)=(D k).map V.ref
 dk:∀k a,D k=some a->H5 a=none/\H a=some (.dK (mk k))/\(mk k).map (·.1)=(tf k).map Sum.inr/\(tf k).length<=c/\∀t,Zbe (mk k) (Sum.inr t)=(Lf k t).map V.ref
 dn:∀k t,D k=none->Lf k t=none
 ln:∀k t,Lf k t=none->W k t=[]
 ls:∀k t l,Lf k t=some l->H5 l=none/\∃zs,H l=some (.lst zs)/\PL H zs (W k t)
 di:∀k k' a,D k=some a->D k'=some a->k=k'
 li:∀k t k' t' l,Lf k t=some l->Lf k' t'=some l->k=k'/\t=t'
section
variable{H5 H:Hp}{d:Addr}{m:List (Key×V)}{D:Int->Option Addr}{mk:Int->List (Key×V)}{tf:Int->List Str}{Lf:Int->Str->Option Addr}{W:Int->Str->List Pr}{c:Nat}
theorem WS.same{H':Hp}(h:WS H5 H d m D mk tf Lf W c)(s:Zk H H'):WS H5 H' d m D mk tf Lf W c where
 kp:=fun b o hb e=>s _ _ (h.kp b o hb e)
 h5:=h.h5
 hm:=s _ _ h.hm
 ml:=h.ml
 vm:=h.vm
 dk:=fun k a e=>by
  obtain⟨a1,a2,a3⟩:=h.dk k a e;exact⟨a1,s _ _ a2,a3⟩
 dn:=h.dn
 ln:=h.ln
 ls:=fun k t l e=>by
  obtain⟨a1,zs,a2,a3⟩:=h.ls k t l e;exact⟨a1,zs,s _ _ a2,a3.keep fun b xs e=>s _ _ e⟩
 di:=h.di
 li:=h.li
theorem WS.ned(h:WS H5 H d m D mk tf Lf W c){b:Addr}(hb:H5 b=none):b≠d:=fun z=>by
 obtain⟨o,ho⟩:=h.h5;rw[z,ho] at hb;cases hb
theorem WS.newk(h:WS H5 H d m D mk tf Lf W c){k:Int}{d0:Addr}(hk:D k=none)(e0:H d0=some (.dK []))(f0:H5 d0=none)(hf:∀k',D k'≠some d0) :
  WS H5 (upd H d (.dK (putK m (Sum.inl k) (.ref d0)))) d (putK m (Sum.inl k) (.ref d0)) (fun k'=>if k'=k then some d0 else D k') (fun k'=>if k'=k then [] else mk k') (fun k'=>if k'=k then [] else tf k') Lf W (c+1) where
 kp:=fun b o hb e=>by rw[Zd hb];exact h.kp b o hb e
 h5:=h.h5
 hm:=Zb
 ml:=by have:=Za5 m (Sum.inl k) (.ref d0);have:=h.ml;lia
 vm:=fun k'=>by
  rw[ZeD];by_cases e:k'=k
  ·subst e;rw[if_pos rfl,if_pos rfl];rfl
  ·rw[if_neg (fun z=>e (by injection z)),if_neg e];exact h.vm k'
 dk:=fun k' a e=>by
  by_cases e1:k'=k
  ·subst e1;simp only[if_pos] at e ⊢;injection e with e;subst e;refine⟨f0,by rw[Zd (h.ned f0)];exact e0,rfl,Nat.zero_le _,fun t=>?_⟩;rw[h.dn k' t hk];rfl
  ·simp only[if_neg e1] at e ⊢;obtain⟨a1,a2,a3,a4,a5⟩:=h.dk k' a e;exact⟨a1,by rw[Zd (h.ned a1)];exact a2,a3,by lia,a5⟩
 dn:=fun k' t e=>by
  by_cases e1:k'=k
  ·subst e1;simp only[if_pos] at e;cases e
  ·simp only[if_neg e1] at e;exact h.dn k' t e
 ln:=h.ln
 ls:=fun k' t l e=>by
  obtain⟨a1,zs,a2,a3⟩:=h.ls k' t l e;refine⟨a1,zs,by rw[Zd (h.ned a1)];exact a2,a3.keep fun b xs z=>?_⟩;rw[Zd (fun y=>by rw[y,h.hm] at z;cases z)];exact z
 di:=fun k1 k2 a e1 e2=>by
  by_cases c1:k1=k
  ·by_cases c2:k2=k
   ·rw[c1,c2]
   ·simp only[if_pos c1,if_neg c2] at e1 e2;injection e1 with e1;rw[<- e1] at e2;exact absurd e2 (hf k2)
  ·by_cases c2:k2=k
   ·simp only[if_neg c1,if_pos c2] at e1 e2;injection e2 with e2;rw[<- e2] at e1;exact absurd e1 (hf k1)
   ·simp only[if_neg c1,if_neg c2] at e1 e2;exact h.di k1 k2 a e1 e2
 li:=h.li
theorem WS.newl(h:WS H5 H d m D mk tf Lf W c){k:Int}{t:Str}{a l0:Addr}(hk:D k=some a)(hl:Lf k t=none)(e0:H l0=some (.lst []))(f0:H5 l0=none)(hf:∀k' t',Lf k' t'≠some l0) :
  WS H5 (upd H a (.dK (putK (mk k) (Sum.inr t) (.ref l0)))) d m D (fun k'=>if k'=k then putK (mk k) (Sum.inr t) (.ref l0) else mk k') (fun k'=>if k'=k then tf k ++ [t] else tf k') (fun k' t'=>if k'=k/\t'=t then some l0 else Lf k' t') W (c+1):=by
 obtain⟨b1,b2,b3,b4,b5⟩:=h.dk k a hk;have hv:Zbe (mk k) (Sum.inr t)=none:=by rw[b5,hl];rfl
 have nl:l0≠a:=fun z=>by rw[z,b2] at e0;cases e0
 have kt:∀b xs,H b=some (.tup xs)->(upd H a (.dK (putK (mk k) (Sum.inr t) (.ref l0)))) b=some (.tup xs):=fun b xs z=>by
  rw[Zd (fun y=>by rw[y,b2] at z;cases z)];exact z
 refine⟨fun b o hb e=>?_,h.h5,?_,?_,h.vm,fun k' a' e=>?_,fun k' t' e=>?_,fun k' t' e=>?_,fun k' t' l e=>?_,h.di,fun k1 t1 k2 t2 l e1 e2=>?_⟩
 ·rw[Zd (Zi e b1)];exact h.kp b o hb e
 ·rw[Zd (h.ned b1).symm];exact h.hm
 ·have:=h.ml;lia
 ·by_cases e1:k'=k
  ·subst e1;rw[hk] at e;injection e with e;subst e;simp only[if_pos];refine⟨b1,Zb,KS.new b3 _ hv,by rw[List.length_append,List.length_singleton];lia,fun t'=>?_⟩;rw[ZeD];by_cases e2:t'=t
   ·subst e2;simp only[if_true,true_and];rfl
   ·rw[if_neg (fun z=>e2 (by injection z))];simp only[e2,and_false,if_false];exact b5 t'
  ·simp only[if_neg e1];obtain⟨a1,a2,a3,a4,a5⟩:=h.dk k' a' e;have na:a'≠a:=fun z=>by
    subst z;exact e1 (h.di k' k _ e hk)
   refine⟨a1,by rw[Zd na];exact a2,a3,by lia,fun t'=>?_⟩;rw[if_neg (fun z=>e1 z.1)];exact a5 t'
 ·have hno : ¬ (k'=k/\t'=t):=fun z=>by rw[z.1,hk] at e;cases e
  simp only[if_neg hno];exact h.dn k' t' e
 ·by_cases hh:k'=k/\t'=t
  ·simp only[if_pos hh] at e;cases e
  ·simp only[if_neg hh] at e;exact h.ln k' t' e
 ·by_cases hh:k'=k/\t'=t
  ·obtain⟨rfl,rfl⟩:=hh;simp only[and_self,if_true] at e;injection e with e;subst e;exact⟨f0,[],by rw[Zd nl];exact e0,by rw[h.ln _ _ hl];exact .nil⟩
  ·simp only[if_neg hh] at e;obtain⟨a1,zs,a2,a3⟩:=h.ls k' t' l e;exact⟨a1,zs,by rw[Zd (fun y=>by rw[y,b2] at a2;cases a2)];exact a2,a3.keep kt⟩
 ·by_cases c1:k1=k/\t1=t
  ·by_cases c2:k2=k/\t2=t
   ·exact⟨c1.1.trans c2.1.symm,c1.2.trans c2.2.symm⟩
   ·simp only[if_pos c1,if_neg c2] at e1 e2;injection e1 with e1;rw[<- e1] at e2;exact absurd e2 (hf k2 t2)
  ·by_cases c2:k2=k/\t2=t
   ·simp only[if_neg c1,if_pos c2] at e1 e2;injection e2 with e2;rw[<- e2] at e1;exact absurd e1 (hf k1 t1)
   ·simp only[if_neg c1,if_neg c2] at e1 e2;exact h.li _ _ _ _ l e1 e2
theorem WS.app(h:WS H5 H d m D mk tf Lf W c){k:Int}{t:Str}{l pt:Addr}{zs:List V}{p:Pr}{W':Int->Str->List Pr}(hl:Lf k t=some l)(e1:H l=some (.lst zs))(ep:H pt=some (tp p))(hW:∀k' t',W' k' t'=W k' t'++if k=k'/\t=t' then [p] else []) :
  WS H5 (upd H l (.lst (zs ++ [.ref pt]))) d m D mk tf Lf W' c:=by
 obtain⟨b1,zs',b2,b3⟩:=h.ls k t l hl;rw[e1] at b2;injection b2 with b2;injection b2 with b2;subst b2;have kt:=ZcC (zs:=zs ++ [.ref pt]) e1;refine⟨fun b o hb e=>?_,h.h5,?_,h.ml,h.vm,fun k' a' e=>?_,h.dn,fun k' t' e=>?_,fun k' t' l' e=>?_,h.di,h.li⟩
 ·rw[Zd (Zi e b1)];exact h.kp b o hb e
 ·rw[Zd (h.ned b1).symm];exact h.hm
 ·obtain⟨a1,a2,a3⟩:=h.dk k' a' e;exact⟨a1,by rw[Zd (fun y=>by rw[y,e1] at a2;cases a2)];exact a2,a3⟩
 ·have hno : ¬ (k=k'/\t=t'):=fun z=>by rw[<- z.1,<- z.2,hl] at e;cases e
  rw[hW,if_neg hno,h.ln k' t' e];rfl
 ·by_cases hh:k=k'/\t=t'
  ·obtain⟨rfl,rfl⟩:=hh;rw[hl] at e;injection e with e;subst e;refine⟨b1,_,Zb,?_⟩;rw[hW,if_pos ⟨rfl,rfl⟩];exact(PL.snoc ep b3).keep kt
  ·obtain⟨a1,zs',a2,a3⟩:=h.ls k' t' l' e;have nl:l'≠l:=fun y=>by
    subst y;have:=h.li k' t' k t _ e hl;exact hh ⟨this.1.symm,this.2.symm⟩
   refine⟨a1,zs',by rw[Zd nl];exact a2,?_⟩;rw[hW,if_neg hh,List.append_nil];exact a3.keep kt
end
def ZeG(C:Addr):Sp:=fun vs H Q _=>∃(a L T:Addr)(ex:List Addr)(f:FQ)(R:List Srd.Qd)(lv:List (List Pr))(tg:List Str)(k:Int)(t:Str),vs=[.ref a,.int k,.str t]/\RdAt C H a L T ex f R lv tg/\∀(r:Addr)(zs:List V)(H':Hp),Zk H H'->H' r=some (.lst zs)->PL H' zs (Zc2 R k t)->Q (.ref r) H'
def Zc0(C:Addr):Sp:=fun vs H Q _=>∃(a L T:Addr)(ex:List Addr)(f:FQ)(R:List Srd.Qd)(lv:List (List Pr))(l:List Pr)(tg:List Str),vs=[.ref a]/\RdAt C H a L T ex f R (lv ++ [l]) tg/\∀(d:Addr)(ns:List Int)(H':Hp),Zk H H'->H d=none->DI H' d ns->ns.length<=5000->(∀x,x∈ns↔Edd f.ts l x)->Q (.ref d) H'
def Zhq(C:Addr):Sp:=fun vs H Q _=>∃(a L T:Addr)(ex:List Addr)(f:FQ)(R:List Srd.Qd)(lv:List (List Pr))(l:List Pr)(tg:List Str)(w:Str),vs=[.ref a,.str w]/\RdAt C H a L T ex f R (lv ++ [l]) tg/\tg.length<=900/\w≠SL /\
 (∀H',Zk H H'->Nst f.ts R l tg w->Q (.bl false) H')/\∀(H':Hp)(lv':List (List Pr))(tg':List Str),Zv [L,T] H H'->RdAt C H' a L T ex f R lv' tg'->Stp f.ts R (lv ++ [l]) tg w lv' tg'->Q (.bl true) H'
def Zio(C:Addr):Sp:=fun vs H Q _=>∃(a L T:Addr)(ex:List Addr)(f:FQ)(R:List Srd.Qd)(lv:List (List Pr))(l:List Pr)(tg:List Str),vs=[.ref a]/\RdAt C H a L T ex f R (lv ++ [l]) tg/\tg.length<=900 /\
 (∀H',Zk H H'->Nst f.ts R l tg SL->Q (.bl false) H')/\∀(H':Hp)(lv':List (List Pr))(tg':List Str),Zv [L,T] H H'->RdAt C H' a L T ex f R lv' tg'->Stp f.ts R (lv ++ [l]) tg SL lv' tg'->Q (.bl true) H'
def Zdz(C:Addr):Sp:=fun vs H Q _=>∃(a L T:Addr)(ex:List Addr)(f:FQ)(R:List Srd.Qd)(lv:List (List Pr))(l:List Pr)(tg:List Str)(w:Str),vs=[.ref a,.str w]/\RdAt C H a L T ex f R (lv ++ [l]) tg/\tg.length<=900 /\
 (∀H',Zk H H'->Nst f.ts R l tg w->Q (.bl false) H')/\∀(H':Hp)(lv':List (List Pr))(tg':List Str),Zv [L,T] H H'->RdAt C H' a L T ex f R lv' tg'->Stp f.ts R (lv ++ [l]) tg w lv' tg'->Q (.bl true) H'
def Zeh(C:Addr):Sp:=fun vs H Q _=>∃(a L T:Addr)(ex:List Addr)(f:FQ)(R:List Srd.Qd)(lv:List (List Pr))(l:List Pr)(tg:List Str),vs=[.ref a]/\RdAt C H a L T ex f R (lv ++ [l]) tg/\∀(b:Bool)(H':Hp),Zk H H'->(b=true↔tg=[]/\∃x,Edd f.ts l x)->Q (.bl b) H'
theorem Zkf{t:Str}(h:ZdQ t):t≠SL:=fun e=>by
 have:=h.2 47 (by rw[e];decide);lia
theorem Zkc{a b:Srd.Qd}(e:kOf a=kOf b):a=b:=by
 obtain⟨a1,a2,a3,a4⟩:=a;obtain⟨b1,b2,b3,b4⟩:=b;injection e with e1 e;injection e with e2 e;injection e with e3 e;injection e with e4 e;injection e1 with e1;injection e2 with e2;injection e3 with e3;injection e4 with e4;have e1:a1=b1:=e1;have e2:a2=b2:=e2;have e3:a3=b3:=e3;have e4:a4=b4:=e4;rw[e1,e2,e3,e4]
theorem Zlq{m:List (List Key×V)}{S:List Srd.Qd}(h:m.map (·.1)=S.map kOf)(x:Srd.Qd)(v:V):(putK m (kOf x) v).map (·.1)=(if x∈S then S else S ++ [x]).map kOf:=by
 cases hv:Zbe m (kOf x) with
 | none =>
  have hn:=Zgk hv;have hx:x∉S:=fun hx=>hn (by rw[h];exact List.mem_map.mpr ⟨x,hx,rfl⟩);rw[ZeK v hv,if_neg hx,List.map_append,List.map_append,h];rfl
 | some y =>
  have hi:=ZhP hv;rw[h] at hi;obtain⟨z,hz,e⟩:=List.mem_map.mp hi;have e:=Zkc e;subst e;rw[if_pos hz,<- h];unfold putK;rw[ZaS,hv,if_pos (show(some y).isSome=true from rfl),List.map_map];refine List.map_congr_left fun kv _=>?_;show(if kv.1=kOf z then(kv.1,v) else kv).1=kv.1
  split <;> rfl
end Fg
namespace L2
open PySem PySem.Spec PyProof.Rows
theorem Zdd{lo:Int}{n:Nat}{p:Addr}{g:TG}{tt:TT}{te:TE}{R:Hp->Prop}{σ0:St}{H0:Hp}(Pv:Nat->List V->St->Hp->Prop)(h0:Pv 0 [] σ0 H0)
  (hl:∀i ys σ H,i<=n->Pv i ys σ H->H p=some (.lst ys))
  (hs:∀i ys σ H,i<n->Pv i ys σ H->g (.int (lo+i)) σ H fun σ3 H4=>tt σ3 H4 fun b H4'=>if b=true then te σ3 H4' fun v H5=>H5 p=some (.lst ys)/\ys.length<sizeLine/\∃m',m'<n-i/\CW n Pv (i+1) m' (ys ++ [v]) σ3 (upd H5 p (.lst (ys ++ [v])))
   else ∃m',m'<n-i/\CW n Pv (i+1) m' ys σ3 H4')
  (hd:∀ys σ H,Pv n ys σ H->R H) :
  ∃W:Nat->Nat->List V->St->Hp->Prop,(∃m,W 0 m [] σ0 H0)/\∀i m ys σc H2,W i m ys σc H2->H2 p=some (.lst ys)/\(((Itr lo n).stop i H2/\R H2)\/((Itr lo n).go i H2/\∀x H3,(Itr lo n).yld i H2 x H3->g x σc H3 fun σ3 H4=>tt σ3 H4 fun b H4'=>if b=true then te σ3 H4' fun v H5 =>
   H5 p=some (.lst ys)/\ys.length<sizeLine/\∃m',m'<m/\W (i+1) m' (ys ++ [v]) σ3 (upd H5 p (.lst (ys ++ [v]))) else ∃m',m'<m/\W (i+1) m' ys σ3 H4')):=by
 refine⟨CW n Pv,⟨_,rfl,Nat.zero_le _,h0⟩,?_⟩;rintro i m ys σ H ⟨rfl,hi,hp⟩;refine⟨hl i ys σ H hi hp,?_⟩;by_cases hlt:i<n
 ·refine .inr ⟨hlt,?_⟩;rintro x H3 ⟨rfl,rfl⟩;exact hs i ys σ _ hlt hp
 ·have e:i=n:=by lia
  subst e;exact .inl ⟨Nat.le_refl _,hd ys σ H hp⟩
end L2
namespace Fg
open PySem L2 FgM
theorem via{u t:TS}{D:Ends}{σ : St}{H:Hp}(R:St->Hp->Prop)(h2:∀ σ' H',R σ' H'->t D σ' H')(h1:(∀ σ' H',R σ' H'->t D σ' H')->u D σ H):u D σ H:=h1 h2
theorem made{H H':Hp}{x dx C:Addr}(hx:H x=none)(hdx:H dx=none)(kb:∀b o,b≠x->(upd (upd H dx (.own x)) x (.ins C dx [])) b=some o->H' b=some o):Zk H H':=fun b o e=>kb b o (Zi e hx) (by
 rw[Zd (Zi e hx),Zd (Zi e hdx)];exact e)
theorem Zbo{H:Hp}{x dx C b:Addr}(h:(upd (upd H dx (.own x)) x (.ins C dx [])) b=none):H b=none:=by
 by_cases h1:b=x
 ·rw[h1,Zb] at h;cases h
 ·rw[Zd h1] at h;by_cases h2:b=dx
  ·rw[h2,Zb] at h;cases h
  ·rw[Zd h2] at h;exact h
theorem eq_data{K:PySem.W.Frag}{H:Hp}{a b:V}{d:PyData}{neg:Bool}{Q:VK}(ha:Dp K H a d)(hb:Dp K H b d)(hl:d.canLay0=true)(hd:d.depth<=200)(q:Q (.bl (!neg)) H):Zk5 K neg a b H Q:=by
 refine⟨d,d,ha,hb,hl,hl,by lia,?_⟩;rw[PySem.SeqAt.eqv_refl _ hl];cases neg <;> exact q
end Fg
namespace L2
open PySem PySem.Spec PyProof.Rows
section
variable{X:Cx}
theorem Zem{K:PySem.W.Frag}(hK:X.K=K):Zb3 X (.builtin "len") (fun xs H Q=>∃p ys,xs=[.ref p]/\(SqL K H p ys\/SqT K H p ys)/\Q (.int ys.length) H):=hK ▸ Z3
end
end L2
namespace Srd
open PySem PyProof.Rows
section
variable{prog:Program}{w:World}{A:Around}{E:Value->Shared->Prop}{R:Result->Shared->Prop}
abbrev TK3:=List L2.Key×Addr×Value
def ZaR(m:List TK3)(ps:List TK3):List TK3:=ps.foldl (fun m p=>storedH m p.1 p.2.1 p.2.2) m
theorem ZfC{m:List TK3}{k:List L2.Key}{a:Addr}{v:Value}{x:TK3}(h:x∈storedH m k a v):(∃y∈m,y.1=x.1/\y.2.1=x.2.1)\/(x.1=k/\x.2.1=a):=by
 unfold storedH at h
 split at h
 ·obtain⟨y,hy,rfl⟩:=List.mem_map.mp h;refine .inl ⟨y,hy,?_⟩;unfold putAt
  split <;> exact⟨rfl,rfl⟩
 ·rcases List.mem_append.mp h with h|h
  ·exact .inl ⟨x,h,rfl,rfl⟩
  ·rw[List.mem_singleton.mp h];exact .inr ⟨rfl,rfl⟩
theorem ZfR(m:List TK3)(k:List L2.Key)(a:Addr)(v:Value):(storedH m k a v).length<=m.length+1:=by
 unfold storedH
 split
 ·rw[List.length_map];lia
 ·rw[List.length_append];exact Nat.le_refl _
theorem Zdj:∀(ps m:List TK3),(ZaR m ps).length<=m.length+ps.length
 | [],m=>Nat.le_refl _
 | p::ps,m=>by
  have h1:=Zdj ps (storedH m p.1 p.2.1 p.2.2);have h2:=ZfR m p.1 p.2.1 p.2.2;show(ZaR (storedH m p.1 p.2.1 p.2.2) ps).length<=_;rw[List.length_cons];lia
theorem ZdZ{D:Addr}:∀(ps m:List TK3),(∀x∈m,x.2.1<D)->(∀x∈ps,x.2.1<D)->∀x∈ZaR m ps,x.2.1<D
 | [],m,h,_=>h
 | p::ps,m,h,hp=>ZdZ ps _ (fun x hx=>by
   rcases ZfC hx with⟨y,hy,_,e⟩|⟨_,e⟩
   ·rw[<- e];exact h y hy
   ·rw[e];exact hp p (List.mem_cons_self ..)) fun x hx=>hp x (List.mem_cons_of_mem _ hx)
theorem Ze4(ps:List TK3)(i:Nat)(p:TK3)(h:ps[i]?= some p):ZaR [] (ps.take (i+1))=storedH (ZaR [] (ps.take i)) p.1 p.2.1 p.2.2:=by
 unfold ZaR;have e:ps.take (i+1)=ps.take i ++ [p]:=by
  obtain⟨hi,e⟩:=List.getElem?_eq_some_iff.mp h;rw[List.take_succ_eq_append_getElem hi,e]
 rw[e,List.foldl_append];rfl
abbrev tkn(prog:Program)(w:World):HeapKind prog w (List L2.Key):=tupleKind (L2.Zao prog w)
theorem ZgD{h h':Heap}{k:List L2.Key}{a:Addr}(x:(tkn prog w).is h k a)(e:∀o,h.get? a=some o->h'.get? a=some o):(tkn prog w).is h' k a:=by
 obtain⟨o,its,n,h1,h2⟩:=x;exact⟨o,its,n,e o h1,h2⟩
def Zkn(prog:Program)(w:World)(h:Heap)(v:Value)(p:TK3):Prop := ∃b o n,v=.ref b/\h.get? b=some o/\o.cls=.type "tuple" /\ o.data=.seq #[.ref p.2.1,p.2.2] n/\(tkn prog w).is h p.1 p.2.1
def ZjI(prog:Program)(w:World)(h0:Heap)(d:Addr)(items:Array Value)(ps:List TK3):Prop:=items.size=ps.length/\(∀p∈ps,p.2.1<d)/\∀(i:Nat) v p,items[i]?= some v->ps[i]?= some p->∀h:Heap,(∀b o,b<d->h0.get? b=some o->h.get? b=some o)->Zkn prog w h v p
theorem ZfE{s:Shared}{v:Value}{p:TK3}{Q:List Value->Shared->Prop}(hp:Zkn prog w s.heap v p)(q:(tkn prog w).is s.heap p.1 p.2.1->Q [.ref p.2.1,p.2.2] s):wpAny (model prog w) A (Builtin.Dict.pairItems v) Q E s:=by
 obtain⟨b,o,n,rfl,ho,hc,hd,hk⟩:=hp;unfold Builtin.Dict.pairItems;refine wpAny_bind (wpAny_typeOf (T := "tuple") ⟨o,ho,hc⟩ ?_);rw[if_pos (by decide)];exact wpAny_bind (wpAny_seqItems ho hd (wpAny_pure (q hk)))
set_option maxHeartbeats 1000000 in
theorem Zg9{h0:Heap}{D I l:Addr}{items:Array Value}{ps:List TK3}(hh:A.in1.handled=none)(hu:(tkn prog w).room A.in1)(ht:ZjI prog w h0 D items ps)(hDI:D<I)(hlI:l≠I)(hn:items.size<=100000):∀(k i:Nat)(j:Int)(jt:Tok)(s:Shared),items.size-i=k->i<=items.size->(s.heap.IsListIter I l i/\s.heap.IsList l items)->l<D->s.heap.DictOfH (tkn prog w) D (ZaR [] (ps.take i))->(∀b o,b<D->h0.get? b=some o->s.heap.get? b=some o) ->
   (∀h' tk,h'.DictOfH (tkn prog w) D (ZaR [] ps)->(∀b o,b<D->h0.get? b=some o->h'.get? b=some o)->R (.ok (.ret .none)) { s with heap:=h',toks:=tk })->codeAny (model prog w) A (.builtin "dict.update.loop" ⟨[.ref D,.ref I,.int j jt,.none],[]⟩) R s:=by
 have W:=Walks.list (prog:=prog) (w:=w) (A:=A.in1) hh I l hlI items;have DK:∀{h h':Heap}{i:Nat},h.DictOfH (tkn prog w) D (ZaR [] (ps.take i))->(∀b o,b<=D->h.get? b=some o->h'.get? b=some o)->h'.DictOfH (tkn prog w) D (ZaR [] (ps.take i)):=fun{h h' i} ⟨o,es,ep,ho,h1,h2,h3,h4,h5⟩ hk=>⟨o,es,ep,hk D o (Nat.le_refl _) ho,h1,h2,h3,fun x hx=>ZgD (h4 x hx) fun o e=>hk _ o (Nat.le_of_lt (ZdZ _ [] (fun _ h=>nomatch h) (fun y hy=>ht.2.1 y (List.mem_of_mem_take hy)) x hx)) e,h5⟩
 intro k
 induction k with
 | zero =>
  intro i j jt s hk hi hst hlD hd hb hR;obtain rfl:i=items.size:=by lia
  refine codeAny_builtin Zak ?_;rw[Around.under_plainId Zw _];change wpAny _ A.in1 (pyNext (.ref I) >>= _) _ _ s;refine wpAny_bind (W.done s _ _ hst fun h' tk hm=>?_);change wpAny _ A.in1 (Builtin.Dict.addKeywords D [] >>= fun _=>ret Value.none) _ _ _;refine wpAny_bind ?_;unfold Builtin.Dict.addKeywords;refine wpAny_pure (wpAny_pure ?_);have hd':=DK hd fun b o hb' e=>hm b o (fun z=>Nat.lt_irrefl _ (Nat.lt_of_le_of_lt (List.mem_singleton.mp z ▸ hb') hDI)) e;rw[ht.1,List.take_length] at hd';exact hR h' tk hd' fun b o hb' e=>hm b o (fun z=>Nat.lt_irrefl _ (Nat.lt_trans (List.mem_singleton.mp z ▸ hb') hDI)) (hb b o hb' e)
 | succ k ih =>
  intro i j jt s hk hi hst hlD hd hb hR;have hlt:i<items.size:=by lia
  refine codeAny_builtin Zak ?_;rw[Around.under_plainId Zw _];change wpAny _ A.in1 (pyNext (.ref I) >>= _) _ _ s;refine wpAny_bind (W.item i s _ _ hlt hst fun v h' tk hP hst' hm=>?_);have hd':=DK hd fun b o hb' e=>hm b o (fun z=>Nat.lt_irrefl _ (Nat.lt_of_le_of_lt (List.mem_singleton.mp z ▸ hb') hDI)) e;have hb1:∀b o,b<D->h0.get? b=some o->h'.get? b=some o:=fun b o hb' e=>hm b o (fun z=>Nat.lt_irrefl _ (Nat.lt_trans (List.mem_singleton.mp z ▸ hb') hDI)) (hb b o hb' e);have hpl:i<ps.length:=by have:=ht.1;lia
  have hp:=ht.2.2 i v ps[i] hP (List.getElem?_eq_getElem hpl) h' hb1;refine wpAny_bind (wpAny_holding (wpAny_bind (wpAny_tryCatch (ZfE (s:={ s with heap:=h',toks:=tk }) hp fun huk=>?_))));dsimp only;have hml:(ZaR [] (ps.take i)).length<=sizeLine:=by
   have:=Zdj (ps.take i) [];rw[List.length_take] at this;have h0l:([]:List TK3).length=0:=rfl;have:=ht.1;rw[sizeLine_eq];lia
  refine wpAny_holding (wpAny_dictSet_heap (s:={ s with heap:=h',toks:=tk }) (hsz:=hml) hu huk hd' fun h2 hd2 sb=>?_);have hk2:∀b o,b≠D->h'.get? b=some o->h2.get? b=some o:=fun b o hb e=>(sb.2 b hb).trans e;refine wpAny_pure ⟨plainId_quiet Zw _,ih (i+1) (j+1) 0 _ (by lia) hlt ?_ hlD ?_ (fun b o hb' e=>hk2 b o (Nat.ne_of_lt hb') (hb1 b o hb' e)) fun h3 tk3 hw3 hb3=>hR h3 tk3 hw3 hb3⟩
  ·refine W.frame _ h' h2 hst' fun b hb o e=>hk2 b o (fun z=>?_) e;simp only[List.mem_cons,List.not_mem_nil,or_false] at hb;rcases hb with rfl|rfl
   ·exact Nat.lt_irrefl _ (z ▸ hDI)
   ·exact Nat.lt_irrefl _ (z ▸ hlD)
  ·rw[Ze4 ps i ps[i] (List.getElem?_eq_getElem hpl)];exact hd2
set_option maxHeartbeats 1000000 in
theorem ZcY{s:Shared}{l:Addr}{items:Array Value}{n:Nat}{sl:Array (Option Value)}{ps:List TK3}{Q:Value->Shared->Prop}(hh:A.handled=none)(hu:A.units+2<cLine)(hl:s.heap.get? l=some { cls:=.type "list",dict:=none,data:=.seq items n,slots:=sl }) (ht:ZjI prog w s.heap s.heap.objs.size items ps) (hn:items.size<=100000)
  (q:∀(h':Heap)(tk:Nat),h'.DictOfH (tkn prog w) s.heap.objs.size (ZaR [] ps)->(∀b o,s.heap.get? b=some o->h'.get? b=some o)->Q (.ref s.heap.objs.size) { s with heap:=h',toks:=tk }) :
  wpAny (model prog w) A (call (.type "dict") [.ref l]) Q E s:=by
 refine callType_codes (Q₁ := fun obj s₁=>obj=.ref s.heap.objs.size/\s₁ = { s with heap:=s.heap.push { cls:=.type "dict",data:=.dict #[] } }) F.kt_called_dict (F.kt_typeCall_dict_1 _) F.entry_dict_init (kt_code_dict_new _ ⟨rfl,rfl⟩) ?_;rintro obj s₁ ⟨rfl,rfl⟩;have hnew:(s.heap.push { cls:=.type "dict",data:=.dict #[] }).DictOfH (tkn prog w) s.heap.objs.size []:=Heap.DictOfH.new s.heap;have hl1:(s.heap.push { cls:=.type "dict",data:=.dict #[] }).get? l=some { cls:=.type "list",dict:=none,data:=.seq items n,slots:=sl }:=Heap.get?_push_of_some _ hl;have hlD:l<s.heap.objs.size:=Heap.lt_size hl;have k0:∀b o,b<s.heap.objs.size->s.heap.get? b=some o->(s.heap.push { cls:=.type "dict",data:=.dict #[] }).get? b=some o:=fun b o _ e=>Heap.get?_push_of_some _ e;have z0:(s.heap.push { cls:=.type "dict",data:=.dict #[] }).objs.size=s.heap.objs.size+1:=Heap.size_push ..;refine⟨hnew.typeIs,F.args_dict_init_2 _ _,?_⟩;generalize s.heap.push { cls:=.type "dict",data:=.dict #[] }=h1 at hnew hl1 k0 z0;unfold Builtin.«dict.__init__»;refine wpAny_bind ?_;unfold Builtin.Dict.selfAndRest;refine wpAny_bind (wpAny_notOrdered_dict hnew.typeIs ?_);show wpAny _ _ (pure (s.heap.objs.size,[Value.ref l])) _ _ _;refine wpAny_pure ?_;show wpAny _ _ (Builtin.Dict.updateFrom "dict.__init__" s.heap.objs.size (.ref l) [] .none) _ _ _;unfold Builtin.Dict.updateFrom;refine wpAny_bind (wpAny_typeOf (T := "list") ⟨_,hl1,rfl⟩ ?_);rw[if_pos (by decide)];refine wpAny_bind (Zb6 hh hl1 fun h2 tk2 k2 z2=>?_);rw[if_pos (show(none:Option Value).isNone=true from rfl)];refine wpAny_bind (wpAny_rule ?_);have hl2:=k2 _ _ hl1;have hL2:h2.IsList l items:=⟨_,hl2,rfl,n,rfl⟩;refine wpAny_bind (wpAny_pyIter_list hL2 ?_);have hd3:(h2.push { cls:=.type "list_iterator",data:=.fields #[.ref l,.int 0 0] }).DictOfH (tkn prog w) s.heap.objs.size []:=by
  obtain⟨o,es,ep,ho,h1,h2,h3,h4,h5⟩:=hnew;exact⟨o,es,ep,Heap.get?_push_of_some _ (k2 _ _ ho),h1,h2,h3,fun x hx=>(nomatch hx),h5⟩
 have hsz:s.heap.objs.size<h2.objs.size:=by lia
 refine wpAny_pure ⟨plainId_quiet Zw _,?_⟩;refine Zg9 (h0:=s.heap) (by simpa using hh) ?_ ht hsz (Nat.ne_of_lt (Nat.lt_trans hlD hsz)) hn (items.size-0) 0 0 0 _ rfl (Nat.zero_le _) ⟨⟨_,Heap.get?_push_size _ rfl,rfl,rfl⟩,hL2.push _⟩ hlD hd3 (fun b o hb e=>Heap.get?_push_of_some _ (k2 _ _ (k0 b o hb e))) fun h' tk hd' hb'=>?_
 ·exact tupleKind_room_in1 (by show _<cLine;simp;lia)
 exact⟨rfl,q h' tk hd' fun b o e=>hb' b o (Heap.lt_size e) e⟩
end
end Srd
namespace L2
open PySem PySem.Spec PyProof.Rows PySem.W Srd
def putAllT(kvs:List (List Key×V)):List (List Key×V):=kvs.foldl (fun m kv=>putK m kv.1 kv.2) []
theorem ZbI:∀(kvs m:List (List Key×V)),(kvs.foldl (fun m kv=>putK m kv.1 kv.2) m).length<=m.length+kvs.length
 | [],m=>Nat.le_refl _
 | kv::kvs,m=>by
  have h1:=ZbI kvs (putK m kv.1 kv.2);have h2:=Za5 m kv.1 kv.2;rw[List.length_cons,List.foldl_cons];lia
theorem ZjG{H:Hp}:∀{kvs:List (List Key×V)}{ps:List TK3}{m:List (List Key×V)}{m':List TK3},KT H kvs ps->KT H m m'->KT H (kvs.foldl (fun m kv=>putK m kv.1 kv.2) m) (ZaR m' ps)
 | _,_,_,_,.nil,h=>h
 | _,_,m,m',.cons (a:=kv) (b:=p) r t,h=>by
  have e:p.1=kv.1:=r.1.symm;have h1:=h.put kv.1 r.2.1 r.2.2;have h2:=ZjG t h1;show KT H (List.foldl _ (putK m kv.1 kv.2) _) (ZaR (storedH m' p.1 p.2.1 p.2.2) _);rw[e];exact h2
section
variable{X:Cx}
theorem Zdq(hc:X.calm=true)(hu:X.A.units+2<cLine):Zb3 X (.type "dict") (fun xs H Q=>∃l ys kvs,xs=[.ref l]/\SqL X.K H l ys/\ys.length<=90000/\Paired (fun(y:V)(kv:List Key×V)=>∃t b,y=.ref t/\H t=some (.tup [.ref b,kv.2])/\H b=some (.tup (kv.1.map kV))) ys kvs/\∀d,H d=none->Q (.ref d) (upd H d (.dT (putAllT kvs)))):=by
 intro pins s σ H xs us Q I r h;obtain⟨l,ys,kvs,rfl,hq,hlen,hp,q⟩:=h;obtain⟨u,rfl,ru⟩:=vals1 r;cases ru;obtain⟨its,rv,⟨o,n,ho,ocl,odi,oda⟩,hz⟩:=I.list hq;have hl:=rv.length;obtain⟨ocls,odict,odata,oslots⟩:=o;simp only at ocl odi oda;subst ocl odi oda;have key:∀{ys:List V}{kvs:List (List Key×V)}{its:List Value},Paired (fun(y:V)(kv:List Key×V)=>∃t b,y=.ref t/\H t=some (.tup [.ref b,kv.2])/\H b=some (.tup (kv.1.map kV))) ys kvs->Vals ys its->∃ps:List TK3,KT H kvs ps/\its.length=ps.length/\(∀p∈ps,p.2.1<s.heap.objs.size)/\∀(i:Nat) v p,its[i]?= some v->ps[i]?= some p->Zkn X.prog X.w s.heap v p:=by
  intro ys kvs its hp
  induction hp generalizing its with
  | nil =>
   intro rv;cases rv;exact⟨[],.nil,rfl,fun _ h=>(nomatch h),fun i v p h=>(nomatch h)⟩
  | @cons y kv ys kvs r t ih =>
   intro rv;cases rv with
   | @cons _ v _ its ry rr =>
    obtain⟨ps,h1,h2,h4,h3⟩:=ih rr;obtain⟨ta,tb,rfl,ht,hb⟩:=r;obtain rfl:v=Value.ref ta:=ry;obtain⟨_,us,rus,o,ho,hc',n,hd⟩:=I.hok ta _ ht;obtain⟨u1,u2,rfl,r1,r2⟩:=Vals.two rus;obtain rfl:u1=Value.ref tb:=r1;have hk:=Zdo I.hok hb;refine⟨(kv.1,tb,u2)::ps,.cons ⟨rfl,hb,r2⟩ h1,by rw[List.length_cons,List.length_cons,h2],fun p hp=>?_,fun i v p e1 e2=>?_⟩
    ·rcases List.mem_cons.mp hp with rfl|hp
     ·obtain⟨o,its,n,h5,_⟩:=hk;exact Heap.lt_size h5
     ·exact h4 p hp
    ·cases i with
     | zero =>
      injection e1 with e1;injection e2 with e2;subst e1 e2;exact⟨ta,o,n,rfl,ho,hc',hd,hk⟩
     | succ i=>exact h3 i v p e1 e2
 obtain⟨ps,h1,h2,h4,h3⟩:=key hp rv;refine Srd.ZcY (ps:=ps) (I.ok.hd hc) hu ho ⟨by rw[List.size_toArray];exact h2,h4,fun i v p e1 e2 h' hk=>?_⟩ (by rw[List.size_toArray];lia) fun h' tk hd' hk=>?_
 ·obtain⟨b,o,n,e,ho2,h5,h6,h7⟩:=h3 i v p (by rw[<- e1];simp) e2;exact⟨b,o,n,e,hk b o (Heap.lt_size ho2) ho2,h5,h6,ZgD h7 fun o e=>hk _ o (Heap.lt_size e) e⟩
 ·have hkl:kvs.length=ps.length:=h1.length;have hpl:(putAllT kvs).length<=kvs.length:=by
   have:=ZbI kvs [];rw[List.length_nil,Nat.zero_add] at this;exact this
  obtain⟨o,es,ep,g1,g2,g3,g4,g5,g6⟩:=hd';have hf:H s.heap.objs.size=none:=I.hok.fresh (Nat.le_refl _);exact⟨.ref _,_,I.laid (t':=tk) (fun b o e=>hk b o e) (Nat.le_refl _) (show Zaz X.prog X.w _ h' _ (.dT (putAllT kvs)) from⟨by rw[sizeLine_eq];lia,beq_eq_false_iff_ne.mpr (Ne.symm (Nat.ne_of_lt I.big)),_,(ZjG h1 .nil).keeps fun b ys e=>by rw[Zd (Zi e hf)];exact e,o,es,ep,g1,g2,g3,g4,g6⟩),rfl,q _ hf⟩
end
end L2
namespace Srd
open PySem PyProof.Rows Srt PySem.W
abbrev Ps:=Int×Str
def ZjR:Ps->Ps->Bool:=ZiJ (fun a b:Int=>decide (a<b)) fun a b:Str=>decide (a.cps.toList<b.cps.toList)
theorem Zi0:Sto ZjR:=Zb9.lex Zig
def Zhd(h:Heap)(v:Value)(q:Ps):Prop := ∃a o t u n,v=.ref a/\h.get? a=some o/\o.cls=.type "tuple" /\ o.data=.seq #[.int q.1 t,.str q.2 u] n
theorem Zhd.inj{h:Heap}{v:Value}{q q':Ps}(x:Zhd h v q)(y:Zhd h v q'):q=q':=by
 obtain⟨a,o,t,u,n,rfl,h1,_,h3⟩:=x;obtain⟨a',o',t',u',n',e,h1',_,h3'⟩:=y;cases e;rw[h1] at h1';cases h1';rw[h3] at h3';obtain⟨q1,q2⟩:=q;obtain⟨r1,r2⟩:=q';simp only[Data.seq.injEq,Array.mk.injEq,List.cons.injEq,Value.int.injEq,Value.str.injEq,and_true] at h3';obtain⟨⟨⟨e1,_⟩,⟨e2,_⟩⟩,_⟩:=h3';rw[e1,e2]
theorem Zhd.keep{h h':Heap}{v:Value}{q:Ps}(x:Zhd h v q)(k:∀b o,h.get? b=some o->h'.get? b=some o):Zhd h' v q:=by
 obtain⟨a,o,t,u,n,rfl,h1,r⟩:=x;exact⟨a,o,t,u,n,rfl,k _ _ h1,r⟩
open Classical in
noncomputable def kps(h:Heap)(v:Value):Ps:=if x:∃q,Zhd h v q then x.choose else(0,Str.empty)
theorem Zgi{h:Heap}{v:Value}{q:Ps}(x:Zhd h v q):kps h v=q:=by
 unfold kps;rw[dif_pos ⟨q,x⟩];exact(Exists.choose_spec (⟨q,x⟩:∃q,Zhd h v q)).inj x
section
variable{prog:Program}{w:World}{A:Around}{s:Shared}
theorem ZgL{h:Heap}:∀{vs:List Value},(∀v∈vs,∃q,Zhd h v q)->∃fs,KatTups h vs fs/\fs.length=vs.length/\∀f∈fs,∃i t,f=.int i t
 | [],_=>⟨[],trivial,rfl,fun _ h=>nomatch h⟩
 | v::vs,hv=>by
  obtain⟨q,a,o,t,u,n,rfl,ho,hc,hd⟩:=hv v (List.mem_cons_self ..);obtain⟨fs,kt,hl,hf⟩:=ZgL (vs:=vs) fun x hx=>hv x (List.mem_cons_of_mem _ hx);refine⟨.int q.1 t::fs,KatTups.cons ho hc hd rfl kt,by simp[hl],fun f hm=>?_⟩;rcases List.mem_cons.mp hm with rfl|hm
  ·exact⟨_,t,rfl⟩
  ·exact hf f hm
theorem ZeH{h0:Heap}{vs:List Value}(hv:∀v∈vs,∃q,Zhd h0 v q)(k0:∀b o,h0.get? b=some o->s.heap.get? b=some o)(h2:2<=vs.length):Zby prog w A (fun u v=>ZjR (kps h0 u) (kps h0 v)) vs s:=by
 have hv':∀v∈vs,∃q,Zhd s.heap v q:=fun v hm=>let ⟨q,x⟩:=hv v hm;⟨q,x.keep k0⟩;obtain⟨fs,k,hl,hf⟩:=ZgL hv';refine⟨tuples' true,fun Q E hq=>?_,?_⟩
 ·refine kat_kind (T:=.type "int") k (by lia) (fun v hm=>?_) rfl hq;obtain⟨i,t,rfl⟩:=hf v hm;exact Looks.of_pure rfl
 ·intro x y hx hy E;rw[pairsOf_toList] at hx hy;obtain⟨q,xq⟩:=hv _ (mem_zip_self hx).2;obtain⟨q',yq⟩:=hv _ (mem_zip_self hy).2;have e1:(fun x y:Keyed=>ZjR (kps h0 x.1) (kps h0 y.1)) x y=ZjR q q':=by
   show ZjR (kps h0 x.1) (kps h0 y.1)=_;have hx1:=(mem_zip_self hx);have hy1:=(mem_zip_self hy);rw[Zgi xq,Zgi yq]
  rw[e1];obtain⟨a,o,t,u,n,e,ho,hc,hd⟩:=xq.keep k0;obtain⟨a',o',t',u',n',e',ho',hc',hd'⟩:=yq.keep k0;rw[e,e'];obtain⟨q1,q2⟩:=q;obtain⟨r1,r2⟩:=q';refine kat_lt ho hd ho' hd' ?_;have unf:ZjR (q1,q2) (r1,r2)=(decide (q1<r1) || (decide (q1=r1)&&decide (q2.cps.toList<r2.cps.toList))):=rfl;rw[unf];refine kat_cons (wpAny_eqBool_int (kat_go (fun c1=>kat_yes ?_) (fun c1=>kat_no ?_)))
  ·have c1':q1=r1:=eq_of_beq c1;refine kat_cons (wpAny_eqBool_str (kat_go (fun c4=>kat_yes (kat_nil ⟨rfl,?_⟩)) (fun c4=>kat_no ?_)))
   ·have c4':q2=r2:=eq_of_beq c4;subst c1' c4';simp[Za6]
   ·refine kat_one _ _ (PyProof.Rows.lt_str ⟨rfl,?_⟩);subst c1';simp
  ·refine oneLt_int ⟨rfl,?_⟩;have c1' : ¬ q1=r1:=fun z=>by rw[z] at c1;simp at c1
   simp[c1']
end
end Srd
namespace L2
open PySem PySem.Spec PyProof.Rows PySem.W Srd
def tps(q:Ps):HO:=.tup [.int q.1,.str q.2]
def psK(q:Ps):List Key:=[Sum.inl q.1,Sum.inr q.2]
def PsL(H:Hp)(zs:List V)(qs:List Ps):Prop:=Paired (fun z q=>∃p,z=V.ref p/\H p=some (tps q)) zs qs
theorem PsL.mem{H:Hp}:∀{zs:List V}{qs:List Ps},PsL H zs qs->∀z∈zs,∃p,∃q∈qs,z=V.ref p/\H p=some (tps q)
 | _,_,.cons ⟨p,e1,e2⟩ t,z,hz=>by
  rcases List.mem_cons.mp hz with rfl|hz
  ·exact⟨p,_,List.mem_cons_self ..,e1,e2⟩
  ·obtain⟨p,q,hq,r⟩:=PsL.mem t z hz;exact⟨p,q,List.mem_cons_of_mem _ hq,r⟩
theorem PsL.length{H:Hp}:∀{zs:List V}{qs:List Ps},PsL H zs qs->zs.length=qs.length
 | _,_,.nil=>rfl
 | _,_,.cons _ t=>by rw[List.length_cons,List.length_cons,PsL.length t]
theorem PsL.get{H:Hp}:∀{zs:List V}{qs:List Ps},PsL H zs qs->∀(i:Nat) z,zs[i]?= some z->∃p q,qs[i]?= some q/\z=V.ref p/\H p=some (tps q)
 | _,_,.cons ⟨p,e1,e2⟩ t,i,z,hz=>by
  cases i with
  | zero =>
   injection hz with hz;subst hz;exact⟨p,_,rfl,e1,e2⟩
  | succ i=>exact PsL.get t i z hz
theorem PsL.keep{H H':Hp}:∀{zs:List V}{qs:List Ps},PsL H zs qs->(∀b xs,H b=some (.tup xs)->H' b=some (.tup xs))->PsL H' zs qs
 | _,_,.nil,_=>.nil
 | _,_,.cons ⟨p,e1,e2⟩ t,k=>.cons ⟨p,e1,k _ _ e2⟩ (PsL.keep t k)
theorem ZfO{P:Program}{w:World}{H:Hp}{h:Heap}{t:Addr}{q:Ps}(ok:HOk P w H h)(e:H t=some (tps q)):Zhd h (.ref t) q:=by
 obtain⟨_,us,rus,o,ho,hc',n,hd⟩:=ok t _ e;obtain⟨u1,us,rfl,r1,rus⟩:=Vals.inv rus;obtain⟨u2,us,rfl,r2,rus⟩:=Vals.inv rus;obtain rfl:=Vals.end_ rus;obtain⟨t1,rfl⟩:=r1;obtain⟨t2,rfl⟩:=r2;exact⟨t,o,t1,t2,n,rfl,ho,hc',hd⟩
theorem Zh9{P:Program}{w:World}{H:Hp}{h0:Heap}(ok:HOk P w H h0){ys:List V}{its:List Value}{qs:List Ps}(rv:Vals ys its)(ql:PsL H ys qs):∀us:List Value,(∀u∈us,u∈its)->∃zs,Vals zs us/\PsL H zs (us.map (kps h0))
 | [],_=>⟨[],.nil,.nil⟩
 | u::us,h=>by
  obtain⟨y,hy,ry⟩:=Zbd rv u (h u (List.mem_cons_self ..));obtain⟨zs,rz,hz⟩:=Zh9 ok rv ql us fun x hx=>h x (List.mem_cons_of_mem _ hx);obtain⟨t,q,_,rfl,e2⟩:=ql.mem y hy;have hu:u=Value.ref t:=ry;subst hu;exact⟨_,.cons ry rz,.cons ⟨t,rfl,by rw[Zgi (ZfO ok e2)];exact e2⟩ hz⟩
theorem ZhB{P:Program}{w:World}{H:Hp}{h0:Heap}(ok:HOk P w H h0):∀{ys:List V}{its:List Value}{qs:List Ps},Vals ys its->PsL H ys qs->its.map (kps h0)=qs
 | _,_,_,.nil,.nil=>rfl
 | _,_,_,.cons (b:=u) r rr,.cons ⟨p,e1,e2⟩ t=>by
  subst e1;have hu:u=Value.ref p:=r;subst hu;rw[List.map_cons,ZhB ok rr t,Zgi (ZfO ok e2)]
theorem Zjg{H:Hp}{kvs:List (List Key×V)}{xs:List (List Key×Addr×Value)}(h:Paired (fun(p:List Key×V)(q:List Key×Addr×Value)=>p.1=q.1/\H q.2.1=some (.tup (p.1.map kV))/\RelV p.2 q.2.2) kvs xs):∀{ps:List Ps},kvs.map (·.1)=ps.map psK->∃ys,Vals ys (xs.map fun x=>Value.ref x.2.1)/\PsL H ys ps:=by
 induction h with
 | nil =>
  intro ps e;cases ps with
  | nil=>exact⟨[],.nil,.nil⟩
  | cons n ns=>cases e
 | @cons p q l m r t ih =>
  intro ps e;cases ps with
  | nil=>cases e
  | cons n ns =>
   rw[List.map_cons,List.map_cons] at e;obtain⟨e1,e2⟩:=List.cons.inj e;obtain⟨ys,h1,h2⟩:=ih e2;refine⟨.ref q.2.1::ys,.cons rfl h1,.cons ⟨q.2.1,rfl,?_⟩ h2⟩;have h3:=r.2.1;rw[e1] at h3;exact h3
section
variable{X:Cx}
theorem ZdB(hc:X.calm=true):Zb3 X (.builtin "sorted") (fun xs H Q=>∃(d:Addr)(kvs:List (List Key×V))(ps:List Ps),xs=[.ref d]/\H d=some (.dT kvs)/\kvs.length<=90000/\kvs.map (·.1)=ps.map psK/\∀(r:Addr)(zs:List V)(ms:List Ps),H r=none->ms.Perm ps->ms.Pairwise (fun a b=>ZjR b a=false)->PsL H zs ms->Q (.ref r) (upd H r (.lst zs))):=by
 intro pins s σ H xs us Q I r h;obtain⟨d,kvs,ps,rfl,hd,hlen,hkn,q⟩:=h;obtain⟨u,rfl,rx⟩:=vals1 r;obtain rfl:u=.ref d:=rx;obtain⟨z,lo,xs,rel,o,es,ep,ho,hx,hdat,hes,hnd⟩:=(show Zaz X.prog X.w H s.heap d (.dT kvs) from I.hok d _ hd);obtain⟨ys,rv,pl⟩:=Zjg rel hkn;have hek:es.toList.map (·.key)=xs.map fun x=>Value.ref x.2.1:=by
  rw[hes,List.map_map];rfl
 have hxl:kvs.length=xs.length:=rel.length;have hel:es.size=xs.length:=by rw[<- Array.length_toList,hes,List.length_map]
 refine ZbF (lv:=fun u v=>ZjR (kps s.heap u) (kps s.heap v)) (C:=fun ys=>ys=xs.map fun x=>Value.ref x.2.1) (Zi0.swo (kps s.heap)) (fun Q' E' hq=>?_) (fun ys' h6 tk6 d6 hC k6 h2l=>?_) fun pa ys' out h3 tk3 d3 c hC hperm hso k3 e3 hle hos=>?_
 ·refine ZbD (Zen lo) (I.ok.hd hc) (⟨o,ho,hx,hdat⟩:ZgB s.heap d es ep) (by rw[sizeLine_eq];lia) fun acc h' tk kp hit hle=>?_;have hacc:acc.toList=es.toList.map (·.key):=by
   refine List.ext_getElem? fun j=>?_;rw[Array.getElem?_toList,List.getElem?_map,Array.getElem?_toList];cases hj:acc[j]? with
   | none =>
    have h3:acc.size<=j:=Array.getElem?_eq_none_iff.mp hj;rw[hit.1] at h3;rw[Array.getElem?_eq_none h3];rfl
   | some v =>
    obtain⟨e,h1,rfl⟩:=hit.2 j v hj;rw[h1];rfl
  rw[hacc,hek];exact hq _ h' tk s.drawn kp rfl (by rw[List.length_map];lia) hle
 ·subst hC;refine ZeH (h0:=s.heap) (fun v hv=>?_) k6 h2l;obtain⟨y,hy,ry⟩:=Zbd rv v hv;obtain⟨t,q1,_,rfl,e2⟩:=pl.mem y hy;obtain rfl:v=Value.ref t:=ry;exact⟨q1,ZfO I.hok e2⟩
 ·subst hC;obtain⟨zs,rz,hzq⟩:=Zh9 I.hok rv pl out.toList fun u hu=>hperm.mem_iff.mp hu;have hzl:zs.length=out.size:=rz.length.trans (Array.length_toList ..);have hol:out.size=xs.length:=by
   have:=hperm.length_eq;rw[Array.length_toList,List.length_map] at this;exact this
  have I2:=I.laid (h':=h3) (t':=tk3) (a:=pa) (o:=.lst zs) (fun b o e=>k3 b o e) hle (show Zaz X.prog X.w _ h3 _ (.lst zs) from⟨by rw[sizeLine_eq];lia,out.toList,c,rz,e3⟩);refine⟨.ref pa,_,I2.draws (d:=d3),rfl,q pa zs _ (I.hok.fresh hle) ?_ (List.pairwise_map.mpr hso) hzq⟩;rw[<- ZhB I.hok rv pl];exact hperm.map _
end
end L2
namespace L2
open PySem PySem.Spec PyProof.Rows PySem.W
section
variable{X:Cx}
theorem Zlu{c:Nat}(h1:97<=c)(h2:c<=122):∃(i:Nat)(r:List Nat),Builtin.Str.occurrences Fg.ABC ⟨#[c]⟩ 0 Fg.ABC.length 1=i::r:=by
 have h:=Fg.Zjo (c:=c) (by lia);have e:azB c=true:=by
  unfold azB;simp;lia
 rw[e] at h;cases hh:Builtin.Str.occurrences Fg.ABC ⟨#[c]⟩ 0 Fg.ABC.length 1 with
 | nil=>rw[hh] at h;cases h
 | cons i r=>exact⟨i,r,rfl⟩
theorem Zip:MtM X "str.index" (fun x vs H Q=>∃c:Nat,x=.str Fg.ABC/\vs=[.str ⟨#[c]⟩]/\97<=c/\c<=122/\∀i:Nat,Q (.int (i:Int)) H):=by
 intro pins s σ H x vs v us Q I rx rv h;obtain⟨c,rfl,rfl,h1,h2,q⟩:=h;obtain⟨t,rfl⟩:=rx;obtain⟨u,rfl,ru⟩:=rv.one;obtain⟨t2,rfl⟩:=ru;obtain⟨i,r,e⟩:=Zlu h1 h2;exact call_gives PySem.F.slot_str_index (typeIs_str _ _ _) PySem.F.entry_str_index (PySem.F.args_str_index_2 _ _) (gives_str_index _ _ _ _ i r e) ⟨.int (i:Int),H,I.tok _,⟨_,rfl⟩,q i⟩
theorem Zho(hu:X.A.units+20<cLine){K:PySem.W.Frag}(hK:X.K=K):MtM X "list.index" (fun x vs H Q=>∃(p y k:Addr)(as:List Str)(bs:List V)(d:PyData),x=.ref p/\vs=[.ref y]/\SqL K H p (as.map V.str ++ .ref k::bs)/\(as.length+bs.length)<=90000/\(∀b∈bs,∃t,b=V.str t/\PyData.strOk t=true)/\(∀a∈as,PyData.strOk a=true)/\Dp K H (.ref k) d/\Dp K H (.ref y) d/\d.canLay0=true/\d.depth<=8/\Q (.int (as.length:Int)) H):=by
 subst hK;intro pins s σ H x vs v us Q I rx rv h;obtain⟨p,y,k,as,bs,d,rfl,rfl,hq,hlen,hbs,has,dk,dy,hl,hdp,q⟩:=h;cases rx;obtain⟨u,rfl,ru⟩:=rv.one;obtain⟨its,r,pl,hz⟩:=I.list hq;obtain⟨⟨cls,dd,data,sl⟩,m,ho,hc,hdd,hd⟩:=pl;simp only at hc hdd hd;subst hc hdd hd;have hl2:=r.length;simp only[List.length_append,List.length_map,List.length_cons] at hl2;obtain⟨bsy,rby⟩:=dy.reads I ru;have shape:∀{as:List Str}{bs:List V}{its:List Value},Vals (as.map V.str ++ .ref k::bs) its->(∀b∈bs,∃t,b=V.str t/\PyData.strOk t=true)->(∀a∈as,PyData.strOk a=true)->(∀u∈its,(∃t x,u=Value.str x t/\PyData.strOk x=true)\/u=.ref k)/\its[as.length]?= some (.ref k)/\∀(j:Nat) v,j<as.length->its[j]?= some v->∃t x,v=Value.str x t:=by
  intro as
  induction as with
  | nil =>
   intro bs its r hb _;cases r with
   | @cons _ u _ us r rr =>
    obtain rfl:u=.ref k:=r;refine⟨fun v hv=>?_,rfl,fun j v hj=>absurd hj (Nat.not_lt_zero _)⟩;rcases List.mem_cons.mp hv with rfl|hv
    ·exact .inr rfl
    ·obtain⟨b,hbm,rb⟩:=Zbd rr v hv;obtain⟨t,rfl,ok⟩:=hb b hbm;obtain⟨t',rfl⟩:=rb;exact .inl ⟨t',t,rfl,ok⟩
  | cons a as ih =>
   intro bs its r hb ha;cases r with
   | @cons _ u _ us r rr =>
    obtain⟨t',rfl⟩:=r;obtain⟨h1,h2,h3⟩:=ih rr hb fun x hx=>ha x (List.mem_cons_of_mem _ hx);refine⟨fun v hv=>?_,h2,fun j v hj e=>?_⟩
    ·rcases List.mem_cons.mp hv with rfl|hv
     ·exact .inl ⟨t',a,rfl,ha a (List.mem_cons_self ..)⟩
     ·exact h1 v hv
    ·cases j with
     | zero =>
      injection e with e;exact⟨t',a,e.symm⟩
     | succ j=>exact h3 j v (by rw[List.length_cons] at hj;lia) e
 obtain⟨sh1,sh2,sh3⟩:=shape r hbs has
 let e:Value->Bool:=fun v=>match v with | .ref _=>true|_=>false
 have hj:as.length<its.length:=by lia
 have hk0:its[as.length]'hj=.ref k:=by
  rw[List.getElem?_eq_getElem hj] at sh2;injection sh2
 have dkt:∃ds,d=.tuple ds\/d=.list ds:=by
  cases dk with
  | lst _ _=>exact⟨_,.inr rfl⟩
  | tup _ _=>exact⟨_,.inl rfl⟩
 refine call_meets PySem.F.slot_list_index ⟨_,ho,rfl⟩ PySem.F.entry_list_index (PySem.F.args_list_index_2 _ _)
  (PySem.SeqAt.list_indexAt p its.toArray m none sl u e as.length (by rw[List.size_toArray];exact hj) (by rw[sizeLine_eq] at hz;lia) ?_ ?_) ⟨ho,fun v hv=>?_,⟨.int _,H,I.tok _,⟨_,rfl⟩,q⟩⟩
 ·show e its[as.length]=true;rw[hk0]
 ·intro j hjs hlt;show e its[j]=false;obtain⟨t,x,e'⟩:=sh3 j _ hlt (List.getElem?_eq_getElem (by simpa using hjs));rw[e']
 ·have hv':v∈its:=by simpa using hv
  have hu2:X.A.in1.units+10<cLine:=by
   show X.A.units+1+10<cLine;lia
  rcases sh1 v hv' with⟨t,x,rfl,ok⟩|rfl
  ·have:=PySem.SeqAt.eqAt_reads (.str x) d X.A.in1 s (.str x t) u _ bsy (.str x t) rby ok hl (by show _+min 0 _<_;lia);have ev:PyData.eqv (.str x) d=false:=by
    obtain⟨ds,rfl|rfl⟩:=dkt <;> rfl
   rw[ev] at this;exact this
  ·obtain⟨ask,rk⟩:=dk.reads (u:=.ref k) I rfl;have:=PySem.SeqAt.eqAt_reads d d X.A.in1 s (.ref k) u ask bsy rk rby hl hl (by lia);rw[PySem.SeqAt.eqv_refl _ hl] at this;exact this
end
end L2
namespace Fg
open PySem L2 FgM
inductive Pa where
 | nil
 | kids (m:Int) (o:Pa)
 | tag (t:Str) (w o:Pa)
inductive RepP(H:Hp):List V->Pa->Prop
 | nil:RepP H [] .nil
 | kids {a:Addr} {m:Int} {vs:List V} {o:Pa}:H a=some (.tup [.str "kids",.int m])->RepP H vs o->RepP H (.ref a::vs) (.kids m o)
 | tag {a q:Addr} {t:Str} {ys vs:List V} {w o:Pa}:H a=some (.tup [.str "tag",.str t,.ref q])->H q=some (.tup ys)->RepP H ys w->RepP H vs o->RepP H (.ref a::vs) (.tag t w o)
theorem RepP.mono{H H':Hp}(k:TK H H'):∀{vs:List V}{g:Pa},RepP H vs g->RepP H' vs g
 | _,_,.nil=>.nil
 | _,_,.kids h1 h2=>.kids (k _ _ h1) (h2.mono k)
 | _,_,.tag h1 h2 h3 h4=>.tag (k _ _ h1) (k _ _ h2) (h3.mono k) (h4.mono k)
namespace Pa
def app:Pa->Pa->Pa
 | .nil,q=>q
 | .kids m o,q=>.kids m (app o q)
 | .tag t w o,q=>.tag t w (app o q)
def nk:Pa->Nat
 | .nil=>0
 | .kids _ o=>1+nk o
 | .tag _ w o=>nk w+nk o
def sz:Pa->Nat
 | .nil=>0
 | .kids _ o=>1+sz o
 | .tag _ w o=>1+sz w+sz o
def dep:Pa->Nat
 | .nil=>0
 | .kids _ o=>dep o
 | .tag _ w o=>max (dep w+1) (dep o)
def ks:Pa->List Int
 | .nil=>[]
 | .kids m o=>m::ks o
 | .tag _ w o=>ks w++ks o
def spl:Pa->List (Str ⊕ Int)
 | .nil=>[]
 | .kids m o=>.inr m::spl o
 | .tag t w o=>.inl t::(spl w ++ .inl SL::spl o)
def tags:Pa->List Str
 | .nil=>[]
 | .kids _ o=>tags o
 | .tag t w o=>t::(tags w++tags o)
theorem Zgj:∀p:Pa,(ks p).length=nk p
 | .nil=>rfl
 | .kids m o=>by simp[ks,nk,Zgj o];lia
 | .tag t w o=>by simp[ks,nk,Zgj w,Zgj o]
theorem ZeV:∀p:Pa,dep p<=sz p
 | .nil=>Nat.le_refl _
 | .kids m o=>by have:=ZeV o;simp only[dep,sz];lia
 | .tag t w o=>by have:=ZeV w;have:=ZeV o;simp only[dep,sz];lia
theorem Zb7:∀p:Pa,(spl p).length<=2*sz p
 | .nil=>Nat.le_refl _
 | .kids m o=>by have:=Zb7 o;simp only[spl,sz,List.length_cons];lia
 | .tag t w o=>by have:=Zb7 w;have:=Zb7 o;simp only[spl,sz,List.length_cons,List.length_append];lia
theorem ZgN:∀p q:Pa,nk (app p q)=nk p+nk q
 | .nil,q=>by simp[app,nk]
 | .kids m o,q=>by simp only[app,nk,ZgN o q];lia
 | .tag t w o,q=>by simp only[app,nk,ZgN o q];lia
theorem ZgT:∀p q:Pa,sz (app p q)=sz p+sz q
 | .nil,q=>by simp[app,sz]
 | .kids m o,q=>by simp only[app,sz,ZgT o q];lia
 | .tag t w o,q=>by simp only[app,sz,ZgT o q];lia
theorem ZeA:∀p q:Pa,spl (app p q)=spl p++spl q
 | .nil,q=>rfl
 | .kids m o,q=>by simp[app,spl,ZeA o q]
 | .tag t w o,q=>by simp[app,spl,ZeA o q]
theorem Zc4:∀p q:Pa,tags (app p q)=tags p++tags q
 | .nil,q=>rfl
 | .kids m o,q=>by simp[app,tags,Zc4 o q]
 | .tag t w o,q=>by simp[app,tags,Zc4 o q]
def take:Nat->Pa->Pa
 | 0,_=>.nil
 | _+1,.nil=>.nil
 | i+1,.kids m o=>.kids m (take i o)
 | i+1,.tag t w o=>.tag t w (take i o)
end Pa
theorem RepP.app{H:Hp}:∀{xs ys:List V}{p q:Pa},RepP H xs p->RepP H ys q->RepP H (xs++ys) (p.app q)
 | _,_,_,_,.nil,h=>h
 | _,_,_,_,.kids h1 h2,h=>.kids h1 (h2.app h)
 | _,_,_,_,.tag h1 h2 h3 h4,h=>.tag h1 h2 h3 (h4.app h)
theorem RepP.length{H:Hp}:∀{xs:List V}{p:Pa},RepP H xs p->xs.length<=p.sz
 | _,_,.nil=>Nat.le_refl _
 | _,_,.kids _ h=>by have:=h.length;simp only[Pa.sz,List.length_cons];lia
 | _,_,.tag _ _ _ h=>by have:=h.length;simp only[Pa.sz,List.length_cons];lia
theorem RepP.at{H:Hp}:∀{xs:List V}{p:Pa},RepP H xs p->∀(i:Nat) z,xs[i]?= some z->∃a,z=V.ref a/\((∃m,H a=some (.tup [.str "kids",.int m])/\p.take (i+1)=(p.take i).app (Pa.kids m Pa.nil))\/∃t q ys w,H a=some (.tup [.str "tag",.str t,.ref q])/\H q=some (.tup ys)/\RepP H ys w/\p.take (i+1)=(p.take i).app (Pa.tag t w Pa.nil)/\w.dep<p.dep/\w.sz<p.sz)
 | _,_,.kids h1 h2,i,z,hz=>by
  cases i with
  | zero =>
   injection hz with hz;subst hz;exact⟨_,rfl,.inl ⟨_,h1,rfl⟩⟩
  | succ i =>
   obtain⟨a,e,h⟩:=h2.at i z hz;refine⟨a,e,?_⟩;rcases h with⟨m,g1,g2⟩|⟨t,q,ys,w,g1,g2,g3,g4,g5,g6⟩
   ·exact .inl ⟨m,g1,by show Pa.kids _ (Pa.take (i+1) _)=Pa.kids _ ((Pa.take i _).app _);rw[g2]⟩
   ·exact .inr ⟨t,q,ys,w,g1,g2,g3,by show Pa.kids _ (Pa.take (i+1) _)=Pa.kids _ ((Pa.take i _).app _);rw[g4],g5,by simp only[Pa.sz];lia⟩
 | _,_,.tag h1 h2 h3 h4,i,z,hz=>by
  cases i with
  | zero =>
   injection hz with hz;subst hz;exact⟨_,rfl,.inr ⟨_,_,_,_,h1,h2,h3,rfl,by simp only[Pa.dep];lia,by simp only[Pa.sz];lia⟩⟩
  | succ i =>
   obtain⟨a,e,h⟩:=h4.at i z hz;refine⟨a,e,?_⟩;rcases h with⟨m,g1,g2⟩|⟨t,q,ys,w,g1,g2,g3,g4,g5,g6⟩
   ·exact .inl ⟨m,g1,by show Pa.tag _ _ (Pa.take (i+1) _)=Pa.tag _ _ ((Pa.take i _).app _);rw[g2]⟩
   ·exact .inr ⟨t,q,ys,w,g1,g2,g3,by show Pa.tag _ _ (Pa.take (i+1) _)=Pa.tag _ _ ((Pa.take i _).app _);rw[g4],by simp only[Pa.dep];lia,by simp only[Pa.sz];lia⟩
theorem RepP.take_all{H:Hp}:∀{xs:List V}{p:Pa},RepP H xs p->p.take xs.length=p
 | _,_,.nil=>rfl
 | _,_,.kids _ h=>by show Pa.kids _ (Pa.take _ _)=_;rw[h.take_all]
 | _,_,.tag _ _ _ h=>by show Pa.tag _ _ (Pa.take _ _)=_;rw[h.take_all]
theorem Pa.take_sz:∀(i:Nat)(p:Pa),(p.take i).sz<=p.sz
 | 0,_=>Nat.zero_le _
 | _+1,.nil=>Nat.le_refl _
 | i+1,.kids m o=>by have:=Pa.take_sz i o;simp only[Pa.take,Pa.sz];lia
 | i+1,.tag t w o=>by have:=Pa.take_sz i o;simp only[Pa.take,Pa.sz];lia
def WdV(H:Hp)(z:V)(x:Str ⊕ Int):Prop:=match x with | .inl s=>z=.str s | .inr m=>∃a,z=.ref a/\H a=some (.tup [.str "kids",.int m])
def WdL(H:Hp)(zs:List V)(xs:List (Str ⊕ Int)):Prop:=Paired (WdV H) zs xs
theorem WdV.tk{H H':Hp}(k:TK H H'){z:V}{x:Str ⊕ Int}(h:WdV H z x):WdV H' z x:=by
 cases x with
 | inl s=>exact h
 | inr m =>
  obtain⟨a,e,h⟩:=h;exact⟨a,e,k _ _ h⟩
theorem WdL.tk{H H':Hp}(k:TK H H'):∀{zs:List V}{xs:List (Str ⊕ Int)},WdL H zs xs->WdL H' zs xs
 | _,_,.nil=>.nil
 | _,_,.cons r t=>.cons (r.tk k) (WdL.tk k t)
theorem WdL.app{H:Hp}{zs zs':List V}{xs xs':List (Str ⊕ Int)}(h:WdL H zs xs)(h':WdL H zs' xs'):WdL H (zs++zs') (xs++xs'):=Paired.app h h'
theorem WdL.strs{H:Hp}:∀(ts:List Str),WdL H (ts.map V.str) (ts.map Sum.inl)
 | []=>.nil
 | t::ts=>.cons rfl (WdL.strs ts)
theorem WdL.to{H:Hp}:∀{zs:List V}{ts:List Str},WdL H zs (ts.map Sum.inl)->zs=ts.map V.str
 | _,[],h=>by cases h;rfl
 | _,t::ts,h=>by
  cases h with
  | cons r t =>
   have e:_=V.str _:=r;rw[e,WdL.to t];rfl
def Zfe:List (Str ⊕ Int)->List Str×Option Int×List Str
 | []=>([],none,[])
 | .inl s::r=>(s::(Zfe r).1,(Zfe r).2)
 | .inr m::r=>([],some m,r.filterMap Sum.getLeft?)
theorem Zbn:∀p:Pa,(p.nk=0->∃ts:List Str,p.spl=ts.map Sum.inl/\p.ks=[])/\(p.nk=1->∃(a b:List Str)(m:Int),p.spl=a.map Sum.inl ++ .inr m::b.map Sum.inl/\p.ks=[m])
 | .nil=>⟨fun _=>⟨[],rfl,rfl⟩,fun h=>by simp[Pa.nk] at h⟩
 | .kids m o=>by
  refine⟨fun h=>by simp[Pa.nk] at h,fun h=>?_⟩;obtain⟨ts,e1,e2⟩:=(Zbn o).1 (by simp only[Pa.nk] at h;lia);exact⟨[],ts,m,by simp[Pa.spl,e1],by simp[Pa.ks,e2]⟩
 | .tag t w o=>by
  refine⟨fun h=>?_,fun h=>?_⟩
  ·simp only[Pa.nk] at h;obtain⟨ts,e1,e2⟩:=(Zbn w).1 (by lia);obtain⟨us,e3,e4⟩:=(Zbn o).1 (by lia);exact⟨t::(ts++SL::us),by simp[Pa.spl,e1,e3],by simp[Pa.ks,e2,e4]⟩
  ·simp only[Pa.nk] at h;by_cases c:w.nk=0
   ·obtain⟨ts,e1,e2⟩:=(Zbn w).1 c;obtain⟨a,b,m,e3,e4⟩:=(Zbn o).2 (by lia);exact⟨t::(ts++SL::a),b,m,by simp[Pa.spl,e1,e3],by simp[Pa.ks,e2,e4]⟩
   ·obtain⟨a,b,m,e1,e2⟩:=(Zbn w).2 (by lia);obtain⟨us,e3,e4⟩:=(Zbn o).1 (by lia);exact⟨t::a,b++SL::us,m,by simp[Pa.spl,e1,e3],by simp[Pa.ks,e2,e4]⟩
theorem ZeQ(ts:List Str):Zfe (ts.map Sum.inl)=(ts,none,[]):=by
 induction ts with
 | nil=>rfl
 | cons t ts ih=>rw[List.map_cons,Zfe,ih]
theorem Zfl(a b:List Str)(m:Int):Zfe (a.map Sum.inl ++ .inr m::b.map Sum.inl)=(a,some m,b):=by
 induction a with
 | nil =>
  show([],some m,(b.map Sum.inl).filterMap Sum.getLeft?)=_;have:(b.map Sum.inl:List (Str ⊕ Int)).filterMap Sum.getLeft?= b:=by
   induction b with
   | nil=>rfl
   | cons x b ih =>
    rw[List.map_cons,List.filterMap_cons];show x::_=_;rw[ih]
  rw[this]
 | cons t ts ih=>rw[List.map_cons,List.cons_append,Zfe,ih]
abbrev Kn:=Int->Str->Option Pa
def rlS(kn:Kn)(m:Option Int)(t:Str):List Str×Option Int×List Str:=match m with
 | none=>([],none,[])
 | some m=>match kn m t with
  | none=>([t],some m,[SL])
  | some p=>Zfe p.spl
abbrev Bg:=List (Option Int×List Str)
def ZcT(bs:Bg):Option Int:=match bs.getLast? with|none=>some 0|some b=>b.1
def Zbg(kn:Kn)(bs:Bg)(w:Str):List Str×Bg:=if w=SL then(match bs.getLast? with|none=>([],[])|some b=>(b.2,bs.dropLast)) else((rlS kn (ZcT bs) w).1,bs ++ [(rlS kn (ZcT bs) w).2])
def ZfZ(bs:Bg):List Str:=(bs.reverse.map (·.2)).flatten
def KnR(H:Hp)(m:List (List Key×V))(kn:Kn):Prop := ∀(i:Int)(t:Str),(Zbe m [Sum.inl i,Sum.inr t]=none/\kn i t=none)\/∃q ys p,Zbe m [Sum.inl i,Sum.inr t]=some (.ref q)/\H q=some (.tup ys)/\RepP H ys p/\kn i t=some p
theorem KnR.tk{H H':Hp}{m:List (List Key×V)}{kn:Kn}(h:KnR H m kn)(k:TK H H'):KnR H' m kn:=fun i t=>by
 rcases h i t with h|⟨q,ys,p,h1,h2,h3,h4⟩
 ·exact .inl h
 ·exact .inr ⟨q,ys,p,h1,k _ _ h2,h3.mono k,h4⟩
structure KnOk(kn:Kn):Prop where
 one:∀i t p,kn i t=some p->p.nk<=1
 sz:∀i t p,kn i t=some p->p.sz<=20
 ok:∀i t p,kn i t=some p->∀x∈p.tags,PyData.strOk x=true
def moV(m:Option Int):V:=match m with|none=>.non|some i=>.int i
def BgV(H:Hp)(z:V)(l:Addr)(b:Option Int×List Str):Prop := ∃a,z=.ref a/\H a=some (.tup [moV b.1,.ref l])/\H l=some (.lst (b.2.map V.str))
inductive BgL(H:Hp):List V->List Addr->Bg->Prop
 | nil:BgL H [] [] []
 | cons {z:V} {l:Addr} {b:Option Int×List Str} {zs:List V} {ls:List Addr} {bs:Bg}:BgV H z l b->BgL H zs ls bs->BgL H (z::zs) (l::ls) (b::bs)
theorem BgL.keep{H H':Hp}:∀{zs:List V}{ls:List Addr}{bs:Bg},BgL H zs ls bs->TK H H'->(∀l∈ls,∀o,H l=some o->H' l=some o)->BgL H' zs ls bs
 | _,_,_,.nil,_,_=>.nil
 | _,_,_,.cons ⟨a,e1,e2,e3⟩ t,k,kl=>.cons ⟨a,e1,k _ _ e2,kl _ (List.mem_cons_self ..) _ e3⟩ (t.keep k fun l hl=>kl l (List.mem_cons_of_mem _ hl))
theorem BgL.snoc{H:Hp}{z:V}{l:Addr}{b:Option Int×List Str}(h:BgV H z l b):∀{zs:List V}{ls:List Addr}{bs:Bg},BgL H zs ls bs->BgL H (zs ++ [z]) (ls ++ [l]) (bs ++ [b])
 | _,_,_,.nil=>.cons h .nil
 | _,_,_,.cons r t=>.cons r (t.snoc h)
theorem BgL.len{H:Hp}:∀{zs:List V}{ls:List Addr}{bs:Bg},BgL H zs ls bs->zs.length=bs.length/\ls.length=bs.length
 | _,_,_,.nil=>⟨rfl,rfl⟩
 | _,_,_,.cons _ t=>by simp[t.len.1,t.len.2]
theorem BgL.unsnoc{H:Hp}:∀{zs:List V}{ls:List Addr}{bs:Bg}{b:Option Int×List Str},BgL H zs ls (bs ++ [b])->∃zs' z ls' l,zs=zs' ++ [z]/\ls=ls' ++ [l]/\BgL H zs' ls' bs/\BgV H z l b
 | _,_,[],_,h=>by
  cases h with
  | cons r t =>
   cases t;exact⟨[],_,[],_,rfl,rfl,.nil,r⟩
 | _,_,c::bs,_,h=>by
  cases h with
  | cons r t =>
   obtain⟨zs',z,ls',l,rfl,rfl,h1,h2⟩:=t.unsnoc;exact⟨_::zs',z,_::ls',l,rfl,rfl,.cons r h1,h2⟩
structure StC(K:PySem.W.Frag)(C:Addr):Prop where
 cls:Cls K C
 n1:ZaO K C "known"
 n2:ZaO K C "taken"
 n3:ZaO K C "begun"
def stF(dk B:Addr)(n:Int):List (Str×V):=[("known",.ref dk),("taken",.int n),("begun",.ref B)]
structure StAt(C:Addr)(H:Hp)(a dk B:Addr)(ls:List Addr)(kn:Kn)(bs:Bg)(n:Int):Prop where
 ok:KnOk kn
 ho:∃dx,H a=some (.ins C dx (stF dk B n))
 hk:∃m,H dk=some (.dT m)/\KnR H m kn
 hb:∃zs,H B=some (.lst zs)/\BgL H zs ls bs
 nd:(B::ls).Nodup
 so:∀b∈bs,∀x∈b.2,PyData.strOk x=true
theorem StAt.keep{C:Addr}{H H':Hp}{a dk B:Addr}{ls:List Addr}{kn:Kn}{bs:Bg}{n:Int}{ex:List Addr}(h:StAt C H a dk B ls kn bs n)(k:Zv ex H H')(hx:∀b∈ex,∀xs,H b≠some (.tup xs))(ha:a∉ex)(hd:dk∉ex)(hB:B∉ex)(hl:∀l∈ls,l∉ex):StAt C H' a dk B ls kn bs n:=by
 have tk:TK H H':=fun b xs e=>k b _ (fun z=>hx b z xs e) e;obtain⟨dx,h1⟩:=h.ho;obtain⟨m,h2,h3⟩:=h.hk;obtain⟨zs,h4,h5⟩:=h.hb;exact⟨h.ok,⟨dx,k _ _ ha h1⟩,⟨m,k _ _ hd h2,h3.tk tk⟩,⟨zs,k _ _ hB h4,h5.keep tk fun l hl' o e=>k _ _ (hl l hl') e⟩,h.nd,h.so⟩
theorem StAt.same{C:Addr}{H H':Hp}{a dk B:Addr}{ls:List Addr}{kn:Kn}{bs:Bg}{n:Int}(h:StAt C H a dk B ls kn bs n)(s:Zk H H'):StAt C H' a dk B ls kn bs n :=
 h.keep (ex:=[]) (fun b o _ e=>s b o e) (fun _ hb=>nomatch hb) (fun z=>nomatch z) (fun z=>nomatch z) (fun z=>nomatch z) (fun _ _ z=>nomatch z)
theorem StAt.opened{C:Addr}{H:Hp}{a dk Bl t l:Addr}{ls:List Addr}{kn:Kn}{bs:Bg}{n:Int}{zs:List V}{b:Option Int×List Str}(h:StAt C H a dk Bl ls kn bs n)(hB:H Bl=some (.lst zs))(ht:H t=some (.tup [moV b.1,.ref l]))(hl:H l=some (.lst (b.2.map V.str)))(hn:l∉Bl::ls)(hs:∀x∈b.2,PyData.strOk x=true):StAt C (upd H Bl (.lst (zs ++ [.ref t]))) a dk Bl (ls ++ [l]) kn (bs ++ [b]) n:=by
 obtain⟨dx,h1⟩:=h.ho;obtain⟨m,h2,h3⟩:=h.hk;obtain⟨zs',h4,h5⟩:=h.hb;rw[hB] at h4;injection h4 with h4;injection h4 with h4;subst h4;obtain⟨n1,n2⟩:=List.nodup_cons.mp h.nd;have nl:l≠Bl:=fun z=>hn (by rw[z];exact List.mem_cons_self ..);have tk:TK H (upd H Bl (.lst (zs ++ [.ref t]))):=TK.lst hB;refine⟨h.ok,⟨dx,by rw[Zd (ZfT h1 hB (by intro z;cases z))];exact h1⟩,⟨m,by rw[Zd (ZfT h2 hB (by intro z;cases z))];exact h2,h3.tk tk⟩,⟨_,Zb,(h5.keep tk fun l' hl' o e=>?_).snoc ⟨t,rfl,tk _ _ ht,by rw[Zd nl];exact hl⟩⟩,?_,fun c hc=>?_⟩
 ·rw[Zd (fun z=>n1 (by rw[<- z];exact hl'))];exact e
 ·refine List.nodup_cons.mpr ⟨fun z=>?_,List.nodup_append.mpr ⟨n2,by simp,fun x hx y hy e=>?_⟩⟩
  ·rcases List.mem_append.mp z with z|z
   ·exact n1 z
   ·exact nl (List.mem_singleton.mp z).symm
  ·rw[List.mem_singleton.mp hy] at e;exact hn (List.mem_cons_of_mem _ (e ▸ hx))
 ·rcases List.mem_append.mp hc with hc|hc
  ·exact h.so c hc
  ·rw[List.mem_singleton.mp hc];exact hs
theorem BgL.live{H:Hp}:∀{zs:List V}{ls:List Addr}{bs:Bg},BgL H zs ls bs->∀l∈ls,∃xs,H l=some (.lst xs)
 | _,_,_,.cons ⟨_,_,_,e⟩ t,l,hl=>by
  rcases List.mem_cons.mp hl with rfl|hl
  ·exact⟨_,e⟩
  ·exact BgL.live t l hl
theorem StAt.live{C:Addr}{H:Hp}{a dk Bl:Addr}{ls:List Addr}{kn:Kn}{bs:Bg}{n:Int}(h:StAt C H a dk Bl ls kn bs n):∀b∈Bl::ls,∃xs,H b=some (.lst xs):=by
 obtain⟨zs,h4,h5⟩:=h.hb;intro b hb;rcases List.mem_cons.mp hb with rfl|hb
 ·exact⟨_,h4⟩
 ·exact h5.live b hb
theorem StAt.free{C:Addr}{H:Hp}{a dk Bl l:Addr}{ls:List Addr}{kn:Kn}{bs:Bg}{n:Int}(h:StAt C H a dk Bl ls kn bs n)(hl:H l=none):l∉Bl::ls:=fun z=>by
 obtain⟨xs,e⟩:=h.live l z;rw[hl] at e;cases e
theorem Zji(m:Int):(PyData.tuple [PyData.str "kids",PyData.int m]).canLay0=true:=by
 have h:PyData.strOk "kids" = true:=by decide +kernel
 show(PyData.strOk "kids" && _)=true;rw[h];rfl
theorem Zha{z:Str}(h:ZdQ z)(h8:z.length<=8):Zk6 z=true:=by
 have h1:1<=z.length:=by
  have:0<z.cps.toList.length:=List.length_pos_iff.mpr h.1;rw[Array.length_toList] at this;exact this
 unfold Zk6;rw[decide_eq_true h1,decide_eq_true h8,Bool.true_and,Bool.true_and,List.all_eq_true];intro c hc;have:=h.2 c hc;unfold azB;simp;lia
end Fg
namespace L2
open PySem PySem.Spec PyProof.Rows PySem.W Srd
section
variable{X:Cx}
theorem ZdP(hc:X.calm=true):Zb3 X (.builtin "sorted") (fun xs H Q=>∃(d:Addr)(kvs:List (List Key×V))(qs:List Qd),xs=[.ref d]/\H d=some (.dT kvs)/\kvs.length<=90000/\kvs.map (·.1)=qs.map kOf/\∀(r:Addr)(zs:List V)(ms:List Qd),H r=none->ms.Pairwise (fun a b=>qLt b a=false)->ms.Perm qs->QL H zs ms->Q (.ref r) (upd H r (.lst zs))):=by
 intro pins s σ H xs us Q I r h;obtain⟨d,kvs,qs,rfl,hd,hlen,hkn,q⟩:=h;obtain⟨u,rfl,rx⟩:=vals1 r;obtain rfl:u=.ref d:=rx;obtain⟨z,lo,xs,rel,o,es,ep,ho,hx,hdat,hes,hnd⟩:=(show Zaz X.prog X.w H s.heap d (.dT kvs) from I.hok d _ hd);obtain⟨ys,rv,kl⟩:=Zko rel;rw[hkn] at kl;have pl:=kl.quads;have hek:es.toList.map (·.key)=xs.map fun x=>Value.ref x.2.1:=by
  rw[hes,List.map_map];rfl
 have hxl:kvs.length=xs.length:=rel.length;have hel:es.size=xs.length:=by rw[<- Array.length_toList,hes,List.length_map]
 refine ZbF (lv:=fun u v=>qLt (kq s.heap u) (kq s.heap v)) (C:=fun ys=>ys=xs.map fun x=>Value.ref x.2.1) (ZhM.swo (kq s.heap)) (fun Q' E' hq=>?_) (fun ys' h6 tk6 d6 hC k6 h2l=>?_) fun pa ys' out h3 tk3 d3 c hC hperm hso k3 e3 hle hos=>?_
 ·refine ZbD (Zen lo) (I.ok.hd hc) (⟨o,ho,hx,hdat⟩:ZgB s.heap d es ep) (by rw[sizeLine_eq];lia) fun acc h' tk kp hit hle=>?_;have hacc:=Zg3 hit;rw[hacc,hek];exact hq _ h' tk s.drawn kp rfl (by rw[List.length_map];lia) hle
 ·subst hC;refine Ze9 (h0:=s.heap) (fun v hv=>?_) k6 h2l;obtain⟨y,hy,ry⟩:=Zbd rv v hv;obtain⟨t,q1,_,rfl,e2⟩:=pl.mem y hy;obtain rfl:v=Value.ref t:=ry;exact⟨q1,ZhR I.hok e2⟩
 ·subst hC;obtain⟨zs,rz,hzq⟩:=ZjH I.hok rv pl out.toList fun u hu=>hperm.mem_iff.mp hu;have hzl:zs.length=out.size:=rz.length.trans (Array.length_toList ..);have hol:out.size=xs.length:=by
   have:=hperm.length_eq;rw[Array.length_toList,List.length_map] at this;exact this
  have I2:=I.laid (h':=h3) (t':=tk3) (a:=pa) (o:=.lst zs) (fun b o e=>k3 b o e) hle (show Zaz X.prog X.w _ h3 _ (.lst zs) from⟨by rw[sizeLine_eq];lia,out.toList,c,rz,e3⟩);refine⟨.ref pa,_,I2.draws (d:=d3),rfl,q pa zs _ (I.hok.fresh hle) (List.pairwise_map.mpr hso) ?_ hzq⟩;rw[<- ZjJ I.hok rv pl];exact hperm.map _
end
end L2
namespace K95
open PySem L2 FgM Fg
def top(i:Nat):Stmt:=PySem.Challenge.pw_formgrove_k95_a_pipe_is_its_parts.main.body.getD i (.Pass ⟨0,0,0,0⟩)
abbrev ZbS:Stmt:=top 7
abbrev ZaG:Stmt:=top 9
abbrev Z1:Stmt:=inClass (top 11) 0
abbrev ZP:Stmt:=inClass (top 11) 1
abbrev ZaJ:Stmt:=inClass (top 11) 2
abbrev ZW:Stmt:=inClass (top 11) 3
abbrev ZZ:Stmt:=inClass (top 11) 4
abbrev Zap:Stmt:=inClass (top 11) 5
abbrev Z8:Stmt:=inClass (top 11) 7
abbrev Za3:Stmt:=top 13
abbrev Zai:Stmt:=top 14
abbrev ZaM:Stmt:=top 15
abbrev Zbk:Stmt:=top 17
abbrev Zbz:Stmt:=top 18
abbrev Zam:Stmt:=top 19
abbrev Zag:Stmt:=inClass (top 20) 0
abbrev ZaI:Stmt:=inClass (top 20) 1
abbrev ZK:Stmt:=inClass (top 20) 2
abbrev ZD:Stmt:=inClass (top 22) 0
abbrev Zah:Stmt:=inClass (top 22) 1
abbrev Za2:Stmt:=inClass (top 22) 2
abbrev ZaK:Stmt:=inClass (top 22) 3
abbrev Zan:Stmt:=inClass (top 22) 4
abbrev ZbV:Stmt:=top 24
abbrev ZbW:Stmt:=top 25
abbrev Zal:Stmt:=top 26
abbrev ZS:Stmt:=top 27
abbrev Zy:Stmt:=top 28
abbrev ZX:Stmt:=top 29
abbrev ZbY:Stmt:=top 30
abbrev ZaD:Stmt:=top 31
abbrev Zbi:Stmt:=top 32
abbrev Zbj:Stmt:=top 33
abbrev Z0:Stmt:=top 34
abbrev ZaV:Stmt:=top 35
theorem Zh3:FnScope ["text"] ["text"] (Zh ZbS):=⟨rfl,rfl,rfl,by decide +kernel,rfl,by decide +kernel,by decide +kernel⟩
theorem Zad:FnScope ["form","found","grown","kind","tag","inner","rest"] ["form"] (Zh ZaG):=⟨rfl,rfl,rfl,by decide +kernel,rfl,by decide +kernel,by decide +kernel⟩
theorem Z6:FnScope ["self","form","alive","kind","tag","inner","rest"] ["self","form"] (Zh Z1):=⟨rfl,rfl,rfl,by decide +kernel,rfl,by decide +kernel,by decide +kernel⟩
theorem Zcb:FnScope ["self","kind","tag"] ["self","kind","tag"] (Zh ZP):=⟨rfl,rfl,rfl,by decide +kernel,rfl,by decide +kernel,by decide +kernel⟩
theorem ZdV:FnScope ["self","word"] ["self","word"] (Zh ZaJ):=⟨rfl,rfl,rfl,by decide +kernel,rfl,by decide +kernel,by decide +kernel⟩
theorem Z9:FnScope ["self","tag","begins","begin","now","inner","rest"] ["self","tag"] (Zh ZW):=⟨rfl,rfl,rfl,by decide +kernel,rfl,by decide +kernel,by decide +kernel⟩
theorem ZG:FnScope ["self","ended","tag","pairs","begin","now","inner","rest"] ["self"] (Zh ZZ):=⟨rfl,rfl,rfl,by decide +kernel,rfl,by decide +kernel,by decide +kernel⟩
theorem ZdD:FnScope ["self"] ["self"] (Zh Zap):=⟨rfl,rfl,rfl,by decide +kernel,rfl,by decide +kernel,by decide +kernel⟩
theorem Zce:FnScope ["self"] ["self"] (Zh Z8):=⟨rfl,rfl,rfl,by decide +kernel,rfl,by decide +kernel,by decide +kernel⟩
theorem ZbL:FnScope ["parts","found","part"] ["parts"] (Zh Za3):=⟨rfl,rfl,rfl,by decide +kernel,rfl,by decide +kernel,by decide +kernel⟩
theorem ZcZ:FnScope ["changer"] ["changer"] (Zh Zai):=⟨rfl,rfl,rfl,by decide +kernel,rfl,by decide +kernel,by decide +kernel⟩
theorem ZeW:FnScope ["known","mode","tag"] ["known","mode","tag"] (Zh ZaM):=⟨rfl,rfl,rfl,by decide +kernel,rfl,by decide +kernel,by decide +kernel⟩
theorem Zf9:FnScope ["changer"] ["changer"] (Zh Zbk):=⟨rfl,rfl,rfl,by decide +kernel,rfl,by decide +kernel,by decide +kernel⟩
theorem Zg1:FnScope ["parts"] ["parts"] (Zh Zbz):=⟨rfl,rfl,rfl,by decide +kernel,rfl,by decide +kernel,by decide +kernel⟩
theorem Za4:FnScope ["parts","words","part"] ["parts"] (Zh Zam):=⟨rfl,rfl,rfl,by decide +kernel,rfl,by decide +kernel,by decide +kernel⟩
theorem Zco:FnScope ["self","changer"] ["self","changer"] (Zh Zag):=⟨rfl,rfl,rfl,by decide +kernel,rfl,by decide +kernel,by decide +kernel⟩
theorem ZdT:FnScope ["self","word"] ["self","word"] (Zh ZaI):=⟨rfl,rfl,rfl,by decide +kernel,rfl,by decide +kernel,by decide +kernel⟩
theorem Zac:FnScope ["self","mode","tag","parts","words","kids","at"] ["self","mode","tag"] (Zh ZK):=⟨rfl,rfl,rfl,by decide +kernel,rfl,by decide +kernel,by decide +kernel⟩
theorem ZcW:FnScope ["self","changer","before","behind"] ["self","changer","before","behind"] (Zh ZD):=⟨rfl,rfl,rfl,by decide +kernel,rfl,by decide +kernel,by decide +kernel⟩
theorem ZcR:FnScope ["self","word","come"] ["self","word"] (Zh Zah):=⟨rfl,rfl,rfl,by decide +kernel,rfl,by decide +kernel,by decide +kernel⟩
theorem Ze5:FnScope ["self"] ["self"] (Zh Za2):=⟨rfl,rfl,rfl,by decide +kernel,rfl,by decide +kernel,by decide +kernel⟩
theorem ZdM:FnScope ["self"] ["self"] (Zh ZaK):=⟨rfl,rfl,rfl,by decide +kernel,rfl,by decide +kernel,by decide +kernel⟩
theorem ZcD:FnScope ["self"] ["self"] (Zh Zan):=⟨rfl,rfl,rfl,by decide +kernel,rfl,by decide +kernel,by decide +kernel⟩
theorem ZdK:FnScope ["_law_script","_law_k","_law_number_here"] ["_law_script","_law_k"] (Zh ZbV):=⟨rfl,rfl,rfl,by decide +kernel,rfl,by decide +kernel,by decide +kernel⟩
theorem Zia:FnScope ["_law_cell_here","_law_prime","_law_many"] ["_law_cell_here","_law_prime","_law_many"] (Zh ZbW):=⟨rfl,rfl,rfl,by decide +kernel,rfl,by decide +kernel,by decide +kernel⟩
theorem Za9:FnScope ["_law_cell_here","_law_letters","_law_base","_law_tags_here","_law_k","_law_other","_law_at","_law_place"] ["_law_cell_here"] (Zh Zal):=⟨rfl,rfl,rfl,by decide +kernel,rfl,by decide +kernel,by decide +kernel⟩
theorem ZaC:FnScope ["_law_script","_law_at","_law_tags_here","_law_many","_law_some","_law_finals","_law_starts","_law_rules","_law_k","_law_cell_here","_law_tag"] ["_law_script","_law_at","_law_tags_here"] (Zh ZS):=⟨rfl,rfl,rfl,by decide +kernel,rfl,by decide +kernel,by decide +kernel⟩
theorem Zav:FnScope ["_law_cell_here","_law_tags_here","_law_modes","_law_rows","_law_opened","_law_kids","_law_rest","_law_k","_law_turn","_law_inner"] ["_law_cell_here","_law_tags_here","_law_modes"] (Zh Zy):=⟨rfl,rfl,rfl,by decide +kernel,rfl,by decide +kernel,by decide +kernel⟩
theorem Za8:FnScope ["_law_script","_law_tags_here","_law_modes","_law_made","_law_k","_law_cell_here"] ["_law_script","_law_tags_here"] (Zh ZX):=⟨rfl,rfl,rfl,by decide +kernel,rfl,by decide +kernel,by decide +kernel⟩
theorem Zib:FnScope ["_law_cell_here","_law_tags_here"] ["_law_cell_here","_law_tags_here"] (Zh ZbY):=⟨rfl,rfl,rfl,by decide +kernel,rfl,by decide +kernel,by decide +kernel⟩
theorem Zcc:FnScope ["_law_far","_law_words","_law_broke","_law_came","_law_word_here"] ["_law_far","_law_words","_law_broke","_law_came"] (Zh ZaD):=⟨rfl,rfl,rfl,by decide +kernel,rfl,by decide +kernel,by decide +kernel⟩
theorem ZfU:FnScope ["_law_told","_law_due"] ["_law_told","_law_due"] (Zh Zbi):=⟨rfl,rfl,rfl,by decide +kernel,rfl,by decide +kernel,by decide +kernel⟩
theorem Zgc:FnScope ["_law_told","_law_due"] ["_law_told","_law_due"] (Zh Zbj):=⟨rfl,rfl,rfl,by decide +kernel,rfl,by decide +kernel,by decide +kernel⟩
theorem ZbG:FnScope ["_law_pipe","_law_came","_law_broke","_law_due","_law_order","_law_k","_law_way","_law_told"] ["_law_pipe","_law_came","_law_broke","_law_due","_law_order"] (Zh Z0):=⟨rfl,rfl,rfl,by decide +kernel,rfl,by decide +kernel,by decide +kernel⟩
theorem ZaY:FnScope ["_law_script","_law_tags_here","_law_recipe","_law_one","_law_other","_law_pipe","_law_near","_law_stream","_law_far","_law_came","_law_broke","_law_k","_law_cell_here","_law_word_here","_law_taken","_law_told","_law_due"] ["_law_script"] (Zh ZaV):=⟨rfl,rfl,rfl,by decide +kernel,rfl,by decide +kernel,by decide +kernel⟩
abbrev ZbJ:List Str:=["all","bool","dict","int","isinstance","len","list","range","sorted","tuple"]
section
variable{P:Program}{w:World}{K:PySem.W.Frag}{mg:Str->Option Value}{base:Heap}{f:Addr}{fd:FuncData}
theorem Zic(B:∀x∈ZbJ,mg x=none)(Cc:∃t:Tok,mg "LONGEST_TAG" = some (.int 8 t)) (F:Fun K "is_tag" "is_tag" ZbS f fd):FnOk P w K mg base CX0 1 f fd ["text"] ZfW:=by
 refine F.ok Zh3 (fun vs H Q E h=>?_) (fun cdv A outer s H vs Q E hr h=>?_)
 ·obtain⟨z,rfl,_⟩:=h;rfl
 obtain⟨z,rfl,hz,q⟩:=h;obtain⟨t8,c_LONGEST_TAG⟩:=Cc;unfold Zk6 at q;refine⟨_,(Zj (ZC (ZcS (Zjl Zkx Zkx Zg (ZF Zfm rfl (B "len" (by decide)) PySem.boot_len (Za (pv 0) Zf)) (Zj7 (v:=.int 8) rfl c_LONGEST_TAG ⟨_,rfl⟩)) (Zd9 (ZF (Zgl rfl) rfl (B "all" (by decide)) ZjT (Za (Zhg (pv 0) rfl (by decide) (by decide) rfl (by decide) rfl (by decide) (fun _=>rfl)) Zf)))))),?_⟩;refine⟨_,rfl,z,rfl,Zca (by lia),_,_,rfl,rfl,_,rfl,?_⟩;refine ZbX (fun c=>?_) (fun c=>?_)
 ·have c1:1<=z.length:=by
   have:=of_decide_eq_true c;lia
  rw[decide_eq_true c1,Bool.true_and] at q;refine⟨_,_,rfl,rfl,_,rfl,?_⟩;refine ZbX (fun c=>?_) (fun c=>?_)
  ·have c2:z.length<=8:=by
    have:=of_decide_eq_true c;lia
   rw[decide_eq_true c2,Bool.true_and] at q;refine⟨_,rfl,z,rfl,Zca (by lia),fun p hp=>⟨p,z.cps.toList.map azB,rfl,SqL.of ?_,?_⟩⟩
   ·rw[Zb,List.map_map];rfl
   ·have e:(z.cps.toList.map azB).all id=z.cps.toList.all azB:=by
     rw[List.all_map];rfl
    rw[e];exact q _ (Zk.new hp)
  ·have c2 : ¬ z.length<=8:=fun h=>c (decide_eq_true (by show((z.length:Nat):Int)<=8;lia));rw[decide_eq_false c2,Bool.false_and] at q;exact q H (Zk.refl H)
 ·have c1 : ¬ 1<=z.length:=fun h=>c (decide_eq_true (by show(1:Int)<=((z.length:Nat):Int);lia));rw[decide_eq_false c1,Bool.false_and,Bool.false_and] at q;exact⟨_,rfl,Zbu (q H (Zk.refl H))⟩
def PtV(H:Hp)(z:V)(x:Option Int):Prop:=match x with|some m=>∃a,z=.ref a/\H a=some (.tup [.str "kids",.int m])|none=>∃a t q,z=.ref a/\H a=some (.tup [.str "tag",.str t,.ref q])
def PtL(H:Hp)(zs:List V)(xs:List (Option Int)):Prop:=Paired (PtV H) zs xs
theorem PtL.tk{H H':Hp}(k:TK H H'):∀{zs:List V}{xs:List (Option Int)},PtL H zs xs->PtL H' zs xs
 | _,_,.nil=>.nil
 | _,_,.cons (b:=x) r t=>.cons (by
   cases x with
   | some m=>obtain⟨a,e,h⟩:=r;exact⟨a,e,k _ _ h⟩
   | none=>obtain⟨a,t',q,e,h⟩:=r;exact⟨a,t',q,e,k _ _ h⟩) (PtL.tk k t)
def Zc7:Pa->List (Option Int)
 | .nil=>[]
 | .kids m o=>some m::Zc7 o
 | .tag _ w o=>none::(Zc7 w++Zc7 o)
theorem Zc3:∀p q:Pa,Zc7 (p.app q)=Zc7 p++Zc7 q
 | .nil,q=>rfl
 | .kids m o,q=>by simp[Pa.app,Zc7,Zc3 o q]
 | .tag t w o,q=>by simp[Pa.app,Zc7,Zc3 o q]
theorem Zeg:∀p:Pa,(Zc7 p).filterMap id=p.ks
 | .nil=>rfl
 | .kids m o=>by simp[Zc7,Pa.ks,Zeg o]
 | .tag t w o=>by simp[Zc7,Pa.ks,Zeg w,Zeg o]
theorem Zbf:∀p:Pa,(Zc7 p).length=p.sz
 | .nil=>rfl
 | .kids m o=>by simp[Zc7,Pa.sz,Zbf o];lia
 | .tag t w o=>by simp[Zc7,Pa.sz,Zbf w,Zbf o];lia
def Zgq(d:Nat):Sp:=fun vs H Q _=>∃(q:Addr)(ys:List V)(p:Pa),vs=[.ref q]/\H q=some (.tup ys)/\RepP H ys p/\p.dep<d/\p.sz<=1000/\∀(r:Addr)(zs:List V)(H':Hp),Zk H H'->H r=none->H' r=some (.lst zs)->PtL H' zs (Zc7 p)->Q (.ref r) H'
set_option maxHeartbeats 2000000 in
theorem ZeZ(d:Nat)(B:∀x∈ZbJ,mg x=none)(g_all_parts:Has P w K mg base "all_parts" ["parts"] d (Zgq d)) (F:Fun K "all_parts" "all_parts" Za3 f fd):FnOk P w K mg base CX0 (d+1) f fd ["parts"] (Zgq (d+1)):=by
 refine F.ok ZbL (fun vs H Q E h=>?_) (fun cdv A outer s H vs Q E hr h=>?_)
 ·obtain⟨q,ys,p,rfl,_⟩:=h;rfl
 obtain⟨q,ys,p,rfl,hq,hP,hd,hz,qq⟩:=h;have hpl:=hP.length;refine⟨_,(Zc (Zt (i:=1) ZbL.nd rfl (Or.inl rfl) (ZaH Zf))
  (Zc (Zbc PassesOwn.never rfl (Zcg (pv 0)) (Zu (i:=2) ZbL.nd rfl (Or.inl rfl))
   (Zc (Zau (Zbp PySem.F.plainAttrs_list PySem.F.slot_list_append PySem.F.type_list_append ZR (pv 1) (Za (pv 2) Zf)))
    (Zj (ZaL (ZQ Zb2 (Zae ZaX (pv 2) Zg (fun _ _=>rfl)) Za0 (Z2 _))
     (Zj (Zau (Zbp PySem.F.plainAttrs_list PySem.F.slot_list_extend PySem.F.type_list_extend Ze7 (pv 1) (Za (Z4 g_all_parts hr rfl (Za (Zae ZaX (pv 2) Zg (fun _ _=>rfl)) Zf) (by lia)) Zf))))
     ZM))))
  (Zj (ZC (pv 1))))),?_⟩
 refine⟨by decide,fun L hL=>?_⟩;have s0:Zk H (upd H L (.lst [])):=Zk.new hL;refine⟨_,rfl,q,rfl,⟨_,SqT.of (s0 _ _ hq)⟩,Zep (K:=K) (a:=q) (xs:=ys) (fun i σ H1=>∃(v2:Option V)(zs:List V),σ =[some (.ref q),some (.ref L),v2]/\Zk H H1/\H1 L=some (.lst zs)/\PtL H1 zs (Zc7 (p.take i)))
  ⟨none,[],rfl,s0,Zb,.nil⟩ ?_ ?_ ?_⟩
 ·rintro i σ H1 _ ⟨_,_,_,s1,_⟩;exact SqT.of (s1 _ _ hq)
 ·rintro i x σ H1 hx ⟨v2,zs,rfl,s1,hL1,hzs⟩;obtain⟨a,rfl,ha⟩:=hP.at i x hx;have hts:=p.take_sz i;have hzl:zs.length=(p.take i).sz:=(Paired.length hzs).trans (Zbf _);refine⟨_,rfl,.inl ⟨rfl,_,SqL.of hL1⟩,_,rfl,L,_,_,rfl,rfl,hL1,Zn (by lia),?_⟩;have tk:TK H1 (upd H1 L (.lst (zs ++ [.ref a]))):=TK.lst hL1;rcases ha with⟨m,h1,h2⟩|⟨t,q',ys',w',h1,h2,h3,h4,h5,h6⟩
  ·have h1':=tk _ _ (s1 _ _ h1);refine⟨_,rfl,a,_,0,_,rfl,rfl,SqT.of h1',rfl,rfl,_,rfl,Zbu ?_⟩;refine⟨_,_,rfl,s1.upd_new hL,Zb,?_⟩;rw[h2,Zc3];exact Paired.app (hzs.tk tk) (.cons ⟨a,rfl,h1'⟩ .nil)
  ·have h1':=tk _ _ (s1 _ _ h1);refine⟨_,rfl,a,_,0,_,rfl,rfl,SqT.of h1',rfl,rfl,_,rfl,Zci ?_⟩;have s2:Zk H (upd H1 L (.lst (zs ++ [.ref a]))):=s1.upd_new hL;refine⟨_,rfl,.inl ⟨rfl,_,SqL.of Zb⟩,_,rfl,a,_,2,_,rfl,rfl,SqT.of h1',rfl,q',ys',w',rfl,s2 _ _ h2,h3.mono s2.tk,by lia,by lia,fun r zr H3 s3 hr0 hr3 hzr=>?_⟩;have hL3:=s3 _ _ (show(upd H1 L (.lst (zs ++ [.ref a]))) L=some (.lst (zs ++ [.ref a])) from Zb);have hrl:zr.length=w'.sz:=(Paired.length hzr).trans (Zbf _);refine⟨L,r,_,_,rfl,rfl,hL3,hr3,Zca (by rw[List.length_append,List.length_singleton];lia),?_⟩;have tk4:=TK.lst (o:=.lst (zs ++ [.ref a]++zr)) hL3;refine⟨_,_,rfl,(s2.trans s3).upd_new hL,Zb,?_⟩;rw[h4,Zc3];have e:Zc7 (Pa.tag t w' .nil)=none::Zc7 w':=by simp[Zc7]
   rw[e];have k5:PtL (upd H3 L (.lst (zs ++ [.ref a]++zr))) (zs++(.ref a::zr)) (Zc7 (p.take i)++none::Zc7 w'):=Paired.app (((hzs.tk tk).tk s3.tk).tk tk4) (.cons ⟨a,t,q',rfl,tk4 _ _ (s3 _ _ h1')⟩ (hzr.tk tk4));rw[show zs++V.ref a::zr=zs ++ [V.ref a]++zr by simp] at k5;exact k5
 ·rintro σ H1 ⟨v2,zs,rfl,s1,hL1,hzs⟩;rw[hP.take_all] at hzs;exact⟨_,rfl,qq L zs H1 s1 hL hL1 hzs⟩
def KdL(H:Hp)(zs:List V)(ms:List Int):Prop:=Paired (fun z m=>∃a,z=V.ref a/\H a=some (.tup [.str "kids",.int m])) zs ms
theorem KdL.tk{H H':Hp}(k:TK H H'):∀{zs:List V}{xs:List Int},KdL H zs xs->KdL H' zs xs
 | _,_,.nil=>.nil
 | _,_,.cons ⟨a,e,h⟩ t=>.cons ⟨a,e,k _ _ h⟩ (KdL.tk k t)
def Zdb(d:Nat):Sp:=fun vs H Q _=>∃(q:Addr)(ys:List V)(p:Pa),vs=[.ref q]/\H q=some (.tup ys)/\RepP H ys p/\p.dep<d/\p.sz<=1000/\∀(r:Addr)(zs:List V)(H':Hp),Zk H H'->H r=none->H' r=some (.lst zs)->KdL H' zs p.ks->Q (.ref r) H'
theorem PtL.get{H:Hp}:∀{zs:List V}{xs:List (Option Int)},PtL H zs xs->∀(i:Nat) z,zs[i]?= some z->∃x,xs[i]?= some x/\PtV H z x
 | _,_,.cons r t,0,z,hz=>by
  injection hz with hz;subst hz;exact⟨_,rfl,r⟩
 | _,_,.cons r t,i+1,z,hz=>PtL.get t i z hz
set_option maxHeartbeats 2000000 in
theorem Zhe(B:∀x∈ZbJ,mg x=none)(g_all_parts:Has P w K mg base "all_parts" ["parts"] 22 (Zgq 22)) (F:Fun K "kids_in" "kids_in" Zbz f fd):FnOk P w K mg base CX0 23 f fd ["parts"] (Zdb 22):=by
 refine F.ok Zg1 (fun vs H Q E h=>?_) (fun cdv A outer s H vs Q E hr h=>?_)
 ·obtain⟨q,ys,p,rfl,_⟩:=h;rfl
 obtain⟨q,ys,p,rfl,hq,hP,hd,hz,qq⟩:=h;refine⟨_,(Zj (ZC (ZcG (cl:=[]) ["part"] [] (Zbt (Z4 g_all_parts hr rfl (Za (pv 0) Zf))) (fun _ _ _ _=>(Zu (i:=0) nd1 rfl (Or.inl rfl))) (fun _ _ _ _=>(ZQ Zb2 (Zae (Zf2 (K:=K) rfl) (pv 0) Zg (fun _ _=>rfl)) Za0 (Z2 _))) (fun _ _ _ _=>(pv 0)) rfl rfl (by decide) rfl (by decide) (fun _ _ h=>nomatch h) (ZcP (by decide)) (fun _ _ h=>nomatch h) (fun _=>rfl)))),?_⟩
 refine⟨_,rfl,q,ys,p,rfl,hq,hP,hd,hz,fun r zr H1 s1 hr0 hr1 hzr=>?_⟩;have hzl:zr.length=p.sz:=(Paired.length hzr).trans (Zbf _);refine⟨r,rfl,⟨_,SqL.of hr1⟩,fun pc hpc=>Zd2 (K:=K) (a:=r) (p:=pc) (xs:=zr) (fun i us σ H2=>∃(v0:Option V),σ =[v0]/\Zk H1 H2/\H2 pc=some (.lst us)/\KdL H2 us (((Zc7 p).take i).filterMap id))
  ⟨none,rfl,Zk.new hpc,Zb,.nil⟩ ?_ ?_ ?_⟩
 ·rintro i us σ H2 _ ⟨_,_,s2,h,_⟩;exact⟨SqL.of (s2 _ _ hr1),h⟩
 ·rintro i us x σ H2 hi hx ⟨v0,rfl,s2,hp,hus⟩;obtain⟨o,ho,hv⟩:=hzr.get i x hx;have hul:us.length<=i:=by
   rw[Paired.length hus];exact Nat.le_trans (List.length_filterMap_le _ _) (by rw[List.length_take];lia)
  cases o with
  | some m =>
   obtain⟨a,rfl,ha⟩:=hv;refine⟨_,rfl,a,_,0,_,rfl,rfl,SqT.of (s2 _ _ ha),rfl,rfl,_,rfl,Zci ?_⟩;refine⟨_,rfl,hp,Zn (by lia),CW.next hi ⟨_,rfl,s2.upd_new hpc,Zb,?_⟩⟩
   rw[Zz ho,List.filterMap_append];exact Paired.app (hus.tk (TK.lst hp)) (.cons ⟨a,rfl,TK.lst hp _ _ (s2 _ _ ha)⟩ .nil)
  | none =>
   obtain⟨a,t,q',rfl,ha⟩:=hv;refine⟨_,rfl,a,_,0,_,rfl,rfl,SqT.of (s2 _ _ ha),rfl,rfl,_,rfl,Zbu ?_⟩;refine CW.next hi ⟨_,rfl,s2,hp,?_⟩
   rw[Zz ho,List.filterMap_append]
   simpa using hus
 rintro us σ H2 ⟨v0,rfl,s2,hp,hus⟩;rw[hzl,<- Zbf,List.take_length,Zeg] at hus;exact qq pc us H2 (s1.trans s2) (s1.free hpc) hp hus
def RlV(H:Hp)(z:V)(r:Int×Str×Pa):Prop := ∃a q ys,z=.ref a/\H a=some (.tup [.int r.1,.str r.2.1,.ref q])/\H q=some (.tup ys)/\RepP H ys r.2.2
def RlL(H:Hp)(zs:List V)(rs:List (Int×Str×Pa)):Prop:=Paired (RlV H) zs rs
theorem RlL.tk{H H':Hp}(k:TK H H'):∀{zs:List V}{rs:List (Int×Str×Pa)},RlL H zs rs->RlL H' zs rs
 | _,_,.nil=>.nil
 | _,_,.cons ⟨a,q,ys,e,h1,h2,h3⟩ t=>.cons ⟨a,q,ys,e,k _ _ h1,k _ _ h2,h3.mono k⟩ (RlL.tk k t)
theorem RlL.get{H:Hp}:∀{zs:List V}{xs:List (Int×Str×Pa)},RlL H zs xs->∀(i:Nat) z,zs[i]?= some z->∃x,xs[i]?= some x/\RlV H z x
 | _,_,.cons r t,0,z,hz=>by
  injection hz with hz;subst hz;exact⟨_,rfl,r⟩
 | _,_,.cons r t,i+1,z,hz=>RlL.get t i z hz
def ChR(H:Hp)(c:Addr)(rs:List (Int×Str×Pa)):Prop := ∃n rt zs,H c=some (.tup [.int n,.ref rt])/\H rt=some (.tup zs)/\RlL H zs rs/\rs.length<=100/\∀r∈rs,r.2.2.sz<=20
theorem ChR.tk{H H':Hp}{c:Addr}{rs:List (Int×Str×Pa)}(h:ChR H c rs)(k:TK H H'):ChR H' c rs:=by
 obtain⟨n,rt,zs,h1,h2,h3,h4⟩:=h;exact⟨n,rt,zs,k _ _ h1,k _ _ h2,h3.tk k,h4⟩
def Zcx:Sp:=fun vs H Q _=>∃(c:Addr)(rs:List (Int×Str×Pa)),vs=[.ref c]/\ChR H c rs/\∀H',Zk H H'->Q (.bl (rs.all fun r=>decide (r.2.2.nk<=1))) H'
set_option maxHeartbeats 2000000 in
theorem Zf1(B:∀x∈ZbJ,mg x=none)(g_kids_in:Has P w K mg base "kids_in" ["parts"] 23 (Zdb 22)) (F:Fun K "straight" "straight" Zbk f fd):FnOk P w K mg base CX0 24 f fd ["changer"] Zcx:=by
 refine F.ok Zf9 (fun vs H Q E h=>?_) (fun cdv A outer s H vs Q E hr h=>?_)
 ·obtain⟨c,rs,rfl,_⟩:=h;rfl
 obtain⟨c,rs,rfl,⟨n,rt,zs,h1,h2,h3,h4,h5⟩,qq⟩:=h;have hzl:zs.length=rs.length:=Paired.length h3;refine⟨_,(Zj (ZC (ZF (Zgl rfl) rfl (B "all" (by decide)) ZjT (Za (Zct (cl:=[]) ["mode","tag","parts"] [] (Zcg (Zae ZaX (pv 0) Zg (fun _ _=>rfl))) (fun _ _ _ _=>(Zfz (K:=K) (n:=3) rfl rfl (ZL (Zu (i:=0) (show List.Nodup (["mode","tag","parts"]:List Str) by decide) rfl (Or.inl rfl)) (ZL (Zu (i:=1) (show List.Nodup (["mode","tag","parts"]:List Str) by decide) rfl (Or.inl rfl)) (ZL (Zu (i:=2) (show List.Nodup (["mode","tag","parts"]:List Str) by decide) rfl (Or.inl rfl)) ZbB))))) (fun _ _ _ _=>(ZbK Zkx (ZF (Zem (K:=K) rfl) rfl (B "len" (by decide)) PySem.boot_len (Za (Z4 g_kids_in hr rfl (Za (pv 2) Zf)) Zf)) Zg (Z2 _))) rfl rfl (by decide) rfl (by decide) (fun _ _ h=>nomatch h) (ZcP (by decide)) (fun _ _ h=>nomatch h) (fun _=>rfl)) Zf)))),?_⟩
 refine⟨_,rfl,c,_,1,_,rfl,rfl,SqT.of h1,rfl,rt,rfl,⟨_,SqT.of h2⟩,fun pc hpc=>Zda (K:=K) (a:=rt) (p:=pc) (xs:=zs) (fun i us σ H2=>∃(v0 v1 v2:Option V),σ =[v0,v1,v2]/\Zk H H2/\H2 pc=some (.lst us)/\us=((rs.take i).map fun r=>decide (r.2.2.nk<=1)).map V.bl)
  ⟨none,none,none,rfl,Zk.new hpc,Zb,rfl⟩ ?_ ?_ ?_⟩
 ·rintro i us σ H2 _ ⟨_,_,_,_,s2,h,_⟩;exact⟨SqT.of (s2 _ _ h2),h⟩
 ·rintro i us x σ H2 hi hx ⟨v0,v1,v2,rfl,s2,hp,rfl⟩;obtain⟨r,hr1,a,q,ys,rfl,g1,g2,g3⟩:=h3.get i x hx;have hsz:=h5 r (List.mem_of_getElem? hr1);have hdp:=r.2.2.ZeV;refine⟨a,_,rfl,SqT.of (s2 _ _ g1),rfl,_,_,rfl,_,_,rfl,_,_,rfl,rfl,?_⟩;refine⟨_,rfl,q,ys,r.2.2,rfl,s2 _ _ g2,g3.mono s2.tk,by lia,by lia,fun r' zr H3 s3 hr0 hr3 hk=>?_⟩;have hkl:zr.length=r.2.2.nk:=(Paired.length hk).trans (Pa.Zgj _);refine⟨r',_,rfl,.inl (SqL.of hr3),_,_,rfl,rfl,s3 _ _ hp,Zn (by rw[List.length_map,List.length_map,List.length_take];lia),CW.next hi ⟨_,_,_,rfl,(s2.trans s3).upd_new hpc,Zb,?_⟩⟩
  rw[Zz hr1,List.map_append,List.map_append]
  congr 1
  show [V.bl (decide ((zr.length:Int)<=1))] =[V.bl (decide (r.2.2.nk<=1))]
  congr 2
  rw[decide_eq_decide];lia
 rintro us σ H2 ⟨v0,v1,v2,rfl,s2,hp,rfl⟩;rw[hzl,List.take_length] at hp;refine⟨pc,_,rfl,SqL.of hp,?_⟩;have:=qq H2 s2;rw[show(rs.map fun r=>decide (r.2.2.nk<=1)).all id=rs.all fun r=>decide (r.2.2.nk<=1) by rw[List.all_map];rfl];exact this
def Zet(f:Kn)(r:Int×Str×Pa):Kn:=fun i t=>if i=r.1/\t=r.2.1 then some r.2.2 else f i t
def ZeC(rs:List (Int×Str×Pa)):Kn:=rs.foldl Zet fun _ _=>none
def Zbq(i:Int)(t:Str):List Key:=[Sum.inl i,Sum.inr t]
theorem Zgf{i j:Int}{t u:Str}(h:Zbq i t=Zbq j u):i=j/\t=u:=by
 unfold Zbq at h
 simpa using h
def Zeo:Sp:=fun vs H Q _=>∃(c:Addr)(rs:List (Int×Str×Pa)),vs=[.ref c]/\ChR H c rs/\∀(d:Addr)(m:List (List Key×V))(H':Hp),Zk H H'->H d=none->H' d=some (.dT m)->KnR H' m (ZeC rs)->Q (.ref d) H'
def PkV(H:Hp)(y:V)(kv:List Key×V)(r:Int×Str×Pa):Prop:=(∃t b,y=.ref t/\H t=some (.tup [.ref b,kv.2])/\H b=some (.tup (kv.1.map kV)))/\kv.1=Zbq r.1 r.2.1/\∃q ys,kv.2=.ref q/\H q=some (.tup ys)/\RepP H ys r.2.2
inductive PkL(H:Hp):List V->List (List Key×V)->List (Int×Str×Pa)->Prop
 | nil:PkL H [] [] []
 | cons {y:V} {kv:List Key×V} {r:Int×Str×Pa} {ys:List V} {kvs:List (List Key×V)} {rs:List (Int×Str×Pa)}:PkV H y kv r->PkL H ys kvs rs->PkL H (y::ys) (kv::kvs) (r::rs)
theorem PkL.tk{H H':Hp}(k:TK H H'):∀{ys:List V}{kvs:List (List Key×V)}{rs:List (Int×Str×Pa)},PkL H ys kvs rs->PkL H' ys kvs rs
 | _,_,_,.nil=>.nil
 | _,_,_,.cons ⟨⟨t,b,e1,e2,e3⟩,e4,q,zs,e5,e6,e7⟩ t'=>.cons ⟨⟨t,b,e1,k _ _ e2,k _ _ e3⟩,e4,q,zs,e5,k _ _ e6,e7.mono k⟩ (t'.tk k)
theorem PkL.snoc{H:Hp}{y:V}{kv:List Key×V}{r:Int×Str×Pa}(h:PkV H y kv r):∀{ys:List V}{kvs:List (List Key×V)}{rs:List (Int×Str×Pa)},PkL H ys kvs rs->PkL H (ys ++ [y]) (kvs ++ [kv]) (rs ++ [r])
 | _,_,_,.nil=>.cons h .nil
 | _,_,_,.cons r t=>.cons r (t.snoc h)
theorem PkL.pairs{H:Hp}:∀{ys:List V}{kvs:List (List Key×V)}{rs:List (Int×Str×Pa)},PkL H ys kvs rs->Paired (fun(y:V)(kv:List Key×V)=>∃t b,y=.ref t/\H t=some (.tup [.ref b,kv.2])/\H b=some (.tup (kv.1.map kV))) ys kvs/\ys.length=rs.length
 | _,_,_,.nil=>⟨.nil,rfl⟩
 | _,_,_,.cons r t=>⟨.cons r.1 t.pairs.1,by simp[t.pairs.2]⟩
theorem PkL.kn{H:Hp}:∀{ys:List V}{kvs:List (List Key×V)}{rs:List (Int×Str×Pa)}{m:List (List Key×V)}{f:Kn},PkL H ys kvs rs->KnR H m f->KnR H (kvs.foldl (fun m kv=>putK m kv.1 kv.2) m) (rs.foldl Zet f)
 | _,_,_,_,_,.nil,h=>h
 | _,_,_,m,f,.cons (kv:=kv) (r:=r) ⟨_,e4,q,zs,e5,e6,e7⟩ t,h=>by
  refine t.kn (m:=putK m kv.1 kv.2) (f:=Zet f r) fun i u=>?_;show(Zbe (putK m kv.1 kv.2) (Zbq i u)=none/\Zet f r i u=none)\/∃q ys p,Zbe (putK m kv.1 kv.2) (Zbq i u)=some (.ref q)/\H q=some (.tup ys)/\RepP H ys p/\Zet f r i u=some p;rw[ZeD,e4];unfold Zet;by_cases c:i=r.1/\u=r.2.1
  ·rw[if_pos (by rw[c.1,c.2]),if_pos c];exact .inr ⟨q,zs,r.2.2,by rw[e5],e6,e7,rfl⟩
  ·rw[if_neg (fun z=>c (Zgf (i:=i) (t:=u) z)),if_neg c];exact h i u
set_option maxHeartbeats 2000000 in
theorem ZcV(B:∀x∈ZbJ,mg x=none)(F:Fun K "parts_by_rule" "parts_by_rule" Zai f fd):FnOk P w K mg base CX0 1 f fd ["changer"] Zeo:=by
 refine F.ok ZcZ (fun vs H Q E h=>?_) (fun cdv A outer s H vs Q E hr h=>?_)
 ·obtain⟨c,rs,rfl,_⟩:=h;rfl
 obtain⟨c,rs,rfl,⟨n,rt,zs,h1,h2,h3,h4,h5⟩,qq⟩:=h;have hu2:(A.deeper (PyProof.Rows.envOfC (Str.ofString "parts_by_rule") (Zh Zai) s.heap.objs.size f cdv)).units+2<cLine:=by have:=hr.un;lia
 have hzl:zs.length=rs.length:=Paired.length h3;refine⟨_,(Zj (ZC (Zay (Zdq rfl hu2) rfl (B "dict" (by decide)) Zei (Za (Zct (cl:=[]) ["mode","tag","parts"] [] (Zcg (Zae ZaX (pv 0) Zg (fun _ _=>rfl))) (fun _ _ _ _=>(Zfz (K:=K) (n:=3) rfl rfl (ZL (Zu (i:=0) (show List.Nodup (["mode","tag","parts"]:List Str) by decide) rfl (Or.inl rfl)) (ZL (Zu (i:=1) (show List.Nodup (["mode","tag","parts"]:List Str) by decide) rfl (Or.inl rfl)) (ZL (Zu (i:=2) (show List.Nodup (["mode","tag","parts"]:List Str) by decide) rfl (Or.inl rfl)) ZbB))))) (fun _ _ _ _=>(Zax (Za (Zax (Za (pv 0) (Za (pv 1) Zf))) (Za (pv 2) Zf)))) rfl rfl (by decide) rfl (by decide) (fun _ _ h=>nomatch h) (ZcP (by decide)) (fun _ _ h=>nomatch h) (fun _=>rfl)) Zf)))),?_⟩
 refine⟨_,rfl,c,_,1,_,rfl,rfl,SqT.of h1,rfl,rt,rfl,⟨_,SqT.of h2⟩,fun pc hpc=>Zda (K:=K) (a:=rt) (p:=pc) (xs:=zs) (fun i us σ H2=>∃(v0 v1 v2:Option V)(kvs:List (List Key×V)),σ =[v0,v1,v2]/\Zk H H2/\H2 pc=some (.lst us)/\PkL H2 us kvs (rs.take i))
  ⟨none,none,none,[],rfl,Zk.new hpc,Zb,.nil⟩ ?_ ?_ ?_⟩
 ·rintro i us σ H2 _ ⟨_,_,_,_,_,s2,h,_⟩;exact⟨SqT.of (s2 _ _ h2),h⟩
 ·rintro i us x σ H2 hi hx ⟨v0,v1,v2,kvs,rfl,s2,hp,hpk⟩;obtain⟨r,hr1,a,q,ys,rfl,g1,g2,g3⟩:=h3.get i x hx;have hul:=hpk.pairs.2;rw[List.length_take] at hul;refine⟨a,_,rfl,SqT.of (s2 _ _ g1),rfl,_,_,rfl,_,_,rfl,_,_,rfl,rfl,?_⟩;refine⟨_,rfl,_,rfl,(by show 2<=sizeLine;decide),fun t1 ht1=>⟨_,rfl,(by show 2<=sizeLine;decide),fun t2 ht2=>?_⟩⟩;obtain⟨n21,ht2'⟩:=Zm ht2;have s4:Zk H2 (upd (upd H2 t1 (.tup [.int r.1,.str r.2.1])) t2 (.tup [.ref t1,.ref q])):=(Zk.new ht1).upd_new ht2';refine⟨s4 _ _ hp,Zn (by lia),CW.next hi ⟨_,_,_,kvs ++ [(Zbq r.1 r.2.1,.ref q)],rfl,(s2.trans s4).upd_new hpc,Zb,?_⟩⟩
  rw[Zz hr1];have tk:=s4.tk.trans (TK.lst (o:=.lst (us ++ [.ref t2])) (s4 _ _ hp));have nt2:t2≠pc:=fun z=>by rw[z,hp] at ht2';cases ht2'
  have nt1:t1≠pc:=fun z=>by rw[z,hp] at ht1;cases ht1
  refine(hpk.tk tk).snoc ⟨⟨t2,t1,rfl,?_,?_⟩,rfl,q,ys,rfl,tk _ _ (s2 _ _ g2),(g3.mono s2.tk).mono tk⟩
  ·rw[Zd nt2];exact Zb
  ·rw[Zd nt1,Zd n21.symm,Zb];rfl
 rintro us σ H2 ⟨v0,v1,v2,kvs,rfl,s2,hp,hpk⟩;rw[hzl,List.take_length] at hpk;obtain⟨hpp,hul⟩:=hpk.pairs;refine⟨pc,us,kvs,rfl,SqL.of hp,by lia,hpp,fun d hd=>?_⟩;have s3:Zk H2 (upd H2 d (.dT (putAllT kvs))):=Zk.new hd;refine qq d (putAllT kvs) _ (s2.trans s3) (s2.free hd) Zb ?_;exact(hpk.kn (m:=[]) (f:=fun _ _=>none) (fun i t=>.inl ⟨rfl,rfl⟩)).tk s3.tk
def paD(kn:Kn)(m:Int)(t:Str):Pa:=(kn m t).getD (.tag t (.kids m .nil) .nil)
def ZcF:Sp:=fun vs H Q _=>∃(d:Addr)(m:List (List Key×V))(kn:Kn)(i:Int)(t:Str),vs=[.ref d,.int i,.str t]/\H d=some (.dT m)/\KnR H m kn/\∀(q:Addr)(ys:List V)(H':Hp),Zk H H'->H' q=some (.tup ys)->RepP H' ys (paD kn i t)->Q (.ref q) H'
set_option maxHeartbeats 2000000 in
theorem Ze6(B:∀x∈ZbJ,mg x=none)(F:Fun K "parts_for" "parts_for" ZaM f fd):FnOk P w K mg base CX0 1 f fd ["known","mode","tag"] ZcF:=by
 refine F.ok ZeW (fun vs H Q E h=>?_) (fun cdv A outer s H vs Q E hr h=>?_)
 ·obtain⟨d,m,kn,i,t,rfl,_⟩:=h;rfl
 obtain⟨d,m,kn,i,t,rfl,hd,hkn,qq⟩:=h;have hu1:(A.deeper (PyProof.Rows.envOfC (Str.ofString "parts_for") (Zh ZaM) s.heap.objs.size f cdv)).units+1<cLine:=by have:=hr.un;lia
 refine⟨_,(Zj (ZC (Zex hu1 (pv 0) (Zax (Za (pv 1) (Za (pv 2) Zf))) (Zax (Za (Zax (Za Za0 (Za (pv 2) (Za (Zax (Za (Zax (Za Za0 (Za (pv 1) Zf))) Zf)) Zf)))) Zf)) ⟨rfl,rfl,rfl,rfl⟩))),?_⟩;refine⟨_,rfl,d,rfl,.inr ⟨m,.inl hd⟩,_,rfl,_,rfl,(by show 2<=sizeLine;decide),fun t1 ht1=>?_⟩;refine⟨_,rfl,_,rfl,(by show 2<=sizeLine;decide),fun t2 ht2=>⟨(by show 1<=sizeLine;decide),fun t3 ht3=>⟨(by show 3<=sizeLine;decide),fun t4 ht4=>⟨(by show 1<=sizeLine;decide),fun t5 ht5=>?_⟩⟩⟩⟩;obtain⟨n21,ht2a⟩:=Zm ht2;obtain⟨n32,ht3a⟩:=Zm ht3;obtain⟨n31,ht3b⟩:=Zm ht3a;obtain⟨n43,ht4a⟩:=Zm ht4;obtain⟨n42,ht4b⟩:=Zm ht4a;obtain⟨n41,ht4c⟩:=Zm ht4b;obtain⟨n54,ht5a⟩:=Zm ht5;obtain⟨n53,ht5b⟩:=Zm ht5a;obtain⟨n52,ht5c⟩:=Zm ht5b;obtain⟨n51,ht5d⟩:=Zm ht5c;have s5:Zk H (upd (upd (upd (upd (upd H t1 (.tup [.int i,.str t])) t2 (.tup [.str "kids",.int i])) t3 (.tup [.ref t2])) t4 (.tup [.str "tag",.str t,.ref t3])) t5 (.tup [.ref t4])):=((((Zk.new ht1).upd_new ht2a).upd_new ht3b).upd_new ht4c).upd_new ht5d;have x1:(upd (upd (upd (upd (upd H t1 (.tup [.int i,.str t])) t2 (.tup [.str "kids",.int i])) t3 (.tup [.ref t2])) t4 (.tup [.str "tag",.str t,.ref t3])) t5 (.tup [.ref t4])) t1=some (.tup ((Zbq i t).map kV)):=by
  rw[Zd n51.symm,Zd n41.symm,Zd n31.symm,Zd n21.symm,Zb];rfl
 have x2:(upd (upd (upd (upd (upd H t1 (.tup [.int i,.str t])) t2 (.tup [.str "kids",.int i])) t3 (.tup [.ref t2])) t4 (.tup [.str "tag",.str t,.ref t3])) t5 (.tup [.ref t4])) t2=some (.tup [.str "kids",.int i]):=by
  rw[Zd n52.symm,Zd n42.symm,Zd n32.symm,Zb]
 have x3:(upd (upd (upd (upd (upd H t1 (.tup [.int i,.str t])) t2 (.tup [.str "kids",.int i])) t3 (.tup [.ref t2])) t4 (.tup [.str "tag",.str t,.ref t3])) t5 (.tup [.ref t4])) t3=some (.tup [.ref t2]):=by
  rw[Zd n53.symm,Zd n43.symm,Zb]
 have x4:(upd (upd (upd (upd (upd H t1 (.tup [.int i,.str t])) t2 (.tup [.str "kids",.int i])) t3 (.tup [.ref t2])) t4 (.tup [.str "tag",.str t,.ref t3])) t5 (.tup [.ref t4])) t4=some (.tup [.str "tag",.str t,.ref t3]):=by
  rw[Zd n54.symm,Zb]
 have x5:(upd (upd (upd (upd (upd H t1 (.tup [.int i,.str t])) t2 (.tup [.str "kids",.int i])) t3 (.tup [.ref t2])) t4 (.tup [.str "tag",.str t,.ref t3])) t5 (.tup [.ref t4])) t5=some (.tup [.ref t4]):=Zb;refine⟨_,ZcX.t (k:=Zbq i t) (s5 _ _ hd) x1,?_⟩;rcases hkn i t with⟨e1,e2⟩|⟨q,ys,p,e1,e2,e3,e4⟩
 ·have e1':Zbe m (Zbq i t)=none:=e1;rw[e1'];refine qq t5 [.ref t4] _ s5 x5 ?_;unfold paD;rw[e2];exact .tag x4 x3 (.kids x2 .nil) .nil
 ·have e1':Zbe m (Zbq i t)=some (.ref q):=e1;rw[e1'];refine qq q ys _ s5 (s5 _ _ e2) ?_;unfold paD;rw[e4];exact e3.mono s5.tk
def Zc1(d:Nat):Sp:=fun vs H Q _=>∃(q:Addr)(ys:List V)(p:Pa),vs=[.ref q]/\H q=some (.tup ys)/\RepP H ys p/\p.dep<d/\p.sz<=1000/\∀(r:Addr)(zs:List V)(H':Hp),Zk H H'->H r=none->H' r=some (.lst zs)->WdL H' zs p.spl->Q (.ref r) H'
set_option maxHeartbeats 2000000 in
theorem Zcy(d:Nat)(B:∀x∈ZbJ,mg x=none)(g_words_of_parts:Has P w K mg base "words_of_parts" ["parts"] d (Zc1 d)) (F:Fun K "words_of_parts" "words_of_parts" Zam f fd):FnOk P w K mg base CX0 (d+1) f fd ["parts"] (Zc1 (d+1)):=by
 refine F.ok Za4 (fun vs H Q E h=>?_) (fun cdv A outer s H vs Q E hr h=>?_)
 ·obtain⟨q,ys,p,rfl,_⟩:=h;rfl
 obtain⟨q,ys,p,rfl,hq,hP,hd,hz,qq⟩:=h;have hpl:=hP.length;refine⟨_,(Zc (Zt (i:=1) Za4.nd rfl (Or.inl rfl) (ZaH Zf))
  (Zc (Zbc PassesOwn.never rfl (Zcg (pv 0)) (Zu (i:=2) Za4.nd rfl (Or.inl rfl))
   (Zj (ZaL (ZQ Zb2 (Zae ZaX (pv 2) Zg (fun _ _=>rfl)) Za0 (Z2 _))
     (Zj (Zau (Zbp PySem.F.plainAttrs_list PySem.F.slot_list_append PySem.F.type_list_append ZR (pv 1) (Za (pv 2) Zf))))
     (Zj (Zau (Zbp PySem.F.plainAttrs_list PySem.F.slot_list_extend PySem.F.type_list_extend Ze7 (pv 1) (Za (Zr ZjS (Zr ZjS (ZaH (Za (Zae ZaX (pv 2) Zg (fun _ _=>rfl)) Zf)) (Z4 g_words_of_parts hr rfl (Za (Zae ZaX (pv 2) Zg (fun _ _=>rfl)) Zf) (by lia))) (ZaH (Za Za0 Zf))) Zf)))))))
  (Zj (ZC (pv 1))))),?_⟩
 refine⟨by decide,fun L hL=>?_⟩;have s0:Zk H (upd H L (.lst [])):=Zk.new hL;refine⟨_,rfl,q,rfl,⟨_,SqT.of (s0 _ _ hq)⟩,Zep (K:=K) (a:=q) (xs:=ys) (fun i σ H1=>∃(v2:Option V)(zs:List V),σ =[some (.ref q),some (.ref L),v2]/\Zk H H1/\H1 L=some (.lst zs)/\WdL H1 zs (p.take i).spl)
  ⟨none,[],rfl,s0,Zb,.nil⟩ ?_ ?_ ?_⟩
 ·rintro i σ H1 _ ⟨_,_,_,s1,_⟩;exact SqT.of (s1 _ _ hq)
 ·rintro i x σ H1 hx ⟨v2,zs,rfl,s1,hL1,hzs⟩;obtain⟨a,rfl,ha⟩:=hP.at i x hx;have hts:=p.take_sz i;have hzl:=Paired.length hzs;have hsl:=(p.take i).Zb7;rcases ha with⟨m,h1,h2⟩|⟨t,q',ys',w',h1,h2,h3,h4,h5,h6⟩
  ·have h1':=s1 _ _ h1;refine⟨_,rfl,a,_,0,_,rfl,rfl,SqT.of h1',rfl,rfl,_,rfl,Zci ?_⟩;refine⟨_,rfl,.inl ⟨rfl,_,SqL.of hL1⟩,_,rfl,L,_,_,rfl,rfl,hL1,Zn (by lia),?_⟩;have tk:TK H1 (upd H1 L (.lst (zs ++ [.ref a]))):=TK.lst hL1;refine⟨_,_,rfl,s1.upd_new hL,Zb,?_⟩;rw[h2,Pa.ZeA];exact(hzs.tk tk).app (.cons ⟨a,rfl,tk _ _ h1'⟩ .nil)
  ·have h1':=s1 _ _ h1;have hwl:=w'.Zb7;refine⟨_,rfl,a,_,0,_,rfl,rfl,SqT.of h1',rfl,rfl,_,rfl,Zbu ?_⟩;refine⟨_,rfl,.inl ⟨rfl,_,SqL.of hL1⟩,_,rfl,a,_,1,_,rfl,rfl,SqT.of h1',rfl,(by show 1<=sizeLine;decide),fun l1 hl1=>?_⟩;have s2:Zk H1 (upd H1 l1 (.lst [.str t])):=Zk.new hl1;have s12:=s1.trans s2;refine⟨_,rfl,a,_,2,_,rfl,rfl,SqT.of (s2 _ _ h1'),rfl,q',ys',w',rfl,s12 _ _ h2,h3.mono s12.tk,by lia,by lia,fun r zr H3 s3 hr0 hr3 hzr=>?_⟩;have hrl:=Paired.length hzr;refine⟨l1,r,_,_,rfl,rfl,s3 _ _ Zb,hr3,Zca (by show 1+_<=_;lia),fun l2 hl2=>⟨(by show 1<=sizeLine;decide),fun l3 hl3=>?_⟩⟩;obtain⟨n32,hl3a⟩:=Zm hl3;refine⟨l2,l3,_,_,rfl,rfl,by rw[Zd n32.symm];exact Zb,Zb,Zca (by rw[List.length_append];show 1+_+1<=_;lia),fun l4 hl4=>?_⟩;obtain⟨n43,hl4a⟩:=Zm hl4;obtain⟨n42,hl4b⟩:=Zm hl4a;have s5:Zk H3 (upd (upd (upd H3 l2 (.lst ([.str t]++zr))) l3 (.lst [.str SL])) l4 (.lst ([.str t]++zr ++ [.str SL]))):=((Zk.new hl2).upd_new hl3a).upd_new hl4b;have hL5:=s5 _ _ (s3 _ _ (s2 _ _ hL1));refine⟨L,l4,_,_,rfl,rfl,hL5,Zb,Zca (by rw[List.length_append,List.length_append];show _+(1+_+1)<=_;lia),?_⟩;have s15:=(s2.trans s3).trans s5;refine⟨_,_,rfl,(s1.trans s15).upd_new hL,Zb,?_⟩;rw[h4,Pa.ZeA];have tk6:=TK.lst (o:=.lst (zs++([.str t]++zr ++ [.str SL]))) hL5;have e:Pa.spl (Pa.tag t w' .nil)=[Sum.inl t]++w'.spl ++ [Sum.inl SL]:=by simp[Pa.spl]
   rw[e];exact((hzs.tk s15.tk).tk tk6).app (((WdL.app (WdL.strs [t]) ((hzr.tk s5.tk).tk tk6))).app (WdL.strs [SL]))
 ·rintro σ H1 ⟨v2,zs,rfl,s1,hL1,hzs⟩;rw[hP.take_all] at hzs;exact⟨_,rfl,qq L zs H1 s1 hL hL1 hzs⟩
def Zch(C:Addr):Sp:=fun vs H Q _=>∃(a c dx:Addr)(rs:List (Int×Str×Pa)),vs=[.ref a,.ref c]/\H a=some (.ins C dx [])/\ChR H c rs/\(∀r∈rs,r.2.2.nk<=1/\∀x∈r.2.2.tags,PyData.strOk x=true) /\
 ∀(H':Hp)(dk Bl:Addr),Zv [a] H H'->H dk=none->H Bl=none->StAt C H' a dk Bl [] (ZeC rs) [] 0->Q .non H'
theorem Zel{rs:List (Int×Str×Pa)}{i:Int}{t:Str}{p:Pa}:ZeC rs i t=some p->∃r∈rs,r.1=i/\r.2.1=t/\r.2.2=p:=by
 have go:∀(rs:List (Int×Str×Pa))(f:Kn),rs.foldl Zet f i t=some p->f i t=some p\/∃r∈rs,r.1=i/\r.2.1=t/\r.2.2=p:=by
  intro rs
  induction rs with
  | nil=>exact fun f h=>.inl h
  | cons r rs ih =>
   intro f h;rcases ih (Zet f r) h with h|⟨r',hr,e⟩
   ·unfold Zet at h;by_cases c:i=r.1/\t=r.2.1
    ·rw[if_pos c] at h;injection h with h;exact .inr ⟨r,List.mem_cons_self ..,c.1.symm,c.2.symm,h⟩
    ·rw[if_neg c] at h;exact .inl h
   ·exact .inr ⟨r',List.mem_cons_of_mem _ hr,e⟩
 intro h;rcases go rs _ h with h|h
 ·cases h
 ·exact h
set_option maxHeartbeats 2000000 in
theorem Zcm{C:Addr}(B:∀x∈ZbJ,mg x=none)(c_Stream:StC K C)(g_straight:Has P w K mg base "straight" ["changer"] 24 Zcx) (g_parts_by_rule:Has P w K mg base "parts_by_rule" ["changer"] 1 Zeo) (F:Fun K "__init__" "Stream.__init__" Zag f fd):FnOk P w K mg base CX0 25 f fd ["self","changer"] (Zch C):=by
 refine F.ok Zco (fun vs H Q E h=>?_) (fun cdv A outer s H vs Q E hr h=>?_)
 ·obtain⟨a,c,dx,rs,rfl,_⟩:=h;rfl
 obtain⟨a,c,dx,rs,rfl,hA,hC,hrs,qq⟩:=h;refine⟨_,(Zc (ZaL (Zbb (Z7 (Z4 g_straight hr rfl (Za (pv 1) Zf)) (fun _=>rfl)))
   (Zj Zgo)
   ZM)
  (Zc (Zbr (pv 0) (Z4 g_parts_by_rule hr rfl (Za (pv 1) Zf)) rfl)
  (Zc (Zbr (pv 0) Zg rfl)
  (Zj (Zbr (pv 0) (ZaH Zf) rfl))))),?_⟩
 refine⟨_,rfl,c,rs,rfl,hC,fun H1 s1=>⟨true,?_,Zbu ?_⟩⟩
 ·show true=_
  symm
  rw[List.all_eq_true];exact fun r hr=>decide_eq_true (hrs r hr).1
 refine⟨_,rfl,c,rs,rfl,hC.tk s1.tk,fun dk m H2 s2 hdk hdk2 hkn=>?_⟩;have s12:=s1.trans s2;have hA2:=s12 _ _ hA;have ndk:dk≠a:=fun z=>by rw[z,s1 _ _ hA] at hdk;cases hdk
 refine⟨_,rfl,a,C,dx,_,rfl,hA2,c_Stream.cls,c_Stream.n1,by decide,?_⟩;refine⟨_,rfl,a,C,dx,_,rfl,Zb,c_Stream.cls,c_Stream.n2,(show 1<1000 by decide),?_⟩;rw[Zh5];refine⟨by decide,fun Bl hBg=>?_⟩;obtain⟨nBa,hBg2⟩:=Zm hBg;refine⟨_,rfl,a,C,dx,Zas "taken" (.int 0) (Zas "known" (.ref dk) []),rfl,by rw[Zd nBa.symm];exact Zb,c_Stream.cls,c_Stream.n3,(show 2<1000 by decide),?_⟩;have x9:(upd (upd (upd H2 a (.ins C dx (Zas "taken" (.int 0) (Zas "known" (.ref dk) [])))) Bl (.lst [])) a (.ins C dx (Zas "begun" (.ref Bl) (Zas "taken" (.int 0) (Zas "known" (.ref dk) []))))) a=some (.ins C dx (stF dk Bl 0)):=by
  rw[Zb];rfl
 have k9:Zv [a] H2 (upd (upd (upd H2 a (.ins C dx (Zas "taken" (.int 0) (Zas "known" (.ref dk) [])))) Bl (.lst [])) a (.ins C dx (Zas "begun" (.ref Bl) (Zas "taken" (.int 0) (Zas "known" (.ref dk) []))))):=fun b o hb e=>by
  have hb':b≠a:=fun z=>hb (List.mem_singleton.mpr z);rw[Zd hb',Zd (Zi e hBg2),Zd hb'];exact e
 have b9:(upd (upd (upd H2 a (.ins C dx (Zas "taken" (.int 0) (Zas "known" (.ref dk) [])))) Bl (.lst [])) a (.ins C dx (Zas "begun" (.ref Bl) (Zas "taken" (.int 0) (Zas "known" (.ref dk) []))))) Bl=some (.lst []):=by
  rw[Zd nBa];exact Zb
 have tk9:TK H2 (upd (upd (upd H2 a (.ins C dx (Zas "taken" (.int 0) (Zas "known" (.ref dk) [])))) Bl (.lst [])) a (.ins C dx (Zas "begun" (.ref Bl) (Zas "taken" (.int 0) (Zas "known" (.ref dk) []))))):=fun b xs e=>k9 b _ (fun z=>by rw[List.mem_singleton.mp z,hA2] at e;cases e) e;refine qq _ dk Bl (fun b o hb e=>k9 b o hb (s12 _ _ e)) (s1.free hdk) (s12.free hBg2) ⟨⟨fun i t p h=>?_,fun i t p h=>?_,fun i t p h=>?_⟩,⟨dx,x9⟩,⟨m,k9 _ _ (fun z=>ndk (List.mem_singleton.mp z)) hdk2,hkn.tk tk9⟩,⟨[],b9,.nil⟩,by simp,fun _ h=>(nomatch h)⟩
 ·obtain⟨r,hr,_,_,rfl⟩:=Zel h;exact(hrs r hr).1
 ·obtain⟨r,hr,_,_,rfl⟩:=Zel h;obtain⟨_,_,_,_,_,_,_,h5⟩:=hC;exact h5 r hr
 ·obtain⟨r,hr,_,_,rfl⟩:=Zel h;exact(hrs r hr).2
def ZfK(C:Addr):Sp:=fun vs H Q _=>∃(a dk Bl:Addr)(ls:List Addr)(kn:Kn)(bs:Bg)(n:Int)(m:Option Int)(t:Str),vs=[.ref a,moV m,.str t]/\StAt C H a dk Bl ls kn bs n/\bs.length<=900/\PyData.strOk t=true /\
 ∀(r l:Addr)(H':Hp),Zv [Bl] H H'->H r=none->H l=none->r≠l->H' r=some (.lst ((rlS kn m t).1.map V.str))->StAt C H' a dk Bl (ls ++ [l]) kn (bs ++ [(rlS kn m t).2]) n->Q (.ref r) H'
theorem ZgM{kn:Kn}(ok:KnOk kn){m:Int}{t:Str}(ht:PyData.strOk t=true):(paD kn m t).nk<=1/\(paD kn m t).sz<=20/\(∀x∈(paD kn m t).tags,PyData.strOk x=true)/\rlS kn (some m) t=Zfe (paD kn m t).spl:=by
 unfold paD;show _/\_/\_/\(match kn m t with|none=>([t],some m,[SL])|some p=>Zfe p.spl)=_
 cases h:kn m t with
 | none =>
  refine⟨(show 1<=1 by decide),(show 2<=20 by decide),fun x hx=>?_,rfl⟩;have:x=t:=by simpa[Pa.tags] using hx
  rw[this];exact ht
 | some p=>exact⟨ok.one _ _ _ h,ok.sz _ _ _ h,ok.ok _ _ _ h,rfl⟩
theorem ZcM:∀{p:Pa},(∀x∈p.tags,PyData.strOk x=true)->∀s:Str,Sum.inl s∈p.spl->PyData.strOk s=true
 | .nil,_,s,h=>by cases h
 | .kids m o,hp,s,h=>by
  rcases List.mem_cons.mp h with h|h
  ·cases h
  ·exact ZcM (p:=o) hp s h
 | .tag t w o,hp,s,h=>by
  rcases List.mem_cons.mp h with h|h
  ·injection h with h;rw[h];exact hp t (List.mem_cons_self ..)
  ·rcases List.mem_append.mp h with h|h
   ·exact ZcM (p:=w) (fun x hx=>hp x (List.mem_cons_of_mem _ (List.mem_append_left _ hx))) s h
   ·rcases List.mem_cons.mp h with h|h
    ·injection h with h;rw[h];exact Zlm
    ·exact ZcM (p:=o) (fun x hx=>hp x (List.mem_cons_of_mem _ (List.mem_append_right _ hx))) s h
set_option maxHeartbeats 4000000 in
theorem Zb1{C:Addr}(B:∀x∈ZbJ,mg x=none)(c_Stream:StC K C)(g_parts_for:Has P w K mg base "parts_for" ["known","mode","tag"] 1 ZcF) (g_words_of_parts:Has P w K mg base "words_of_parts" ["parts"] 22 (Zc1 22)) (g_kids_in:Has P w K mg base "kids_in" ["parts"] 23 (Zdb 22)) (F:Fun K "take_begin" "Stream.take_begin" ZK f fd):FnOk P w K mg base CX0 24 f fd ["self","mode","tag"] (ZfK C):=by
 refine F.ok Zac (fun vs H Q E h=>?_) (fun cdv A outer s H vs Q E hr h=>?_)
 ·obtain⟨a,dk,Bl,ls,kn,bs,n,m,t,rfl,_⟩:=h;rfl
 obtain⟨a,dk,Bl,ls,kn,bs,n,m,t,rfl,hS,hbl,hto,qq⟩:=h;have hu:=Zcz hr;have hu20:(A.deeper (PyProof.Rows.envOfC (Str.ofString "Stream.take_begin") (Zh ZK) s.heap.objs.size f cdv)).units+20<cLine:=by lia
 obtain⟨dx,h1⟩:=hS.ho;obtain⟨km,h2,h3⟩:=hS.hk;obtain⟨zs,h4,h5⟩:=hS.hb;have hzl:=h5.len.1;refine⟨_,(Zc (ZaL (ZQ ZdH (pv 1) ZbR (Z2 _))
   (Zc (Zau (Zbp PySem.F.plainAttrs_list PySem.F.slot_list_append PySem.F.type_list_append ZR (Zaf (pv 0) rfl) (Za (Zax (Za ZbR (Za (ZaH Zf) Zf))) Zf)))
    (Zj (ZC (ZaH Zf))))
   ZM)
  (Zc (Zt (i:=3) Zac.nd rfl (Or.inl rfl) (Z4 g_parts_for hr rfl (Za (Zaf (pv 0) rfl) (Za (pv 1) (Za (pv 2) Zf)))))
  (Zc (Zt (i:=4) Zac.nd rfl (Or.inl rfl) (Z4 g_words_of_parts hr rfl (Za (pv 3) Zf)))
  (Zc (Zt (i:=5) Zac.nd rfl (Or.inl rfl) (Z4 g_kids_in hr rfl (Za (pv 3) Zf)))
  (Zc (ZaL (Zbb (Z7 (pv 5) (fun _=>rfl)))
   (Zc (Zau (Zbp PySem.F.plainAttrs_list PySem.F.slot_list_append PySem.F.type_list_append ZR (Zaf (pv 0) rfl) (Za (Zax (Za ZbR (Za (ZaH Zf) Zf))) Zf)))
    (Zj (ZC (pv 4))))
   ZM)
  (Zc (Zt (i:=6) Zac.nd rfl (Or.inl rfl) (Zbp PySem.F.plainAttrs_list PySem.F.slot_list_index PySem.F.type_list_index (Zho hu20 (K:=K) rfl) (pv 4) (Za (Zae Zaa (pv 5) Zg (fun _ _=>rfl)) Zf)))
  (Zc (Zau (Zbp PySem.F.plainAttrs_list PySem.F.slot_list_append PySem.F.type_list_append ZR (Zaf (pv 0) rfl) (Za (Zax (Za (Zae ZaX (Zae Zaa (pv 5) Zg (fun _ _=>rfl)) Zg (fun _ _=>rfl)) (Za (Zgx Zij (pv 4) (ZhY (Zr ZaZ (pv 6) Zg)) ZhF) Zf))) Zf)))
  (Zj (ZC (Zgx Zij (pv 4) ZhF (ZhY (pv 6)))))))))))),?_⟩
 have new0:∀(H1:Hp),Zk H H1->∀l,H1 l=none->∀t',(upd H1 l (.lst [])) t'=none->StAt C (upd (upd (upd H1 l (.lst [])) t' (.tup [.non,.ref l])) Bl (.lst (zs ++ [.ref t']))) a dk Bl (ls ++ [l]) kn (bs ++ [(none,[])]) n/\Zv [Bl] H (upd (upd (upd H1 l (.lst [])) t' (.tup [.non,.ref l])) Bl (.lst (zs ++ [.ref t']))):=fun H1 s1 l hl t' ht'=>by
  obtain⟨ntl,ht0⟩:=Zm ht';have s2:Zk H (upd (upd H1 l (.lst [])) t' (.tup [.non,.ref l])):=(s1.upd_new (s1.free hl)).upd_new (s1.free ht0);refine⟨(hS.same s2).opened (b:=(none,[])) (s2 _ _ h4) Zb (by rw[Zd ntl.symm];exact Zb) (hS.free (s1.free hl)) (fun _ h=>nomatch h),fun b o hb e=>?_⟩
  rw[Zd (fun z=>hb (List.mem_singleton.mpr z))];exact s2 _ _ e
 cases m with
 | none =>
  refine⟨_,rfl,rfl,_,rfl,Zci ?_⟩;refine⟨_,rfl,a,C,dx,_,_,rfl,h1,c_Stream.cls,c_Stream.n3,rfl,.inl ⟨rfl,_,SqL.of h4⟩,by decide,fun l hl=>⟨(by show 2<=sizeLine;decide),fun t' ht'=>?_⟩⟩;obtain⟨ntl,ht0⟩:=Zm ht';have s2:Zk H (upd (upd H l (.lst [])) t' (.tup [.non,.ref l])):=(Zk.new hl).upd_new ht0;refine⟨Bl,_,_,rfl,rfl,s2 _ _ h4,Zn (by lia),?_⟩;refine⟨by decide,fun r hr'=>?_⟩;obtain⟨g1,g2⟩:=new0 H (Zk.refl H) l hl t' ht';have hrB:=Zm hr';obtain⟨nrB,hr1⟩:=Zm hr';obtain⟨nrt,hr2⟩:=Zm hr1;obtain⟨nrl,hr3⟩:=Zm hr2;have s9:=Zk.new (o:=.lst []) hr';exact qq r l _ (fun b o hb e=>s9 _ _ (g2 b o hb e)) hr3 hl nrl Zb (g1.same s9)
 | some m =>
  obtain⟨r1,r2,r3,r4⟩:=ZgM hS.ok (m:=m) hto;have hdp:=(paD kn m t).ZeV;refine⟨_,rfl,rfl,_,rfl,Zbu ?_⟩;refine⟨_,rfl,a,C,dx,_,_,rfl,h1,c_Stream.cls,c_Stream.n1,rfl,_,rfl,_,rfl,dk,km,kn,m,t,rfl,h2,h3,fun q ys H1 s1 hq hP=>?_⟩;refine⟨_,rfl,q,ys,_,rfl,hq,hP,by lia,by lia,fun W ws H2 s2 hW0 hW2 hWd=>?_⟩;refine⟨_,rfl,q,ys,_,rfl,s2 _ _ hq,hP.mono s2.tk,by lia,by lia,fun kd kz H3 s3 hkd0 hkd3 hKd=>?_⟩;have s13:=(s1.trans s2).trans s3;have hW3:=s3 _ _ hW2;have hWd3:=hWd.tk s3.tk;have hwl:=Paired.length hWd;have hsl:=(paD kn m t).Zb7;by_cases c:(paD kn m t).nk=0
  ·obtain⟨ts,e1,e2⟩:=(Zbn (paD kn m t)).1 c;rw[e1,ZeQ] at r4;rw[e1] at hWd3;obtain rfl:=hWd3.to;rw[e2] at hKd;cases hKd;refine⟨_,rfl,_,.inl ⟨[],SqL.of hkd3,rfl⟩,Zci ?_⟩;refine⟨_,rfl,a,C,dx,_,_,rfl,s13 _ _ h1,c_Stream.cls,c_Stream.n3,rfl,.inl ⟨rfl,_,SqL.of (s13 _ _ h4)⟩,by decide,fun l hl=>⟨(by show 2<=sizeLine;decide),fun t' ht'=>?_⟩⟩;obtain⟨ntl,ht0⟩:=Zm ht';have s2':Zk H (upd (upd H3 l (.lst [])) t' (.tup [.non,.ref l])):=(s13.upd_new (s13.free hl)).upd_new (s13.free ht0);refine⟨Bl,_,_,rfl,rfl,s2' _ _ h4,Zn (by lia),?_⟩;obtain⟨g1,g2⟩:=new0 H3 s13 l hl t' ht';have nWl:W≠l:=Zi hW3 hl;have nWt:W≠t':=Zi hW3 ht0;have nWB:W≠Bl:=fun z=>by
    have:=(s1 _ _ h4);rw[<- z,hW0] at this;cases this
   refine⟨_,rfl,qq W l _ g2 (s1.free hW0) (s13.free hl) nWl ?_ ?_⟩
   ·rw[r4,Zd nWB,Zd nWt,Zd nWl];exact hW3
   ·rw[r4];exact g1
  ·obtain⟨ta,tb,mk,e1,e2⟩:=(Zbn (paD kn m t)).2 (by lia);have oka:∀x∈ta,PyData.strOk x=true:=fun x hx=>ZcM r3 x (by rw[e1];exact List.mem_append_left _ (List.mem_map.mpr ⟨x,hx,rfl⟩));have okb:∀x∈tb,PyData.strOk x=true:=fun x hx=>ZcM r3 x (by rw[e1];exact List.mem_append_right _ (List.mem_cons_of_mem _ (List.mem_map.mpr ⟨x,hx,rfl⟩)));rw[e1,Zfl] at r4;rw[e1] at hWd3 hsl hwl;rw[List.length_append,List.length_cons,List.length_map,List.length_map] at hsl hwl;rw[e2] at hKd;have cutA:∀{ta:List Str}{ws:List V},WdL H3 ws (ta.map Sum.inl ++ .inr mk::tb.map Sum.inl)->∃k,ws=ta.map V.str ++ .ref k::tb.map V.str/\H3 k=some (.tup [.str "kids",.int mk]):=by
    intro ta
    induction ta with
    | nil =>
     intro ws h;cases h with
     | cons r t =>
      obtain⟨k,e,hk⟩:=r;have ht:WdL H3 _ (tb.map Sum.inl):=t;exact⟨k,by rw[e,ht.to];rfl,hk⟩
    | cons x ta ih =>
     intro ws h;cases h with
     | cons r t =>
      obtain⟨k,e,hk⟩:=ih t;have e0:_=V.str x:=r;exact⟨k,by rw[e0,e];rfl,hk⟩
   obtain⟨k,rfl,hk⟩:=cutA hWd3;cases hKd with
   | cons r rt =>
    cases rt;obtain⟨ka,rfl,hka⟩:=r;refine⟨_,rfl,_,.inl ⟨[.ref ka],SqL.of hkd3,rfl⟩,Zbu ?_⟩;have dpk:∀x,H3 x=some (.tup [.str "kids",.int mk])->Dp K H3 (.ref x) (.tuple [.str "kids",.int mk]):=fun x hx=>.tup (SqT.of hx) (.cons (.str _) (.cons (.int _) .nil));refine⟨_,rfl,.inl ⟨rfl,_,SqL.of hW3⟩,_,rfl,kd,_,0,_,rfl,rfl,SqL.of hkd3,rfl,W,ka,k,ta,tb.map V.str,_,rfl,rfl,SqL.of hW3,by rw[List.length_map];lia,fun b hb=>?_,oka,dpk k hk,dpk ka hka,Zji mk,(show(1:Nat)<=8 by decide),?_⟩
    ·obtain⟨x,hx,rfl⟩:=List.mem_map.mp hb;exact⟨x,rfl,okb x hx⟩
    refine⟨_,rfl,a,C,dx,_,_,rfl,s13 _ _ h1,c_Stream.cls,c_Stream.n3,rfl,.inl ⟨rfl,_,SqL.of (s13 _ _ h4)⟩,_,rfl,kd,_,0,_,rfl,rfl,SqL.of hkd3,rfl,ka,_,1,_,rfl,rfl,SqT.of hka,rfl,_,rfl,_,rfl,_,_,rfl,rfl,_,rfl,W,_,rfl,SqL.of hW3,fun l hl=>?_⟩;have cb:ZiH (ta.map V.str ++ .ref k::tb.map V.str) (some ((ta.length:Int)+1)) none=tb.map V.str:=by
     have:=ZiR (ta.map V.str ++ .ref k::tb.map V.str) (ta.length+1);rw[show((ta.length+1:Nat):Int)=(ta.length:Int)+1 from rfl] at this;rw[this,List.drop_append,List.drop_eq_nil_of_le (by rw[List.length_map];lia),List.length_map,show ta.length+1-ta.length=1 by lia];rfl
    have ca:ZiH (ta.map V.str ++ .ref k::tb.map V.str) none (some (ta.length:Int))=ta.map V.str:=by
     rw[ZiO,List.take_append,List.take_of_length_le (by rw[List.length_map];lia),List.length_map,Nat.sub_self];exact List.append_nil _
    refine⟨(by show 2<=sizeLine;decide),fun t' ht'=>?_⟩;rw[cb] at ht' ⊢;obtain⟨ntl,ht0⟩:=Zm ht';have s4:Zk H (upd (upd H3 l (.lst (tb.map V.str))) t' (.tup [.int mk,.ref l])):=(s13.upd_new (s13.free hl)).upd_new (s13.free ht0);refine⟨Bl,_,_,rfl,rfl,s4 _ _ h4,Zn (by lia),?_⟩;have g1:=(hS.same s4).opened (b:=(some mk,tb)) (s4 _ _ h4) (show(upd (upd H3 l (.lst (tb.map V.str))) t' (.tup [.int mk,.ref l])) t'=some (.tup [.int mk,.ref l]) from Zb) (by rw[Zd ntl.symm];exact Zb) (hS.free (s13.free hl)) okb;have nWl:W≠l:=Zi hW3 hl;have nWt:W≠t':=Zi hW3 ht0;have nWB:W≠Bl:=fun z=>by
     have:=(s1 _ _ h4);rw[<- z,hW0] at this;cases this
    have hW5:(upd (upd (upd H3 l (.lst (tb.map V.str))) t' (.tup [.int mk,.ref l])) Bl (.lst (zs ++ [.ref t']))) W=some (.lst (ta.map V.str ++ .ref k::tb.map V.str)):=by
     rw[Zd nWB,Zd nWt,Zd nWl];exact hW3
    refine⟨_,rfl,_,rfl,_,rfl,W,_,rfl,SqL.of hW5,fun r hr'=>?_⟩;rw[ca];have s9:=Zk.new (o:=.lst (ta.map V.str)) hr';obtain⟨nrB,hr1⟩:=Zm hr';obtain⟨nrt,hr2⟩:=Zm hr1;obtain⟨nrl,hr3⟩:=Zm hr2;refine qq r l _ (fun b o hb e=>s9 _ _ ?_) (s13.free hr3) (s13.free hl) nrl ?_ ?_
    ·rw[Zd (fun z=>hb (List.mem_singleton.mpr z))];exact s4 _ _ e
    ·rw[r4,Zb]
    ·rw[r4];exact g1.same s9
def Zeq(C:Addr):Sp:=fun vs H Q _=>∃(a dk Bl:Addr)(ls:List Addr)(kn:Kn)(bs:Bg)(n:Int)(t:Str),vs=[.ref a,.str t]/\StAt C H a dk Bl ls kn bs n/\bs.length<=900/\((t=SL/\bs ≠ [])\/(ZdQ t/\t.length<=8)) /\
 ∀(r:Addr)(ls':List Addr)(H':Hp),Zv [a,Bl] H H'->(H r=none\/r∈ls)->(∀l∈ls',l∈ls\/H l=none)->r∉Bl::ls'->H' r=some (.lst ((Zbg kn bs t).1.map V.str))->StAt C H' a dk Bl ls' kn (Zbg kn bs t).2 (n+1)->Q (.ref r) H'
theorem ZdC{α : Type}{l:List α}(h:l ≠ []):∃l' x,l=l' ++ [x]:=⟨l.dropLast,l.getLast h,(List.dropLast_concat_getLast h).symm⟩
set_option maxHeartbeats 4000000 in
theorem ZdS{C:Addr}(B:∀x∈ZbJ,mg x=none)(c_Stream:StC K C)(g_is_tag:Has P w K mg base "is_tag" ["text"] 1 ZfW) (g_Stream_take_begin:HasM P w K mg base C "take_begin" ["self","mode","tag"] 24 (ZfK C)) (F:Fun K "take" "Stream.take" ZaI f fd):FnOk P w K mg base CX0 25 f fd ["self","word"] (Zeq C):=by
 refine F.ok ZdT (fun vs H Q E h=>?_) (fun cdv A outer s H vs Q E hr h=>?_)
 ·obtain⟨a,dk,Bl,ls,kn,bs,n,t,rfl,_⟩:=h;rfl
 obtain⟨a,dk,Bl,ls,kn,bs,n,t,rfl,hS,hbl,ht,qq⟩:=h;obtain⟨dx,h1⟩:=hS.ho;obtain⟨km,h2,h3⟩:=hS.hk;obtain⟨zs,h4,h5⟩:=hS.hb;have hzl:=h5.len.1;have nab:a≠Bl:=ZfT h1 h4 (by intro z;cases z);have nad:dk≠a:=ZfT h2 h1 (by intro z;cases z);have more:∀(G:Hp),Zk H G->∀(H1:Hp),H1=upd G a (.ins C dx (Zas "taken" (.int (n+1)) (stF dk Bl n)))->StAt C H1 a dk Bl ls kn bs (n+1)/\Zv [a] G H1/\H1 a=some (.ins C dx (stF dk Bl (n+1))):=fun G sG H1 e=>by
  subst e
  replace h1:=sG _ _ h1
  replace h2:=sG _ _ h2
  replace h3:=h3.tk sG.tk
  replace h4:=sG _ _ h4
  replace h5:=h5.keep sG.tk fun l _ o e=>sG _ _ e
  have x1:(upd G a (.ins C dx (Zas "taken" (.int (n+1)) (stF dk Bl n)))) a=some (.ins C dx (stF dk Bl (n+1))):=by
   rw[Zb];rfl
  have kx:Zv [a] G (upd G a (.ins C dx (Zas "taken" (.int (n+1)) (stF dk Bl n)))):=fun b o hb e=>by
   rw[Zd (fun z=>hb (List.mem_singleton.mpr z))];exact e
  have tk:TK G (upd G a (.ins C dx (Zas "taken" (.int (n+1)) (stF dk Bl n)))):=fun b xs e=>kx b _ (fun z=>by rw[List.mem_singleton.mp z,h1] at e;cases e) e;refine⟨⟨hS.ok,⟨dx,x1⟩,⟨km,kx _ _ (fun z=>nad (List.mem_singleton.mp z)) h2,h3.tk tk⟩,⟨zs,kx _ _ (fun z=>nab (List.mem_singleton.mp z).symm) h4,h5.keep tk fun l hl o e=>kx _ _ (fun z=>?_) e⟩,hS.nd,hS.so⟩,kx,x1⟩;obtain⟨xs,el⟩:=h5.live l hl;rw[List.mem_singleton.mp z,h1] at el;cases el
 refine⟨_,(Zc (ZaL (PW.pt (Zb5 (ZQ Zb2 (pv 1) Za0 (Z2 _)) (ZbA (Z7 (Zaf (pv 0) rfl) (fun _=>rfl)))))
   (Zc (Zfn (pv 0) Zg Zju)
    (Zj (ZC (Zae ZaX (ZcL PySem.F.plainAttrs_list PySem.F.slot_list_pop PySem.F.type_list_pop Zdu (Zaf (pv 0) rfl)) Zg (fun _ _=>rfl)))))
   ZM)
  (Zc (ZaL (Zbb (Z7 (Z4 g_is_tag hr rfl (Za (pv 1) Zf)) (fun _=>rfl)))
   (Zj Zgo)
   ZM)
  (Zc (Zfn (pv 0) Zg Zju)
  (Zj (ZC (Zbm g_Stream_take_begin hr (pv 0) c_Stream.cls (Za (ZgJ (Z7 (Zaf (pv 0) rfl) (fun _=>rfl)) (Zae ZaX (Zae Zaa (Zaf (pv 0) rfl) (ZeT ZcI Zg) (fun _ _=>rfl)) Zg (fun _ _=>rfl)) Zg) (Za (pv 1) Zf)))))))),?_⟩
 by_cases c:t=SL
 ·subst c;have hbn:bs ≠ []:=by
   rcases ht with h|h
   ·exact h.2
   ·exact absurd rfl h.1.ne
  obtain⟨bs',b,rfl⟩:=ZdC hbn;obtain⟨zs',z,ls',l,rfl,rfl,h6,h7⟩:=h5.unsnoc;obtain⟨tb,rfl,g1,g2⟩:=h7;have est:Zbg kn (bs' ++ [b]) SL=(b.2,bs'):=by
   unfold Zbg;rw[if_pos rfl,List.getLast?_concat,List.dropLast_concat]
  refine⟨_,rfl,rfl,_,rfl,Zci ?_⟩;refine⟨_,rfl,a,C,dx,_,_,rfl,h1,c_Stream.cls,c_Stream.n3,rfl,true,.inl ⟨_,SqL.of h4,by simp⟩,Zci ?_⟩;refine⟨_,rfl,a,C,dx,_,_,rfl,h1,c_Stream.cls,c_Stream.n2,rfl,_,_,rfl,rfl,dx,_,h1,(show 3<1000 by decide),?_⟩;obtain⟨S1,k1,x1⟩:=more H (Zk.refl H) _ rfl;obtain⟨zs2,h42,h52⟩:=S1.hb;have hB1:(upd H a (.ins C dx (Zas "taken" (.int (n+1)) (stF dk Bl n)))) Bl=some (.lst (zs' ++ [.ref tb])):=k1 _ _ (fun z=>nab (List.mem_singleton.mp z).symm) h4;rw[hB1] at h42;injection h42 with h42;injection h42 with h42;subst h42;have tk1:TK H (upd H a (.ins C dx (Zas "taken" (.int (n+1)) (stF dk Bl n)))):=fun b xs e=>k1 b _ (fun z=>by rw[List.mem_singleton.mp z,h1] at e;cases e) e;refine⟨_,rfl,a,C,dx,_,_,rfl,x1,c_Stream.cls,c_Stream.n3,rfl,.inl ⟨rfl,_,SqL.of hB1⟩,Bl,_,_,rfl,rfl,hB1,Zbl _ _,?_⟩;rw[ZbO];have g1':(upd (upd H a (.ins C dx (Zas "taken" (.int (n+1)) (stF dk Bl n)))) Bl (.lst zs')) tb=some (.tup [moV b.1,.ref l]):=TK.lst hB1 _ _ (tk1 _ _ g1);refine⟨tb,_,1,_,rfl,rfl,SqT.of g1',rfl,?_⟩;obtain⟨nd1,nd2⟩:=List.nodup_cons.mp S1.nd;obtain⟨nda,_,ndb⟩:=List.nodup_append.mp nd2;have nlB:l≠Bl:=fun z=>nd1 (by rw[<- z];exact List.mem_append_right _ (List.mem_singleton.mpr rfl));have nla:l≠a:=fun z=>by rw[z,h1] at g2;cases g2
  refine qq l ls' _ (fun b' o hb e=>?_) (.inr (List.mem_append_right _ (List.mem_singleton.mpr rfl))) (fun l' hl'=>.inl (List.mem_append_left _ hl')) ?_ ?_ ?_
  ·simp only[List.mem_cons,List.not_mem_nil,or_false,not_or] at hb;rw[Zd hb.2];exact k1 _ _ (fun z=>hb.1 (List.mem_singleton.mp z)) e
  ·intro z;rcases List.mem_cons.mp z with z|z
   ·exact nlB z
   ·exact ndb l z l (List.mem_singleton.mpr rfl) rfl
  ·rw[est,Zd nlB];exact k1 _ _ (fun z=>nla (List.mem_singleton.mp z)) g2
  ·rw[est];obtain⟨m2,y1,y2⟩:=S1.hk;have tk2:TK (upd H a (.ins C dx (Zas "taken" (.int (n+1)) (stF dk Bl n)))) (upd (upd H a (.ins C dx (Zas "taken" (.int (n+1)) (stF dk Bl n)))) Bl (.lst zs')):=TK.lst hB1;refine⟨S1.ok,⟨dx,by rw[Zd nab];exact x1⟩,⟨m2,by rw[Zd (ZfT y1 hB1 (by intro z;cases z))];exact y1,y2.tk tk2⟩,⟨zs',Zb,?_⟩,List.nodup_cons.mpr ⟨fun z=>nd1 (List.mem_append_left _ z),nda⟩,fun c hc=>S1.so c (List.mem_append_left _ hc)⟩;refine(h6.keep tk1 fun l' hl' o e=>k1 _ _ (fun z=>?_) e).keep tk2 fun l' hl' o e=>?_
   ·obtain⟨xs,el⟩:=h6.live l' hl';rw[List.mem_singleton.mp z,h1] at el;cases el
   ·rw[Zd (fun z=>nd1 (by rw[<- z];exact List.mem_append_left _ hl'))];exact e
 ·have htt:ZdQ t/\t.length<=8:=by
   rcases ht with h|h
   ·exact absurd h.1 c
   ·exact h
  have est:Zbg kn bs t=((rlS kn (ZcT bs) t).1,bs ++ [(rlS kn (ZcT bs) t).2]):=by
   unfold Zbg;rw[if_neg c]
  refine⟨_,rfl,rfl,_,rfl,?_⟩;rw[decide_eq_false (fun z=>c (by injection z))];refine Zbu ?_;refine⟨_,rfl,t,rfl,by lia,fun H1 s1=>⟨true,?_,Zbu ?_⟩⟩
  ·show true=Zk6 t;rw[Zha htt.1 htt.2]
  refine⟨_,rfl,a,C,dx,_,_,rfl,s1 _ _ h1,c_Stream.cls,c_Stream.n2,rfl,_,_,rfl,rfl,dx,_,s1 _ _ h1,(show 3<1000 by decide),?_⟩;obtain⟨S1,k1,x1⟩:=more H1 s1 _ rfl;have hB1:(upd H1 a (.ins C dx (Zas "taken" (.int (n+1)) (stF dk Bl n)))) Bl=some (.lst zs):=k1 _ _ (fun z=>nab (List.mem_singleton.mp z).symm) (s1 _ _ h4);have tk1:TK H (upd H1 a (.ins C dx (Zas "taken" (.int (n+1)) (stF dk Bl n)))):=fun b xs e=>k1 b _ (fun z=>by rw[List.mem_singleton.mp z,h1] at e;cases e) (s1 _ _ e);generalize upd H1 a (.ins C dx (Zas "taken" (.int (n+1)) (stF dk Bl n)))=H2 at S1 k1 x1 hB1 tk1 ⊢;have ok:PyData.strOk t=true:=htt.1.let0.ok;have fin:∀(r l:Addr)(H':Hp),Zv [Bl] H2 H'->H2 r=none->H2 l=none->r≠l->H' r=some (.lst ((rlS kn (ZcT bs) t).1.map V.str))->StAt C H' a dk Bl (ls ++ [l]) kn (bs ++ [(rlS kn (ZcT bs) t).2]) (n+1)->Q (.ref r) H':=fun r l H' kx hr0 hl0 nrl hr1 S2=>by
   have free:∀b,H2 b=none->H b=none:=fun b hb=>by
    refine Option.eq_none_iff_forall_ne_some.mpr fun o ho=>?_;by_cases z:b=a
    ·rw[z,x1] at hb;cases hb
    ·rw[k1 _ _ (fun y=>z (List.mem_singleton.mp y)) (s1 _ _ ho)] at hb;cases hb
   refine qq r (ls ++ [l]) H' (fun b o hb e=>?_) (.inl (free r hr0)) (fun l' hl'=>?_) (fun z=>?_) (by rw[est];exact hr1) (by rw[est];exact S2)
   ·simp only[List.mem_cons,List.not_mem_nil,or_false,not_or] at hb;exact kx _ _ (fun z=>hb.2 (List.mem_singleton.mp z)) (k1 _ _ (fun z=>hb.1 (List.mem_singleton.mp z)) (s1 _ _ e))
   ·rcases List.mem_append.mp hl' with h|h
    ·exact .inl h
    ·rw[List.mem_singleton.mp h];exact .inr (free l hl0)
   ·rcases List.mem_cons.mp z with z|z
    ·rw[z,hB1] at hr0;cases hr0
    ·rcases List.mem_append.mp z with z|z
     ·obtain⟨xs,el⟩:=S1.live r (List.mem_cons_of_mem _ z);rw[hr0] at el;cases el
     ·exact nrl (List.mem_singleton.mp z)
  by_cases hbs:bs=[]
  ·subst hbs;have hz0:zs=[]:=List.eq_nil_of_length_eq_zero hzl;subst hz0;refine⟨_,rfl,a,dx,_,rfl,x1,rfl,_,rfl,a,C,dx,_,_,rfl,x1,c_Stream.cls,c_Stream.n3,rfl,false,.inl ⟨_,SqL.of hB1,rfl⟩,Zbu ?_⟩;refine⟨_,rfl,a,dk,Bl,ls,kn,[],n+1,some 0,t,rfl,S1,by decide,ok,fin⟩
  ·obtain⟨bs',b,e⟩:=ZdC hbs;subst e;obtain⟨zs2,y1,y2⟩:=S1.hb;rw[hB1] at y1;injection y1 with y1;injection y1 with y1;subst y1;obtain⟨zs',z,ls',l,rfl,rfl,h6,h7⟩:=y2.unsnoc;obtain⟨tb,rfl,g1,g2⟩:=h7;refine⟨_,rfl,a,dx,_,rfl,x1,rfl,_,rfl,a,C,dx,_,_,rfl,x1,c_Stream.cls,c_Stream.n3,rfl,true,.inl ⟨_,SqL.of hB1,by simp⟩,Zci ?_⟩;have em:ZcT (bs' ++ [b])=b.1:=by
    unfold ZcT;rw[List.getLast?_concat]
   refine⟨_,rfl,a,C,dx,_,_,rfl,x1,c_Stream.cls,c_Stream.n3,rfl,1,rfl,Bl,_,-1,_,rfl,rfl,SqL.of hB1,ZbE _ _,tb,_,0,_,rfl,rfl,SqT.of g1,rfl,?_⟩;exact⟨_,rfl,a,dk,Bl,_,kn,_,n+1,b.1,t,rfl,S1,hbl,ok,by rw[em] at fin;exact fin⟩
def Zdv(K:PySem.W.Frag):Sp:=fun vs H Q _=>∃(a:Addr)(ns:List Int)(k:Int),vs=[.ref a,.int k]/\SqL K H a (ns.map V.int)/\ns.length<=63/\0<=k/\k<=1000/\∀v:Int,Q (.int v) H
theorem Zh2(B:∀x∈ZbJ,mg x=none)(F:Fun K "_law_cell" "_law_cell" ZbV f fd):FnOk P w K mg base CX0 1 f fd ["_law_script","_law_k"] (Zdv K):=by
 refine F.ok ZdK (fun vs H Q E h=>?_) (fun cdv A outer s H vs Q E hr h=>?_)
 ·obtain⟨a,ns,k,rfl,_⟩:=h;rfl
 obtain⟨a,ns,k,rfl,hS,h63,h0,hk,q⟩:=h;refine⟨_,(Zc (ZaL (ZQ Zjp (pv 1) (ZF Z3 rfl (B "len" (by decide)) PySem.boot_len (Za (pv 0) Zf)) (Z2 _))
   (Zj (ZC (Zae Zaa (pv 0) (pv 1) (fun _ _=>rfl))))
   ZM)
  (Zc (Zt (i:=2) ZdK.nd rfl (Or.inl rfl) (Zr ZaZ (Zr ZcQ (pv 1) Zg) Zg))
  (Zc (ZaL (ZQ ZiS (ZF Z3 rfl (B "len" (by decide)) PySem.boot_len (Za (pv 0) Zf)) Zg (Z2 _))
   (Zj (Zt (i:=2) ZdK.nd rfl (Or.inl rfl) (Zr ZV (Zr ZaZ (Zr ZcQ (Zae Zaa (pv 0) (Zr ZV (Zr ZcQ (pv 1) Zg) (ZF Z3 rfl (B "len" (by decide)) PySem.boot_len (Za (pv 0) Zf))) (fun _ _=>rfl)) Zg) (Zr ZcQ (pv 1) Zg)) Zg)))
   ZM)
  (Zj (ZC (Zr ZV (Zr ZcQ (pv 2) (pv 2)) Zg)))))),?_⟩
 refine⟨_,rfl,_,rfl,a,_,rfl,.inl hS,_,_,rfl,rfl,_,rfl,ZbX (fun c=>?_) (fun c=>?_)⟩
 ·have c':=of_decide_eq_true c;rw[List.length_map] at c';obtain⟨v,hv⟩:=ZhX (ns:=ns) h0 c';exact⟨_,rfl,_,rfl,a,_,k,_,rfl,rfl,hS,hv,q _⟩
 ·refine⟨_,rfl,_,_,rfl,rfl,.inl ⟨by lia,by lia⟩,_,_,rfl,rfl,?_⟩;refine⟨_,rfl,a,_,rfl,.inl hS,_,_,rfl,rfl,_,rfl,ZbX (fun c2=>?_) (fun c2=>?_)⟩
  ·have c2':(0:Int)<((ns.map V.int).length:Nat):=of_decide_eq_true c2;obtain⟨v,hv⟩:=ZhX (ns:=ns) (Int.emod_nonneg (k*13) (Int.ne_of_gt c2')) (by have:=Int.emod_lt_of_pos (k*13) c2';rw[List.length_map] at this ⊢;exact this);have m1:=Int.emod_nonneg (v*40692+k*907) (by decide:(2147483399:Int)≠0);have m2:=Int.emod_lt_of_pos (v*40692+k*907) (by decide:(0:Int)<2147483399);refine⟨_,rfl,_,rfl,_,_,rfl,rfl,.inl ⟨by lia,by lia⟩,_,rfl,a,_,rfl,.inl hS,_,_,rfl,rfl,c2',a,_,_,_,rfl,rfl,hS,hv,_,_,rfl,rfl,.inr ⟨by decide,by decide⟩,_,rfl,_,_,rfl,rfl,.inl ⟨by lia,by lia⟩,_,_,rfl,rfl,_,_,rfl,rfl,(by show(0:Int)<2147483399;decide),?_⟩;exact⟨_,rfl,_,rfl,_,_,rfl,rfl,.inl ⟨by lia,by lia⟩,_,_,rfl,rfl,(by show(0:Int)<2147483353;decide),q _⟩
  ·exact⟨_,rfl,_,rfl,_,_,rfl,rfl,.inl ⟨by lia,by lia⟩,_,_,rfl,rfl,(by show(0:Int)<2147483353;decide),q _⟩
def ZfI:Sp:=fun vs H Q _=>∃c:Int,vs=[.int c]/\0<=c/\c<1000000000/\∀(r:Addr)(ts:List Str)(H':Hp),Zk H H'->H r=none->H' r=some (.lst (ts.map V.str))->ts.length=3->(∀t∈ts,ZdQ t/\t.length<=8)->Q (.ref r) H'
def Zb0(c:Nat):Str:=⟨#[c]⟩
theorem Zhs:∀l:List Nat,jn "" (l.map Zb0)=l
 | []=>rfl
 | [c]=>rfl
 | c::d::r=>by
  show cs (Zb0 c)++(cs "" ++ jn "" ((d::r).map Zb0))=_;rw[Zhs (d::r)];rfl
theorem join_ones(l:List Nat):(Txt.join "" (l.map Zb0)).cps.toList=l:=by
 have:=Zkz "" (l.map Zb0);rw[Zhs] at this;exact this
theorem Zfa{l:List Nat}(h0:l ≠ [])(hl:∀c∈l,97<=c/\c<=122):ZdQ (Txt.join "" (l.map Zb0))/\(Txt.join "" (l.map Zb0)).length=l.length:=by
 have e:=join_ones l;refine⟨⟨by rw[e];exact h0,fun c hc=>?_⟩,?_⟩
 ·rw[e] at hc;exact hl c hc
 ·have:=congrArg List.length e;rw[Array.length_toList] at this;exact this
theorem Zew:∀l:List Nat,((l.map Zb0).map (·.length)).sum=l.length
 | []=>rfl
 | c::l=>by
  rw[List.map_cons,List.map_cons,List.sum_cons,Zew l,List.length_cons];show 1+_=_;lia
set_option maxHeartbeats 4000000 in
theorem Zik(B:∀x∈ZbJ,mg x=none)(F:Fun K "_law_tags" "_law_tags" Zal f fd):FnOk P w K mg base CX0 1 f fd ["_law_cell_here"] ZfI:=by
 refine F.ok Za9 (fun vs H Q E h=>?_) (fun cdv A outer s H vs Q E hr h=>?_)
 ·obtain⟨c,rfl,_⟩:=h;rfl
 obtain⟨c,rfl,c0,c9,q⟩:=h;refine Zq ((Ze Zal).drop 6) (Zj (ZC (pv 3))) (fun u6 h6 e6=>?_);refine Zq ((Ze Zal).drop 5) (Zc (ZaL (ZQ Zb2 (Zr ZV (Zr Zat (pv 0) Zg) Zg) Zg (Z2 _))
   (Zj (ZC (ZaH (Za (Zae Zaa (pv 3) Zg (fun _ _=>rfl)) (Za (Zae Zaa (pv 3) Zg (fun _ _=>rfl)) (Za (Zae Zaa (pv 3) Zg (fun _ _=>rfl)) Zf))))))
   ZM) h6) (fun u5 h5 e5=>?_)
 refine Zq ((Ze Zal).drop 4) (Zc (ZaL (PW.pt (Zb5 (ZQ Zb2 (Zr ZV (Zr Zat (pv 0) Zg) Zg) Zg (Z2 _)) (ZbA (ZQ Zjp (ZF Z3 rfl (B "len" (by decide)) PySem.boot_len (Za (pv 2) Zf)) Zg (Z2 _)))))
   (Zj (Zh6 (Zr Zd6 (Zae Zaa (pv 3) Zg (fun _ _=>rfl)) (Zae ZhU (pv 1) (Zr ZV (Zr Zat (pv 0) Zg) Zg) (fun _ _=>rfl))) (ZiG (pv 3) Zg set_list)))
   ZM) h5) (fun u4 h4 e4=>?_)
 refine Zq ((Zab ((Ze Zal).getD 3 (.Pass ⟨0,0,0,0⟩))).drop 4) (Zj (Zau (Zbp PySem.F.plainAttrs_list PySem.F.slot_list_append PySem.F.type_list_append ZR (pv 3) (Za (Zbp PySem.F.plainAttrs_str PySem.F.slot_str_join PySem.F.type_str_join Zht Za0 (Za (pv 5) Zf)) Zf)))) (fun u3_4 h3_4 e3_4=>?_);refine Zq ((Zab ((Ze Zal).getD 3 (.Pass ⟨0,0,0,0⟩))).drop 3) (Zc (Zh6 (Zae ZhU (pv 1) (Zr ZV (pv 7) Zg) (fun _ _=>rfl)) (ZiG (pv 5) (pv 6) set_list)) h3_4) (fun u3_3 h3_3 e3_3=>?_);refine Zq ((Zab ((Ze Zal).getD 3 (.Pass ⟨0,0,0,0⟩))).drop 2) (Zc (Zt (i:=7) Za9.nd rfl (Or.inl rfl) (Zr ZaZ (Zr ZaZ (Zbp PySem.F.plainAttrs_str PySem.F.slot_str_index PySem.F.type_str_index Zip (pv 1) (Za (Zae Zaa (pv 2) (pv 6) (fun _ _=>rfl)) Zf)) Zg) (Zr ZV (Zr Zat (pv 0) Zg) Zg))) h3_3) (fun u3_2 h3_2 e3_2=>?_);refine Zq ((Zab ((Ze Zal).getD 3 (.Pass ⟨0,0,0,0⟩))).drop 1) (Zc (Zt (i:=6) Za9.nd rfl (Or.inl rfl) (Zr ZV (Zr ZaZ (Zr Zat (pv 0) Zg) (pv 4)) (ZF Z3 rfl (B "len" (by decide)) PySem.boot_len (Za (pv 2) Zf)))) h3_2) (fun u3_1 h3_1 e3_1=>?_);refine Zq ((Zab ((Ze Zal).getD 3 (.Pass ⟨0,0,0,0⟩))).drop 0) (Zc (Zt (i:=5) Za9.nd rfl (Or.inl rfl) (Zay ZcN rfl (B "list" (by decide)) Zf4 (Za (pv 2) Zf))) h3_1) (fun u3_0 h3_0 e3_0=>?_);refine Zq ((Ze Zal).drop 3) (Zc (Zbc PassesOwn.never rfl (ZaW rfl (B "range" (by decide)) (Za Zg Zf)) (Zu (i:=4) Za9.nd rfl (Or.inl rfl))
   h3_0) h4) (fun u3 h3 e3=>?_)
 refine Zq ((Ze Zal).drop 2) (Zc (Zt (i:=3) Za9.nd rfl (Or.inl rfl) (ZaH (Za (Zbp PySem.F.plainAttrs_str PySem.F.slot_str_join PySem.F.type_str_join Zht Za0 (Za (pv 2) Zf)) Zf))) h3) (fun u2 h2 e2=>?_);refine Zq ((Ze Zal).drop 1) (Zc (ZfL (cl:=_) (n0:=2) Za9.nd rfl (Or.inl rfl) ["_law_k"] [("_law_cell_here",0),("_law_letters",1)] (ZaW rfl (B "range" (by decide)) (Za (Zr ZaZ Zg (Zr ZV (pv 0) Zg)) Zf)) (fun _ _ _ _=>(Zu (i:=0) (show List.Nodup (["_law_k","_law_cell_here","_law_letters"]:List Str) by decide) rfl (Or.inl rfl))) (fun _ _ _ _=>(Zae ZhU (pv 2) (Zr ZV (Zr ZaZ (Zr Zat (pv 1) Zg) (Zr ZcQ (Zr ZcQ Zg (pv 0)) (pv 0))) Zg) (fun _ _=>rfl))) rfl rfl (by decide) rfl (by decide) (Zeb (by(repeat' first|exact List.forall_mem_nil _|refine List.forall_mem_cons.mpr ⟨?_,?_⟩) <;> rfl)) (Zcv (by(repeat' first|exact List.forall_mem_nil _|refine List.forall_mem_cons.mpr ⟨?_,?_⟩) <;> first|(intro h;exact⟨_,rfl⟩)|(intro h;exact absurd h (by decide)))) (fun _=>by(repeat' first|exact List.forall_mem_nil _|refine List.forall_mem_cons.mpr ⟨?_,?_⟩) <;> exact⟨rfl,rfl,Or.inl rfl⟩) (fun _=>rfl) rfl) h2) (fun u1 h1 e1=>?_)
 refine Zq ((Ze Zal).drop 0) (Zc (Zt (i:=1) Za9.nd rfl (Or.inr rfl) Za0) h1) (fun u0 h0 e0=>?_);refine⟨u0,h0,?_⟩;have m7:=Int.emod_nonneg c (by decide:(7:Int)≠0);have m7':=Int.emod_lt_of_pos c (by decide:(0:Int)<7);refine Zo e0 ?_;refine Zo e1 ?_;refine⟨_,rfl,_,_,rfl,rfl,(by show(0:Int)<7;decide),_,_,rfl,rfl,_,rfl,by lia,by lia,fun pb hpb=>?_⟩;refine Zg6 (lo:=0) (n:=(2+c % 7).toNat) (p:=pb) (fun i ys σ H2=>∃(v0:Option V)(l:List Nat),σ =[v0,some (.int c),some (.str ABC)]/\Zk H H2/\H2 pb=some (.lst ys)/\ys=(l.map Zb0).map V.str/\l.length=i/\∀x∈l,97<=x/\x<=122)
  ⟨none,[],rfl,Zk.new hpb,Zb,rfl,rfl,fun _ h=>(nomatch h)⟩ ?_ ?_ ?_
 ·rintro i ys σ H2 _ ⟨v0,l,_,_,h,_⟩;exact h
 ·rintro i ys σ H2 hi ⟨v0,l,rfl,sm,hp,rfl,hll,hls⟩;obtain⟨ch,hc,c1,c2⟩:=ZhJ (i:=(c / 21+3*(0+(i:Int))*(0+(i:Int))) % 26) (Int.emod_nonneg _ (by decide)) (Int.emod_lt_of_pos _ (by decide));have hi9:i<10:=by lia
  refine⟨_,rfl,_,rfl,_,_,rfl,rfl,⟨by decide,by decide⟩,_,rfl,_,_,rfl,rfl,.inl ⟨by decide,by decide⟩,_,rfl,_,_,rfl,rfl,.inl ⟨by lia,by lia⟩,_,_,rfl,rfl,_,_,rfl,rfl,(by show(0:Int)<26;decide),_,_,ch,rfl,rfl,(by decide),hc,hp,Zn (by rw[List.length_map,List.length_map];lia),CW.next hi ⟨_,l ++ [ch],rfl,sm.upd_new hpb,Zb,by rw[List.map_append,List.map_append];rfl,by rw[List.length_append,List.length_singleton];lia,fun x hx=>?_⟩⟩
  rcases List.mem_append.mp hx with hx|hx
  ·exact hls x hx
  ·rw[List.mem_singleton.mp hx];exact⟨c1,c2⟩
 rintro ys σ H2 ⟨v0,l,rfl,s2,hp,rfl,hll,hls⟩;have hl9:l.length<=8:=by lia
 have hl0:l ≠ []:=fun z=>by rw[z,List.length_nil] at hll;lia
 obtain⟨j1,j2⟩:=Zfa hl0 hls;refine Zo e2 ?_;refine⟨rfl,_,rfl,_,pb,l.map Zb0,rfl,rfl,SqL.of hp,by rw[Zew,List.length_map];show _+_*0<=_;lia,(by show 1<=sizeLine;decide),fun T hT=>?_⟩;have hT2:(upd H2 T (.lst [.str (Txt.join "" (l.map Zb0))])) T=some (.lst ([Txt.join "" (l.map Zb0)].map V.str)):=Zb;have s3:Zk H2 (upd H2 T (.lst [.str (Txt.join "" (l.map Zb0))])):=Zk.new hT;have hT0:H T=none:=s2.free hT;have good1:∀t ∈ [Txt.join "" (l.map Zb0)],ZdQ t/\t.length<=8:=fun t ht=>by
  rw[List.mem_singleton.mp ht,j2];exact⟨j1,hl9⟩
 show u3 _ _ _;have hp3:=s3 _ _ hp;have s23:=s2.trans s3;generalize upd H2 T (.lst [.str (Txt.join "" (l.map Zb0))])=H3 at hT2 s3 hp3 s23 ⊢;have lp:(0:Int)<(((l.map Zb0).map V.str).length:Nat):=by
  rw[List.length_map,List.length_map];lia
 refine Zo e3 ?_;refine⟨2,rfl,by decide,by decide,Zbx (lo:=0) (n:=2) (fun i σ H4=>∃(v4 v5 v6 v7:Option V)(ts:List Str),σ =[some (.int c),some (.str ABC),some (.ref pb),some (.ref T),v4,v5,v6,v7]/\Zk H H4/\H4 pb=some (.lst ((l.map Zb0).map V.str))/\H4 T=some (.lst (ts.map V.str))/\ts.length=i+1/\ts[0]?= some (Txt.join "" (l.map Zb0))/\∀t∈ts,ZdQ t/\t.length<=8)
  ⟨_,_,_,_,_,rfl,s23,hp3,hT2,rfl,rfl,good1⟩ ?_ ?_⟩
 ·rintro i σ H4 hi ⟨v4,v5,v6,v7,ts,rfl,s4,hp4,hT4,htl,ht0,hts⟩;refine Zo e3_0 ?_;refine⟨_,rfl,pb,_,rfl,.inl (SqL.of hp4),fun ot hot=>?_⟩;have s5:Zk H4 (upd H4 ot (.lst ((l.map Zb0).map V.str))):=Zk.new hot;have ho5:(upd H4 ot (.lst ((l.map Zb0).map V.str))) ot=some (.lst ((l.map Zb0).map V.str)):=Zb;have not:ot≠T:=(Zi hT4 hot).symm;have hp5:=s5 _ _ hp4;refine Zo e3_1 ?_;refine⟨_,rfl,_,_,rfl,rfl,⟨by decide,by decide⟩,_,rfl,_,_,rfl,rfl,_,rfl,pb,_,rfl,.inl (SqL.of hp5),_,_,rfl,rfl,lp,?_⟩;obtain⟨k,hk,hkl⟩:=Zkr (c / 8+(0+(i:Int))) (n:=((l.map Zb0).map V.str).length) (by lia);show ZfB 6 (V.int ((c / 8+(0+(i:Int))) % (((l.map Zb0).map V.str).length:Nat))) _ _ _;rw[hk];rw[List.length_map,List.length_map] at hkl;have hatk:atI ((l.map Zb0).map V.str) (k:Int)=some (.str (Zb0 l[k])):=Zde (by rw[List.getElem?_map,List.getElem?_map,List.getElem?_eq_getElem hkl];rfl);obtain⟨a1,a2⟩:=hls _ (List.getElem_mem hkl);refine Zo e3_2 ?_;refine⟨_,rfl,rfl,_,rfl,_,rfl,pb,_,_,_,rfl,rfl,SqL.of hp5,hatk,l[k],rfl,rfl,a1,a2,fun jx=>?_⟩;refine⟨_,_,rfl,rfl,_,rfl,_,_,rfl,rfl,⟨by decide,by decide⟩,_,_,rfl,rfl,(by show(0:Int)<25;decide),_,_,rfl,rfl,?_⟩;obtain⟨ch,hc,c1,c2⟩:=ZhJ (i:=((jx:Int)+1+c / 64 % 25) % 26) (Int.emod_nonneg _ (by decide)) (Int.emod_lt_of_pos _ (by decide));refine Zo e3_3 ?_;refine⟨_,rfl,_,rfl,_,_,rfl,rfl,(by show(0:Int)<26;decide),_,_,ch,rfl,rfl,(by decide),hc,_,rfl,_,rfl,ot,_,_,k,rfl,rfl,ho5,ZjD (by rw[List.length_map,List.length_map];exact hkl),?_⟩;have eset:((l.map Zb0).map V.str).set k (.str ⟨#[ch]⟩)=((l.set k ch).map Zb0).map V.str:=by
   rw[List.map_set,List.map_set];rfl
  rw[eset];have hT6:(upd (upd H4 ot (.lst ((l.map Zb0).map V.str))) ot (.lst (((l.set k ch).map Zb0).map V.str))) T=some (.lst (ts.map V.str)):=by
   rw[Zd not.symm,Zd not.symm];exact hT4
  have hl2:(l.set k ch) ≠ []:=fun z=>by
   have:=congrArg List.length z;rw[List.length_set,List.length_nil] at this;exact hl0 (List.eq_nil_of_length_eq_zero this)
  obtain⟨y1,y2⟩:=Zfa hl2 fun x hx=>by
   rcases List.mem_or_eq_of_mem_set hx with hx|hx
   ·exact hls x hx
   ·rw[hx];exact⟨c1,c2⟩
  rw[List.length_set] at y2;refine Zo e3_4 ?_;refine⟨_,rfl,.inl ⟨rfl,_,SqL.of hT6⟩,rfl,_,rfl,_,ot,(l.set k ch).map Zb0,rfl,rfl,SqL.of Zb,by rw[Zew,List.length_map,List.length_set];show _+_*0<=_;lia,T,_,_,rfl,rfl,hT6,Zn (by rw[List.length_map];lia),?_⟩;have hot0:H ot=none:=s4.free hot;refine⟨_,_,_,_,ts ++ [Txt.join "" ((l.set k ch).map Zb0)],rfl,((s4.trans s5).upd_new hot0).upd_new hT0,?_,?_,?_,?_,?_⟩
  ·rw[Zd (Zi hp hT),Zd (Zi hp4 hot)];exact hp5
  ·rw[Zb,List.map_append];rfl
  ·rw[List.length_append,List.length_singleton,htl]
  ·rw[List.getElem?_append_left (by lia)];exact ht0
  ·intro t ht;rcases List.mem_append.mp ht with ht|ht
   ·exact hts t ht
   ·rw[List.mem_singleton.mp ht,y2];exact⟨y1,hl9⟩
 rintro σ H4 ⟨v4,v5,v6,v7,ts,rfl,s4,hp4,hT4,htl,ht0,hts⟩;have hlb:(((l.map Zb0).map V.str).length:Int)=(l.length:Int):=by rw[List.length_map,List.length_map]
 show u4 _ _ _;refine via (t:=u5) (R:=fun σ H5=>∃(ts:List Str),σ =[some (.int c),some (.str ABC),some (.ref pb),some (.ref T),v4,v5,v6,v7]/\Zk H H5/\H5 T=some (.lst (ts.map V.str))/\ts.length=3/\∀t∈ts,ZdQ t/\t.length<=8) ?_ fun fin=>?_
 ·rintro σ H5 ⟨ts,rfl,s5,hT5,htl,hts⟩;obtain⟨t0,t1,t2,rfl⟩:∃t0 t1 t2,ts=[t0,t1,t2]:=by
   match ts,htl with
   | [a,b,c],_=>exact⟨a,b,c,rfl⟩
  refine Zo e5 ?_;refine⟨_,rfl,_,_,rfl,rfl,⟨by decide,by decide⟩,_,_,rfl,rfl,(by show(0:Int)<2;decide),rfl,_,rfl,ZbX (fun cc=>?_) (fun cc=>?_)⟩
  ·refine⟨_,rfl,T,_,1,_,rfl,rfl,SqL.of hT5,rfl,_,rfl,T,_,0,_,rfl,rfl,SqL.of hT5,rfl,_,rfl,T,_,2,_,rfl,rfl,SqL.of hT5,rfl,(by show 3<=sizeLine;decide),fun r hr=>?_⟩;refine q r [t1,t0,t2] _ (s5.upd_new (s5.free hr)) (s5.free hr) Zb rfl fun t ht=>hts t ?_;simp only[List.mem_cons,List.not_mem_nil,or_false] at ht ⊢;rcases ht with h|h|h
   ·exact .inr (.inl h)
   ·exact .inl h
   ·exact .inr (.inr h)
  ·refine Zo e6 ?_;exact⟨_,rfl,q T [t0,t1,t2] H5 s5 hT0 hT5 rfl hts⟩
 ·refine Zo e4 ?_;refine⟨_,rfl,_,_,rfl,rfl,⟨by decide,by decide⟩,_,_,rfl,rfl,(by show(0:Int)<3;decide),rfl,_,rfl,ZbX (fun cc=>?_) (fun cc=>Zbu (fin _ _ ⟨ts,rfl,s4,hT4,htl,hts⟩))⟩;refine⟨_,rfl,pb,_,rfl,.inl (SqL.of hp4),_,_,rfl,rfl,_,rfl,ZbX (fun c2=>?_) (fun c2=>fin _ _ ⟨ts,rfl,s4,hT4,htl,hts⟩)⟩;have c2':=of_decide_eq_true c2;rw[hlb] at c2';obtain⟨ch,hc,b1,b2⟩:=ZhJ (i:=c / 4096 % 26) (Int.emod_nonneg _ (by decide)) (Int.emod_lt_of_pos _ (by decide));have hat0:atI (ts.map V.str) 0=some (.str (Txt.join "" (l.map Zb0))):=Zde (j:=0) (by rw[List.getElem?_map,ht0];rfl);have h1:(⟨#[ch]⟩:Str).length=1:=rfl;refine⟨_,rfl,T,_,0,_,rfl,rfl,SqL.of hT4,hat0,_,rfl,_,rfl,_,_,rfl,rfl,⟨by decide,by decide⟩,_,_,rfl,rfl,(by show(0:Int)<26;decide),_,_,ch,rfl,rfl,(by decide),hc,_,_,rfl,rfl,by rw[h1];exact Zca (by lia),_,rfl,T,_,_,1,rfl,rfl,hT4,ZjD (n:=(ts.map V.str).length) (k:=1) (by rw[List.length_map];lia),?_⟩;refine fin _ _ ⟨ts.set 1 (Txt.join "" (l.map Zb0)++⟨#[ch]⟩),rfl,s4.upd_new hT0,by rw[Zb,List.map_set],by rw[List.length_set,htl],fun t ht=>?_⟩;rcases List.mem_or_eq_of_mem_set ht with ht|rfl
  ·exact hts t ht
  ·exact⟨Zk0 j1 (ZiT b1 b2).let0,by rw[Zkh,h1,j2];lia⟩
structure PgS(H H1:Hp)(R T:Addr)(as:List Addr)(gs:List Pa)(ts:List Str):Prop where
 sm:Zk H H1
 hT:H1 T=some (.lst ((ts.map V.str).reverse))
 hR:H1 R=some (.lst ((as.map V.ref).reverse))
 rows:Paired (fun a g=>∃xs,H1 a=some (.lst xs)/\RepP H1 xs g) as gs
 nd:(R::T::as).Nodup
 fr:∀b∈R::T::as,H b=none
 gl:gs.length=ts.length+1
def ZeM:Sp:=fun vs H Q _=>∃(c md:Int)(tg:Addr)(ts:List Str),vs=[.int c,.ref tg,.int md]/\0<=c/\0<md/\md<100/\H tg=some (.lst (ts.map V.str))/\ts.length=3/\∀(r:Addr)(xs:List V)(p:Pa)(H':Hp),Zk H H'->H' r=some (.tup xs)->RepP H' xs p->p.nk<=1->p.sz<=6->(∀x∈p.tags,x∈ts)->Q (.ref r) H'
section
variable{H H1:Hp}{R T:Addr}{as:List Addr}{gs:List Pa}{ts:List Str}
theorem Zdx{H1:Hp}:∀{as:List Addr}{gs:List Pa},Paired (fun a g=>∃xs,H1 a=some (.lst xs)/\RepP H1 xs g) as gs->∀b∈as,∃o,H1 b=some o
 | _,_,.cons ⟨xs,h,_⟩ t,b,hb=>by
  rcases List.mem_cons.mp hb with rfl|hb
  ·exact⟨_,h⟩
  ·exact Zdx t b hb
theorem ZbT{H1 H2:Hp}(k:TK H1 H2):∀{as:List Addr}{gs:List Pa},Paired (fun a g=>∃xs,H1 a=some (.lst xs)/\RepP H1 xs g) as gs->(∀b∈as,∀o,H1 b=some o->H2 b=some o)->Paired (fun a g=>∃xs,H2 a=some (.lst xs)/\RepP H2 xs g) as gs
 | _,_,.nil,_=>.nil
 | _,_,.cons ⟨xs,h,r⟩ t,kb=>.cons ⟨xs,kb _ (List.mem_cons_self ..) _ h,r.mono k⟩ (ZbT k t fun b hb=>kb b (List.mem_cons_of_mem _ hb))
theorem PgS.nR(h:PgS H H1 R T as gs ts):∀b∈as,b≠R:=fun b hb e=>(List.nodup_cons.mp h.nd).1 (by rw[<- e];exact List.mem_cons_of_mem _ hb)
theorem PgS.nT(h:PgS H H1 R T as gs ts):∀b∈as,b≠T:=fun b hb e=>(List.nodup_cons.mp (List.nodup_cons.mp h.nd).2).1 (by rw[<- e];exact hb)
theorem PgS.RT(h:PgS H H1 R T as gs ts):R≠T:=fun e=>(List.nodup_cons.mp h.nd).1 (by rw[e];exact List.mem_cons_self ..)
theorem PgS.start{a0 R T:Addr}(h0:H a0=none)(hR:(upd H a0 (.lst [])) R=none)(hT:(upd (upd H a0 (.lst [])) R (.lst [.ref a0])) T=none):PgS H (upd (upd (upd H a0 (.lst [])) R (.lst [.ref a0])) T (.lst [])) R T [a0] [.nil] []:=by
 obtain⟨nR0,hR'⟩:=Zm hR;obtain⟨nTR,hT2⟩:=Zm hT;obtain⟨nT0,hT'⟩:=Zm hT2;refine⟨((Zk.new h0).upd_new hR').upd_new hT',Zb,?_,.cons ⟨[],?_,.nil⟩ .nil,?_,?_,rfl⟩
 ·rw[Zd nTR.symm];exact Zb
 ·rw[Zd nT0.symm,Zd nR0.symm];exact Zb
 ·simp[nTR.symm,nR0,nT0]
 ·intro b hb;simp only[List.mem_cons,List.not_mem_nil,or_false] at hb;rcases hb with rfl|rfl|rfl
  ·exact hR'
  ·exact hT'
  ·exact h0
theorem PgS.opened{wd:Str}{l:Addr}(h:PgS H H1 R T as gs ts)(hl:(upd H1 T (.lst ((ts.map V.str).reverse ++ [.str wd]))) l=none):PgS H (upd (upd (upd H1 T (.lst ((ts.map V.str).reverse ++ [.str wd]))) l (.lst [])) R (.lst ((as.map V.ref).reverse ++ [.ref l]))) R T (l::as) (.nil::gs) (wd::ts):=by
 obtain⟨nlT,hl1⟩:=Zm hl;have nlR:R≠l:=Zi h.hR hl1;have hRT:=h.RT;have hRb:(upd (upd H1 T (.lst ((ts.map V.str).reverse ++ [.str wd]))) l (.lst [])) R=some (.lst (as.map V.ref).reverse):=by
  rw[Zd nlR,Zd hRT];exact h.hR
 have tk:TK H1 (upd (upd (upd H1 T (.lst ((ts.map V.str).reverse ++ [.str wd]))) l (.lst [])) R (.lst ((as.map V.ref).reverse ++ [.ref l]))):=((TK.lst h.hT).trans (TK.new hl)).trans (TK.lst hRb);have nla:l∉as:=fun hb=>by
  obtain⟨o,ho⟩:=Zdx h.rows l hb;rw[hl1] at ho;cases ho
 obtain⟨ndR,ndT⟩:=List.nodup_cons.mp h.nd;obtain⟨ndT',ndA⟩:=List.nodup_cons.mp ndT;refine⟨((h.sm.upd_new (h.fr T (by simp))).upd_new (h.sm.free hl1)).upd_new (h.fr R (by simp)),?_,?_,.cons ⟨[],?_,.nil⟩ (ZbT tk h.rows fun b hb o ho=>?_),?_,?_,by rw[List.length_cons,List.length_cons,h.gl]⟩
 ·rw[Zd hRT.symm,Zd nlT.symm,Zb,List.map_cons,List.reverse_cons]
 ·rw[Zb,List.map_cons,List.reverse_cons]
 ·rw[Zd nlR.symm];exact Zb
 ·rw[Zd (h.nR b hb),Zd (Zi ho hl1),Zd (h.nT b hb)];exact ho
 ·refine List.nodup_cons.mpr ⟨fun h=>?_,List.nodup_cons.mpr ⟨fun h=>?_,List.nodup_cons.mpr ⟨nla,ndA⟩⟩⟩
  ·rcases List.mem_cons.mp h with h|h
   ·exact hRT h
   ·rcases List.mem_cons.mp h with h|h
    ·exact nlR h
    ·exact ndR (List.mem_cons_of_mem _ h)
  ·rcases List.mem_cons.mp h with h|h
   ·exact nlT h.symm
   ·exact ndT' h
 ·intro b hb;simp only[List.mem_cons] at hb;rcases hb with rfl|rfl|rfl|hb
  ·exact h.fr _ (by simp)
  ·exact h.fr _ (by simp)
  ·exact h.sm.free hl1
  ·exact h.fr b (by simp[hb])
theorem PgS.put{b0 pt:Addr}{g0 q:Pa}{vs:List V}{a1:List Addr}{g1:List Pa}(h:PgS H H1 R T (b0::a1) (g0::g1) ts)(h0:H1 b0=some (.lst vs))(r0:RepP H1 vs g0)(s:Zk H1 H2)(hq:RepP (upd H2 b0 (.lst (vs ++ [.ref pt]))) [.ref pt] q):PgS H (upd H2 b0 (.lst (vs ++ [.ref pt]))) R T (b0::a1) (g0.app q::g1) ts:=by
 have tk:TK H1 (upd H2 b0 (.lst (vs ++ [.ref pt]))):=s.tk.trans (TK.lst (s _ _ h0));have nb:∀b∈a1,b≠b0:=fun b hb e=>(List.nodup_cons.mp (List.nodup_cons.mp (List.nodup_cons.mp h.nd).2).2).1 (by rw[<- e];exact hb);have hrows:=h.rows;cases hrows with
 | cons r t =>
  refine⟨(h.sm.trans s).upd_new (h.fr b0 (by simp)),?_,?_,.cons ⟨_,Zb,(r0.mono tk).app hq⟩ (ZbT tk t fun b hb o ho=>?_),h.nd,h.fr,h.gl⟩
  ·rw[Zd (h.nT b0 (List.mem_cons_self ..)).symm];exact s _ _ h.hT
  ·rw[Zd (h.nR b0 (List.mem_cons_self ..)).symm];exact s _ _ h.hR
  ·rw[Zd (nb b hb)];exact s _ _ ho
theorem PgS.two(h:PgS H H1 R T as gs (t::ts)):∃b0 b1 a2 g0 g1 g2 vs0 vs1,as=b0::b1::a2/\gs=g0::g1::g2/\H1 b0=some (.lst vs0)/\RepP H1 vs0 g0/\H1 b1=some (.lst vs1)/\RepP H1 vs1 g1/\H1 R=some (.lst (((b1::a2).map V.ref).reverse ++ [.ref b0]))/\H1 T=some (.lst ((ts.map V.str).reverse ++ [.str t])):=by
 have hgl:=h.gl;have hR:=h.hR;have hT:=h.hT;have hrows:=h.rows;cases gs with
 | nil=>simp at hgl
 | cons g0 gs =>
  cases gs with
  | nil=>simp at hgl
  | cons g1 gs =>
   cases hrows with
   | @cons b0 _ as _ r0 hrows =>
    cases hrows with
    | @cons b1 _ as _ r1 hrows =>
     obtain⟨vs0,h00,r00⟩:=r0;obtain⟨vs1,h11,r11⟩:=r1;refine⟨b0,b1,as,g0,g1,gs,vs0,vs1,rfl,rfl,h00,r00,h11,r11,?_,?_⟩
     ·rw[hR,List.map_cons,List.reverse_cons]
     ·rw[hT,List.map_cons,List.reverse_cons]
theorem PgS.popped{b0:Addr}{g0:Pa}{a1:List Addr}{g1:List Pa}{t:Str}{l:Addr}{vs0:List V}(h:PgS H H1 R T (b0::a1) (g0::g1) (t::ts))(hl:(upd H1 R (.lst ((a1.map V.ref).reverse))) l=none):PgS H (upd (upd (upd H1 R (.lst ((a1.map V.ref).reverse))) l (.tup vs0)) T (.lst ((ts.map V.str).reverse))) R T a1 g1 ts:=by
 obtain⟨nlR,hl1⟩:=Zm hl;have hRT:=h.RT;have nlT:T≠l:=Zi h.hT hl1;have hTb:(upd (upd H1 R (.lst ((a1.map V.ref).reverse))) l (.tup vs0)) T=some (.lst (((t::ts).map V.str).reverse)):=by
  rw[Zd nlT,Zd hRT.symm];exact h.hT
 have tk:TK H1 (upd (upd (upd H1 R (.lst ((a1.map V.ref).reverse))) l (.tup vs0)) T (.lst ((ts.map V.str).reverse))):=((TK.lst h.hR).trans (TK.new hl)).trans (TK.lst hTb);have hgl:=h.gl;have hrows:=h.rows;have nRs:=h.nR;have nTs:=h.nT;cases hrows with
 | cons r rt =>
  obtain⟨ndR,ndT⟩:=List.nodup_cons.mp h.nd;obtain⟨ndT',ndA⟩:=List.nodup_cons.mp ndT;refine⟨((h.sm.upd_new (h.fr R (by simp))).upd_new (h.sm.free hl1)).upd_new (h.fr T (by simp)),Zb,?_,ZbT tk rt fun b hb o ho=>?_,?_,fun b hb=>h.fr b ?_,by simp at hgl ⊢;lia⟩
  ·rw[Zd hRT,Zd nlR.symm];exact Zb
  ·rw[Zd (nTs b (List.mem_cons_of_mem _ hb)),Zd (Zi ho hl1),Zd (nRs b (List.mem_cons_of_mem _ hb))];exact ho
  ·refine List.nodup_cons.mpr ⟨fun z=>ndR ?_,List.nodup_cons.mpr ⟨fun z=>ndT' (List.mem_cons_of_mem _ z),(List.nodup_cons.mp ndA).2⟩⟩;rcases List.mem_cons.mp z with z|z
   ·exact absurd z hRT
   ·exact List.mem_cons_of_mem _ (List.mem_cons_of_mem _ z)
  ·simp only[List.mem_cons] at hb ⊢;rcases hb with h|h|h
   ·exact .inl h
   ·exact .inr (.inl h)
   ·exact .inr (.inr (.inr h))
end
theorem PgS.shutting{H H1:Hp}{R T b0 b1 l l2:Addr}{a2:List Addr}{g0 g1:Pa}{g2:List Pa}{t:Str}{ts:List Str}{vs0 vs1:List V}(h:PgS H H1 R T (b0::b1::a2) (g0::g1::g2) (t::ts))(h0:H1 b0=some (.lst vs0))(r0:RepP H1 vs0 g0)(h1:H1 b1=some (.lst vs1))(r1:RepP H1 vs1 g1)
  (hl:(upd H1 R (.lst ((b1::a2).map V.ref).reverse)) l=none) (hl2:(upd (upd (upd H1 R (.lst ((b1::a2).map V.ref).reverse)) l (.tup vs0)) T (.lst (ts.map V.str).reverse)) l2=none) :
  (upd H1 R (.lst ((b1::a2).map V.ref).reverse)) b0=some (.lst vs0)/\(upd (upd H1 R (.lst ((b1::a2).map V.ref).reverse)) l (.tup vs0)) R=some (.lst ((a2.map V.ref).reverse ++ [.ref b1]))/\(upd (upd H1 R (.lst ((b1::a2).map V.ref).reverse)) l (.tup vs0)) b1=some (.lst vs1)/\(upd (upd H1 R (.lst ((b1::a2).map V.ref).reverse)) l (.tup vs0)) T=some (.lst ((ts.map V.str).reverse ++ [.str t])) /\
  (upd (upd (upd (upd H1 R (.lst ((b1::a2).map V.ref).reverse)) l (.tup vs0)) T (.lst (ts.map V.str).reverse)) l2 (.tup [.str "tag",.str t,.ref l])) b1=some (.lst vs1) /\
  PgS H (upd (upd (upd (upd (upd H1 R (.lst ((b1::a2).map V.ref).reverse)) l (.tup vs0)) T (.lst (ts.map V.str).reverse)) l2 (.tup [.str "tag",.str t,.ref l])) b1 (.lst (vs1 ++ [.ref l2]))) R T (b1::a2) (g1.app (.tag t g0 .nil)::g2) ts:=by
 have hp:=h.popped (vs0:=vs0) hl;obtain⟨nlR,hl1⟩:=Zm hl;have n0R:=h.nR b0 (by simp);have n1R:=h.nR b1 (by simp);have n1T:=h.nT b1 (by simp);have n1l:b1≠l:=Zi h1 hl1;have nTl:T≠l:=Zi h.hT hl1;have h1p:(upd (upd H1 R (.lst ((b1::a2).map V.ref).reverse)) l (.tup vs0)) b1=some (.lst vs1):=by
  rw[Zd n1l,Zd n1R];exact h1
 have hTp:(upd (upd H1 R (.lst ((b1::a2).map V.ref).reverse)) l (.tup vs0)) T=some (.lst ((ts.map V.str).reverse ++ [.str t])):=by
  rw[Zd nTl,Zd h.RT.symm,h.hT,List.map_cons,List.reverse_cons]
 have h1q:(upd (upd (upd H1 R (.lst ((b1::a2).map V.ref).reverse)) l (.tup vs0)) T (.lst (ts.map V.str).reverse)) b1=some (.lst vs1):=by
  rw[Zd n1T];exact h1p
 have tkq:TK H1 (upd (upd (upd H1 R (.lst ((b1::a2).map V.ref).reverse)) l (.tup vs0)) T (.lst (ts.map V.str).reverse)):=((TK.lst h.hR).trans (TK.new hl)).trans (TK.lst hTp);have s2:Zk (upd (upd (upd H1 R (.lst ((b1::a2).map V.ref).reverse)) l (.tup vs0)) T (.lst (ts.map V.str).reverse)) (upd (upd (upd (upd H1 R (.lst ((b1::a2).map V.ref).reverse)) l (.tup vs0)) T (.lst (ts.map V.str).reverse)) l2 (.tup [.str "tag",.str t,.ref l])):=Zk.new hl2;have n2b:l2≠b1:=fun z=>by rw[z,h1q] at hl2;cases hl2
 have tk5:=s2.tk.trans (TK.lst (o:=.lst (vs1 ++ [.ref l2])) (s2 _ _ h1q));refine⟨by rw[Zd n0R];exact h0,?_,h1p,hTp,s2 _ _ h1q,hp.put (pt:=l2) (q:=.tag t g0 .nil) h1q (r1.mono tkq) s2 (.tag (q:=l) ?_ ?_ ((r0.mono tkq).mono tk5) .nil)⟩
 ·rw[Zd nlR.symm,Zb,List.map_cons,List.reverse_cons]
 ·rw[Zd n2b];exact Zb
 ·refine tk5 _ _ ?_;rw[Zd nTl.symm];exact Zb
structure PgB(tt:List Str)(gs:List Pa)(os:List Str)(k:Bool)(i:Nat):Prop where
 sz:(gs.map Pa.sz).sum+os.length<=i
 nk:(gs.map Pa.nk).sum<=(if k=true then 1 else 0)
 tg:∀g∈gs,∀x∈g.tags,x∈tt
 op:∀x∈os,x∈tt
theorem PgB.shut{tt:List Str}{g0 g1:Pa}{g2:List Pa}{t:Str}{os:List Str}{k:Bool}{i:Nat}(h:PgB tt (g0::g1::g2) (t::os) k i):PgB tt (g1.app (.tag t g0 .nil)::g2) os k i:=by
 obtain⟨h1,h2,h3,h4⟩:=h;refine⟨?_,?_,fun g hg=>?_,fun x hx=>h4 x (List.mem_cons_of_mem _ hx)⟩
 ·simp only[List.map_cons,List.sum_cons,List.length_cons,Pa.ZgT,Pa.sz] at h1 ⊢;lia
 ·simp only[List.map_cons,List.sum_cons,Pa.ZgN,Pa.nk] at h2 ⊢;lia
 ·rcases List.mem_cons.mp hg with rfl|hg
  ·intro x hx;rw[Pa.Zc4] at hx;rcases List.mem_append.mp hx with hx|hx
   ·exact h3 g1 (by simp) x hx
   ·simp only[Pa.tags,List.append_nil,List.mem_cons] at hx;rcases hx with rfl|hx
    ·exact h4 _ (List.mem_cons_self ..)
    ·exact h3 g0 (by simp) x hx
  ·exact h3 g (by simp[hg])
set_option maxHeartbeats 8000000 in
theorem Zg7(B:∀x∈ZbJ,mg x=none)(F:Fun K "_law_parts" "_law_parts" Zy f fd):FnOk P w K mg base CX0 1 f fd ["_law_cell_here","_law_tags_here","_law_modes"] ZeM:=by
 refine F.ok Zav (fun vs H Q E h=>?_) (fun cdv A outer s H vs Q E hr h=>?_)
 ·obtain⟨c,md,tg,ts,rfl,_⟩:=h;rfl
 obtain⟨c,md,tg,ts,rfl,c0,m0,m1,htg,ht3,q⟩:=h;refine Zq ((Ze Zy).drop 6) (Zj (ZC (Zay ZaA rfl (B "tuple" (by decide)) Zbs (Za (Zae Zaa (pv 3) Zg (fun _ _=>rfl)) Zf)))) (fun u6 h6 e6=>?_);refine Zq ((Zab ((Ze Zy).getD 5 (.Pass ⟨0,0,0,0⟩))).drop 1) (Zj (Zau (Zbp PySem.F.plainAttrs_list PySem.F.slot_list_append PySem.F.type_list_append ZR (Zae Zaa (pv 3) (ZeT ZcI Zg) (fun _ _=>rfl)) (Za (Zax (Za Za0 (Za (ZcL PySem.F.plainAttrs_list PySem.F.slot_list_pop PySem.F.type_list_pop Zdu (pv 4)) (Za (pv 9) Zf)))) Zf)))) (fun u5_1 h5_1 e5_1=>?_);refine Zq ((Zab ((Ze Zy).getD 5 (.Pass ⟨0,0,0,0⟩))).drop 0) (Zc (Zt (i:=9) Zav.nd rfl (Or.inl rfl) (Zay ZaA rfl (B "tuple" (by decide)) Zbs (Za (ZcL PySem.F.plainAttrs_list PySem.F.slot_list_pop PySem.F.type_list_pop Zdu (pv 3)) Zf))) h5_1) (fun u5_0 h5_0 e5_0=>?_);refine Zq ((Ze Zy).drop 5) (Zc (ZgC PassesOwn.never (ZQ ZiS (ZF Z3 rfl (B "len" (by decide)) PySem.boot_len (Za (pv 4) Zf)) Zg (Z2 _))
   h5_0) h6) (fun u5 h5 e5=>?_)
 refine Zq ((Zab ((Zab ((Ze Zy).getD 4 (.Pass ⟨0,0,0,0⟩))).getD 2 (.Pass ⟨0,0,0,0⟩))).drop 1) (Zj (Zau (Zbp PySem.F.plainAttrs_list PySem.F.slot_list_append PySem.F.type_list_append ZR (pv 3) (Za (ZaH Zf) Zf)))) (fun u4_2t1 h4_2t1 e4_2t1=>?_);refine Zq ((Zab ((Zab ((Ze Zy).getD 4 (.Pass ⟨0,0,0,0⟩))).getD 2 (.Pass ⟨0,0,0,0⟩))).drop 0) (Zc (Zau (Zbp PySem.F.plainAttrs_list PySem.F.slot_list_append PySem.F.type_list_append ZR (pv 4) (Za (Zae Zaa (pv 1) (Zr ZV (pv 6) Zg) (fun _ _=>rfl)) Zf))) h4_2t1) (fun u4_2t0 h4_2t0 e4_2t0=>?_);refine Zq ((Zab ((Zef ((Zab ((Ze Zy).getD 4 (.Pass ⟨0,0,0,0⟩))).getD 2 (.Pass ⟨0,0,0,0⟩))).getD 0 (.Pass ⟨0,0,0,0⟩))).drop 1) (Zj (Zau (Zbp PySem.F.plainAttrs_list PySem.F.slot_list_append PySem.F.type_list_append ZR (Zae Zaa (pv 3) (ZeT ZcI Zg) (fun _ _=>rfl)) (Za (Zax (Za Za0 (Za (ZcL PySem.F.plainAttrs_list PySem.F.slot_list_pop PySem.F.type_list_pop Zdu (pv 4)) (Za (pv 9) Zf)))) Zf)))) (fun u4_2e0t1 h4_2e0t1 e4_2e0t1=>?_);refine Zq ((Zab ((Zef ((Zab ((Ze Zy).getD 4 (.Pass ⟨0,0,0,0⟩))).getD 2 (.Pass ⟨0,0,0,0⟩))).getD 0 (.Pass ⟨0,0,0,0⟩))).drop 0) (Zc (Zt (i:=9) Zav.nd rfl (Or.inl rfl) (Zay ZaA rfl (B "tuple" (by decide)) Zbs (Za (ZcL PySem.F.plainAttrs_list PySem.F.slot_list_pop PySem.F.type_list_pop Zdu (pv 3)) Zf))) h4_2e0t1) (fun u4_2e0t0 h4_2e0t0 e4_2e0t0=>?_);refine Zq ((Zab ((Zef ((Zef ((Zab ((Ze Zy).getD 4 (.Pass ⟨0,0,0,0⟩))).getD 2 (.Pass ⟨0,0,0,0⟩))).getD 0 (.Pass ⟨0,0,0,0⟩))).getD 0 (.Pass ⟨0,0,0,0⟩))).drop 1) (Zj (Zau (Zbp PySem.F.plainAttrs_list PySem.F.slot_list_append PySem.F.type_list_append ZR (Zae Zaa (pv 3) (ZeT ZcI Zg) (fun _ _=>rfl)) (Za (Zax (Za Za0 (Za (Zr ZV (pv 6) (pv 2)) Zf))) Zf)))) (fun u4_2e0e0t1 h4_2e0e0t1 e4_2e0e0t1=>?_);refine Zq ((Zab ((Zef ((Zef ((Zab ((Ze Zy).getD 4 (.Pass ⟨0,0,0,0⟩))).getD 2 (.Pass ⟨0,0,0,0⟩))).getD 0 (.Pass ⟨0,0,0,0⟩))).getD 0 (.Pass ⟨0,0,0,0⟩))).drop 0) (Zc (Zt (i:=5) Zav.nd rfl (Or.inl rfl) Zba) h4_2e0e0t1) (fun u4_2e0e0t0 h4_2e0e0t0 e4_2e0e0t0=>?_);refine Zq ((Zef ((Zef ((Zab ((Ze Zy).getD 4 (.Pass ⟨0,0,0,0⟩))).getD 2 (.Pass ⟨0,0,0,0⟩))).getD 0 (.Pass ⟨0,0,0,0⟩))).drop 0) (Zj (ZaL (Zbb (Z7 (pv 5) (fun _=>rfl)))
   h4_2e0e0t0
   ZM)) (fun u4_2e0e0 h4_2e0e0 e4_2e0e0=>?_)
 refine Zq ((Zef ((Zab ((Ze Zy).getD 4 (.Pass ⟨0,0,0,0⟩))).getD 2 (.Pass ⟨0,0,0,0⟩))).drop 0) (Zj (ZaL (PW.pt (Zb5 (ZQ Zb2 (pv 8) Zg (Z2 _)) (ZbA (ZQ ZiS (ZF Z3 rfl (B "len" (by decide)) PySem.boot_len (Za (pv 4) Zf)) Zg (Z2 _)))))
   h4_2e0t0
   h4_2e0e0)) (fun u4_2e0 h4_2e0 e4_2e0=>?_)
 refine Zq ((Zab ((Ze Zy).getD 4 (.Pass ⟨0,0,0,0⟩))).drop 2) (Zj (ZaL (ZQ Zjp (pv 8) Zg (Z2 _))
   h4_2t0
   h4_2e0)) (fun u4_2 h4_2 e4_2=>?_)
 refine Zq ((Zab ((Ze Zy).getD 4 (.Pass ⟨0,0,0,0⟩))).drop 1) (Zc (Zt (i:=6) Zav.nd rfl (Or.inl rfl) (Zr Zat (pv 6) Zg)) h4_2) (fun u4_1 h4_1 e4_1=>?_);refine Zq ((Zab ((Ze Zy).getD 4 (.Pass ⟨0,0,0,0⟩))).drop 0) (Zc (Zt (i:=8) Zav.nd rfl (Or.inl rfl) (Zr ZV (pv 6) Zg)) h4_1) (fun u4_0 h4_0 e4_0=>?_);refine Zq ((Ze Zy).drop 4) (Zc (Zbc PassesOwn.never rfl (ZaW rfl (B "range" (by decide)) (Za (Zr ZV (pv 0) Zg) Zf)) (Zu (i:=7) Zav.nd rfl (Or.inl rfl))
   h4_0) h5) (fun u4 h4 e4=>?_)
 refine Zq ((Ze Zy).drop 3) (Zc (Zt (i:=6) Zav.nd rfl (Or.inl rfl) (Zr Zat (pv 0) Zg)) h4) (fun u3 h3 e3=>?_);refine Zq ((Ze Zy).drop 2) (Zc (Zt (i:=5) Zav.nd rfl (Or.inl rfl) (ZbK Zb2 (Zr ZV (Zr Zat (pv 0) Zg) Zg) Zg (Z2 _))) h3) (fun u2 h2 e2=>?_);refine Zq ((Ze Zy).drop 1) (Zc (Zt (i:=4) Zav.nd rfl (Or.inl rfl) (ZaH Zf)) h2) (fun u1 h1 e1=>?_);refine Zq ((Ze Zy).drop 0) (Zc (Zt (i:=3) Zav.nd rfl (Or.inl rfl) (ZaH (Za (ZaH Zf) Zf))) h1) (fun u0 h0 e0=>?_);refine⟨u0,h0,?_⟩;have m6:=Int.emod_nonneg c (by decide:(5:Int)≠0);have m6':=Int.emod_lt_of_pos c (by decide:(0:Int)<5);refine Zo e0 ?_;refine⟨by decide,fun a0 h0=>⟨(by show 1<=sizeLine;decide),fun R hR=>?_⟩⟩;refine Zo e1 ?_;refine⟨by decide,fun T hT=>?_⟩;have g0:=PgS.start h0 hR hT;refine Zo e2 ?_;refine⟨_,rfl,_,_,rfl,rfl,⟨by decide,by decide⟩,_,_,rfl,rfl,(by show(0:Int)<5;decide),rfl,?_⟩;generalize hk0:decide (V.int (c / 5 % 5)=V.int 0)=kb0;refine Zo e3 ?_;refine⟨_,rfl,_,_,rfl,rfl,⟨by decide,by decide⟩,?_⟩;refine Zo e4 ?_;generalize upd (upd (upd H a0 (.lst [])) R (.lst [.ref a0])) T (.lst [])=H1 at g0 ⊢;refine⟨_,rfl,_,_,rfl,rfl,(by show(0:Int)<5;decide),_,rfl,by lia,by lia,Zbx (lo:=0) (n:=(c % 5).toNat) (fun i σ H2=>∃(as:List Addr)(gs:List Pa)(os:List Str)(kb:Bool)(re:Int)(v7 v8 v9:Option V),σ =[some (.int c),some (.ref tg),some (.int md),some (.ref R),some (.ref T),some (.bl kb),some (.int re),v7,v8,v9]/\PgS H H2 R T as gs os/\PgB ts gs os kb i)
  ⟨_,_,_,kb0,_,none,none,none,rfl,g0,⟨Nat.le_refl _,Nat.zero_le _,fun g hg=>by rw[List.mem_singleton.mp hg];exact fun _ h=>(nomatch h),fun _ h=>(nomatch h)⟩⟩ ?_ ?_⟩
 ·rintro i σ H2 hi ⟨as,gs,os,kb,re,v7,v8,v9,rfl,hg,hb⟩;have hi6:i<6:=by lia
  have hb1:=hb.sz;have hb2:=hb.nk;have htg2:=hg.sm _ _ htg;refine Zo e4_0 ?_;refine⟨_,rfl,_,_,rfl,rfl,(by show(0:Int)<5;decide),?_⟩;refine Zo e4_1 ?_;refine⟨_,rfl,_,_,rfl,rfl,⟨by decide,by decide⟩,?_⟩;refine Zo e4_2 ?_;have hgl:=hg.gl;have hal:as.length=gs.length:=Paired.length hg.rows;refine⟨_,rfl,_,_,rfl,rfl,_,rfl,ZbX (fun cc=>?_) (fun cc=>?_)⟩
  ·obtain⟨k,hk,hkl⟩:=Zkr (re / 5) (n:=2) (by decide);have hkl':k<ts.length:=by lia
   have hat:atI (ts.map V.str) (re / 5 % 2)=some (.str ts[k]):=by
    have:=Zek (ws:=ts) (n:=k) hkl';rw[<- hk] at this;exact this
   refine Zo e4_2t0 ?_;refine⟨_,rfl,.inl ⟨rfl,_,SqL.of hg.hT⟩,_,rfl,_,rfl,_,_,rfl,rfl,(by show(0:Int)<2;decide),tg,_,_,_,rfl,rfl,SqL.of htg2,hat,T,_,_,rfl,rfl,hg.hT,Zn (by rw[List.length_reverse,List.length_map];lia),?_⟩;have hRa2:(upd H2 T (.lst ((os.map V.str).reverse ++ [.str ts[k]]))) R=some (.lst (as.map V.ref).reverse):=by
    rw[Zd hg.RT];exact hg.hR
   refine Zo e4_2t1 ?_;refine⟨_,rfl,.inl ⟨rfl,_,SqL.of hRa2⟩,by decide,fun l hl=>?_⟩;obtain⟨_,hl1⟩:=Zm hl;have hRb:(upd (upd H2 T (.lst ((os.map V.str).reverse ++ [.str ts[k]]))) l (.lst [])) R=some (.lst (as.map V.ref).reverse):=by
    rw[Zd (Zi hg.hR hl1)];exact hRa2
   refine⟨R,_,_,rfl,rfl,hRb,Zn (by rw[List.length_reverse,List.length_map];lia),?_⟩;refine⟨_,_,_,kb,_,_,_,_,rfl,hg.opened hl,⟨?_,?_,fun g hg'=>?_,fun x hx=>?_⟩⟩
   ·simp only[List.map_cons,List.sum_cons,List.length_cons,Pa.sz];lia
   ·simp only[List.map_cons,List.sum_cons,Pa.nk];lia
   ·rcases List.mem_cons.mp hg' with rfl|hg'
    ·exact fun _ h=>(nomatch h)
    ·exact hb.tg g hg'
   ·rcases List.mem_cons.mp hx with rfl|hx
    ·exact List.getElem_mem hkl'
    ·exact hb.op x hx
  ·have hb':PgB ts gs os kb (i+1):=⟨by lia,hb2,hb.tg,hb.op⟩;refine via (t:=u4_2e0e0) (R:=fun σ H3=>σ =[some (.int c),some (.ref tg),some (.int md),some (.ref R),some (.ref T),some (.bl kb),some (.int (re / 5)),some (.int (0+(i:Int))),some (.int (re % 5)),v9]/\H3=H2) ?_ fun fin=>?_
   ·rintro σ H3 ⟨rfl,rfl⟩;refine Zo e4_2e0e0 ?_;refine⟨_,rfl,kb,rfl,?_⟩;cases kb with
    | true=>exact Zbu ⟨_,_,_,true,_,_,_,_,rfl,hg,hb'⟩
    | false =>
     refine Zci ?_;refine Zo e4_2e0e0t0 ?_;refine Zo e4_2e0e0t1 ?_;have hrows:=hg.rows;cases gs with
     | nil=>simp at hgl
     | cons g0 gs =>
      cases hrows with
      | @cons b0 _ a1 _ r0 hrows =>
       obtain⟨vs0,h00,r00⟩:=r0;have hRl:H3 R=some (.lst ((a1.map V.ref).reverse ++ [.ref b0])):=by rw[hg.hR,List.map_cons,List.reverse_cons]
       have hvl:=r00.length;have hsz0:g0.sz<=6:=by
        simp only[List.map_cons,List.sum_cons] at hb1;lia
       refine⟨_,rfl,1,rfl,R,_,-1,.ref b0,rfl,rfl,SqL.of hRl,ZbE _ _,.inl ⟨rfl,_,SqL.of h00⟩,_,rfl,_,rfl,_,_,rfl,rfl,m0,(by show 2<=sizeLine;decide),fun pt hpt=>?_⟩;have s5:Zk H3 (upd H3 pt (.tup [.str "kids",.int (re / 5 % md)])):=Zk.new hpt;have npb:pt≠b0:=fun z=>by rw[z,h00] at hpt;cases hpt
       refine⟨b0,_,_,rfl,rfl,s5 _ _ h00,Zn (by lia),?_⟩;refine⟨_,_,_,true,_,_,_,_,rfl,hg.put (q:=.kids (re / 5 % md) .nil) h00 r00 s5 (.kids (by rw[Zd npb];exact Zb) .nil),⟨?_,?_,fun g hg'=>?_,hb.op⟩⟩
       ·simp only[List.map_cons,List.sum_cons,Pa.ZgT,Pa.sz] at hb1 ⊢;lia
       ·rw[if_neg (by decide)] at hb2;rw[if_pos rfl];simp only[List.map_cons,List.sum_cons,Pa.ZgN,Pa.nk] at hb2 ⊢;lia
       ·rcases List.mem_cons.mp hg' with rfl|hg'
        ·intro x hx;rw[Pa.Zc4] at hx;rcases List.mem_append.mp hx with hx|hx
         ·exact hb.tg g0 (List.mem_cons_self ..) x hx
         ·cases hx
        ·exact hb.tg g (List.mem_cons_of_mem _ hg')
   ·refine Zo e4_2e0 ?_;refine⟨_,rfl,rfl,_,rfl,ZbX (fun c2=>?_) (fun c2=>Zbu (fin _ _ ⟨rfl,rfl⟩))⟩;refine⟨_,rfl,T,_,rfl,.inl (SqL.of hg.hT),_,_,rfl,rfl,_,rfl,ZbX (fun c3=>?_) (fun c3=>fin _ _ ⟨rfl,rfl⟩)⟩;cases os with
    | nil=>exact absurd (of_decide_eq_true c3) (by decide)
    | cons t os =>
     obtain⟨b0,b1,a2,g0,g1,g2,vs0,vs1,rfl,rfl,h00,r00,h11,r11,hRs,hTs⟩:=hg.two;have hv1:=r11.length;have hsz1:g1.sz<=6:=by
      simp only[List.map_cons,List.sum_cons] at hb1;lia
     refine Zo e4_2e0t0 ?_;refine⟨_,rfl,.inl ⟨rfl,_,SqL.of hRs⟩,R,_,_,rfl,rfl,hRs,Zbl _ _,?_⟩;rw[ZbO];have h0R:(upd H2 R (.lst ((b1::a2).map V.ref).reverse)) b0=some (.lst vs0):=by
      rw[Zd (hg.nR b0 (by simp))];exact h00
     refine⟨b0,vs0,rfl,.inl ⟨SqL.of h0R,fun l hl=>?_⟩⟩;refine Zo e4_2e0t1 ?_;have hRb:(upd (upd H2 R (.lst ((b1::a2).map V.ref).reverse)) l (.tup vs0)) R=some (.lst ((a2.map V.ref).reverse ++ [.ref b1])):=by
      rw[Zd (Zm hl).1.symm,Zb,List.map_cons,List.reverse_cons]
     have h1b:(upd (upd H2 R (.lst ((b1::a2).map V.ref).reverse)) l (.tup vs0)) b1=some (.lst vs1):=by
      rw[Zd (Zi h11 (Zm hl).2),Zd (hg.nR b1 (by simp))];exact h11
     have hTb:(upd (upd H2 R (.lst ((b1::a2).map V.ref).reverse)) l (.tup vs0)) T=some (.lst ((os.map V.str).reverse ++ [.str t])):=by
      rw[Zd (Zi hg.hT (Zm hl).2),Zd hg.RT.symm];exact hTs
     refine⟨_,rfl,1,rfl,R,_,-1,.ref b1,rfl,rfl,SqL.of hRb,ZbE _ _,.inl ⟨rfl,_,SqL.of h1b⟩,_,rfl,.inl ⟨rfl,_,SqL.of hTb⟩,T,_,_,rfl,rfl,hTb,Zbl _ _,?_⟩;rw[ZbO];refine⟨_,rfl,(by show 3<=sizeLine;decide),fun l2 hl2=>?_⟩;obtain⟨_,_,_,_,z5,z6⟩:=hg.shutting h00 r00 h11 r11 hl hl2;refine⟨b1,_,_,rfl,rfl,z5,Zn (by lia),?_⟩;exact⟨_,_,_,kb,_,_,_,_,rfl,z6,hb'.shut⟩
 ·rintro σ H2 ⟨as,gs,os,kb,re,v7,v8,v9,rfl,hg,hb⟩;have hsz6:(gs.map Pa.sz).sum+os.length<=6:=by
   have:=hb.sz;lia
  have hb':PgB ts gs os kb 6:=⟨hsz6,hb.nk,hb.tg,hb.op⟩;refine Zo e5 ?_
  let W:Nat->St->Hp->Prop:=fun n σ H3=>∃(as:List Addr)(gs:List Pa)(os:List Str)(v9:Option V),σ =[some (.int c),some (.ref tg),some (.int md),some (.ref R),some (.ref T),some (.bl kb),some (.int re),v7,v8,v9]/\PgS H H3 R T as gs os/\PgB ts gs os kb 6/\n=os.length
  refine⟨W,⟨_,as,gs,os,v9,rfl,hg,hb',rfl⟩,?_⟩;clear hb hsz6;rintro n σ H3 ⟨as,gs,os,v9,rfl,hg,hb,rfl⟩;refine⟨_,rfl,T,_,rfl,.inl (SqL.of hg.hT),_,_,rfl,rfl,_,rfl,ZbX (fun cc=>?_) (fun cc=>?_)⟩
  ·cases os with
   | nil=>exact absurd (of_decide_eq_true cc) (by decide)
   | cons t os =>
    obtain⟨b0,b1,a2,g0,g1,g2,vs0,vs1,rfl,rfl,h00,r00,h11,r11,hRs,hTs⟩:=hg.two;have hv1:=r11.length;have hsz1:g1.sz<=6:=by
     have:=hb.sz;simp only[List.map_cons,List.sum_cons] at this;lia
    refine⟨fun σ' H'=>∃m',m'<(t::os).length/\W m' σ' H',fun _ _ h=>h,?_⟩;refine Zo e5_0 ?_;refine⟨_,rfl,.inl ⟨rfl,_,SqL.of hRs⟩,R,_,_,rfl,rfl,hRs,Zbl _ _,?_⟩;rw[ZbO];have h0R:(upd H3 R (.lst ((b1::a2).map V.ref).reverse)) b0=some (.lst vs0):=by
     rw[Zd (hg.nR b0 (by simp))];exact h00
    refine⟨b0,vs0,rfl,.inl ⟨SqL.of h0R,fun l hl=>?_⟩⟩;refine Zo e5_1 ?_;have hRb:(upd (upd H3 R (.lst ((b1::a2).map V.ref).reverse)) l (.tup vs0)) R=some (.lst ((a2.map V.ref).reverse ++ [.ref b1])):=by
     rw[Zd (Zm hl).1.symm,Zb,List.map_cons,List.reverse_cons]
    have h1b:(upd (upd H3 R (.lst ((b1::a2).map V.ref).reverse)) l (.tup vs0)) b1=some (.lst vs1):=by
     rw[Zd (Zi h11 (Zm hl).2),Zd (hg.nR b1 (by simp))];exact h11
    have hTb:(upd (upd H3 R (.lst ((b1::a2).map V.ref).reverse)) l (.tup vs0)) T=some (.lst ((os.map V.str).reverse ++ [.str t])):=by
     rw[Zd (Zi hg.hT (Zm hl).2),Zd hg.RT.symm];exact hTs
    refine⟨_,rfl,1,rfl,R,_,-1,.ref b1,rfl,rfl,SqL.of hRb,ZbE _ _,.inl ⟨rfl,_,SqL.of h1b⟩,_,rfl,.inl ⟨rfl,_,SqL.of hTb⟩,T,_,_,rfl,rfl,hTb,Zbl _ _,?_⟩;rw[ZbO];refine⟨_,rfl,(by show 3<=sizeLine;decide),fun l2 hl2=>?_⟩;obtain⟨_,_,_,_,z5,z6⟩:=hg.shutting h00 r00 h11 r11 hl hl2;refine⟨b1,_,_,rfl,rfl,z5,Zn (by lia),?_⟩;exact⟨os.length,by rw[List.length_cons];lia,_,_,os,_,rfl,z6,hb.shut,rfl⟩
  ·cases os with
   | cons t os =>
    refine absurd (decide_eq_true ?_) cc;show(0:Int)<((((t::os).map V.str).reverse.length:Nat):Int);rw[List.length_reverse,List.length_map,List.length_cons];lia
   | nil =>
    have hgl:=hg.gl;have hrows:=hg.rows;cases gs with
    | nil=>simp at hgl
    | cons g gs =>
     obtain rfl:gs=[]:=List.eq_nil_of_length_eq_zero (by simpa using hgl);cases hrows with
     | @cons b _ _ _ r hrows =>
      cases hrows;obtain⟨vs,hbb,hgr⟩:=r;refine Zo e6 ?_;refine⟨_,rfl,R,_,0,.ref b,rfl,rfl,SqL.of hg.hR,rfl,b,vs,rfl,.inl ⟨SqL.of hbb,fun r hr=>?_⟩⟩;have h1:=hb.sz;have h2:=hb.nk;simp only[List.map_cons,List.map_nil,List.sum_cons,List.sum_nil] at h1 h2;refine q r vs g _ (hg.sm.upd_new (hg.sm.free hr)) Zb (hgr.mono (TK.new hr)) ?_ (by lia) (hb.tg g (List.mem_cons_self ..))
      split at h2 <;> lia
def RkL(H:Hp)(m:List (List Key×V))(rs:List (Int×Str×Pa)):Prop:=Paired (fun(kv:List Key×V)(r:Int×Str×Pa)=>kv.1=Zbq r.1 r.2.1/\∃q ys,kv.2=V.ref q/\H q=some (.tup ys)/\RepP H ys r.2.2) m rs
theorem RkL.tk{H H':Hp}(k:TK H H'):∀{m:List (List Key×V)}{rs:List (Int×Str×Pa)},RkL H m rs->RkL H' m rs
 | _,_,.nil=>.nil
 | _,_,.cons ⟨e,q,ys,h1,h2,h3⟩ t=>.cons ⟨e,q,ys,h1,k _ _ h2,h3.mono k⟩ (RkL.tk k t)
structure RsOk(tt:List Str)(rs:List (Int×Str×Pa)):Prop where
 nd:(rs.map fun r=>Zbq r.1 r.2.1).Nodup
 ok:∀r∈rs,r.2.1∈tt/\r.2.2.nk<=1/\r.2.2.sz<=6/\∀x∈r.2.2.tags,x∈tt
theorem RkL.keys{H:Hp}:∀{m:List (List Key×V)}{rs:List (Int×Str×Pa)},RkL H m rs->m.map (·.1)=rs.map fun r=>Zbq r.1 r.2.1
 | _,_,.nil=>rfl
 | _,_,.cons ⟨e,_⟩ t=>by rw[List.map_cons,List.map_cons,e,RkL.keys t]
theorem RkL.put{H:Hp}{m:List (List Key×V)}{rs:List (Int×Str×Pa)}{tt:List Str}(h:RkL H m rs)(ho:RsOk tt rs){i:Int}{t:Str}{p:Pa}{q:Addr}{ys:List V}(hq:H q=some (.tup ys))(hp:RepP H ys p)(hi:t∈tt/\p.nk<=1/\p.sz<=6/\∀x∈p.tags,x∈tt):∃rs',RkL H (putK m (Zbq i t) (.ref q)) rs'/\RsOk tt rs'/\rs'.length<=rs.length+1:=by
 unfold putK;by_cases c:(m.any fun kv=>decide (kv.1=Zbq i t))=true
 ·rw[if_pos c]
  let g:Int×Str×Pa->Int×Str×Pa:=fun r=>if Zbq r.1 r.2.1=Zbq i t then(r.1,r.2.1,p) else r
  have hg:∀r,(fun r:Int×Str×Pa=>Zbq r.1 r.2.1) (g r)=Zbq r.1 r.2.1:=fun r=>by
   show Zbq (g r).1 (g r).2.1=_;by_cases z:Zbq r.1 r.2.1=Zbq i t
   ·simp only[g,if_pos z]
   ·simp only[g,if_neg z]
  refine⟨rs.map g,?_,⟨?_,fun r hr=>?_⟩,by rw[List.length_map];lia⟩
  ·clear c ho
   induction h with
   | nil=>exact .nil
   | @cons kv r m rs hh tl ih =>
    refine .cons ?_ ih;obtain⟨e,q',ys',e1,e2,e3⟩:=hh;by_cases z:kv.1=Zbq i t
    ·have z':Zbq r.1 r.2.1=Zbq i t:=by rw[<- e];exact z
     simp only[g,if_pos z,if_pos z'];exact⟨e,q,ys,rfl,hq,hp⟩
    ·have z' : ¬ Zbq r.1 r.2.1=Zbq i t:=by rw[<- e];exact z
     simp only[g,if_neg z,if_neg z'];exact⟨e,q',ys',e1,e2,e3⟩
  ·rw[List.map_map];have:((fun r:Int×Str×Pa=>Zbq r.1 r.2.1) ∘ g)=fun r=>Zbq r.1 r.2.1:=funext hg;rw[this];exact ho.nd
  ·obtain⟨r0,hr0,rfl⟩:=List.mem_map.mp hr;have:=ho.ok r0 hr0;by_cases z:Zbq r0.1 r0.2.1=Zbq i t
   ·simp only[g,if_pos z];exact⟨this.1,hi.2⟩
   ·simp only[g,if_neg z];exact this
 ·rw[if_neg c];refine⟨rs ++ [(i,t,p)],Paired.app h (.cons ⟨rfl,q,ys,rfl,hq,hp⟩ .nil),⟨?_,fun r hr=>?_⟩,by rw[List.length_append];exact Nat.le_refl _⟩
  ·rw[List.map_append];refine List.nodup_append.mpr ⟨ho.nd,by simp,fun x hx y hy e=>?_⟩;rw[<- h.keys] at hx;obtain⟨kv,hkv,rfl⟩:=List.mem_map.mp hx;have e2:y=Zbq i t:=by simpa using hy
   refine c (List.any_eq_true.mpr ⟨kv,hkv,decide_eq_true (e.trans e2)⟩)
  ·rcases List.mem_append.mp hr with hr|hr
   ·exact ho.ok r hr
   ·rw[List.mem_singleton.mp hr];exact hi
theorem RkL.mem{H:Hp}:∀{m:List (List Key×V)}{rs:List (Int×Str×Pa)},RkL H m rs->(rs.map fun r=>Zbq r.1 r.2.1).Nodup->∀r∈rs,∃q ys,Zbe m (Zbq r.1 r.2.1)=some (.ref q)/\H q=some (.tup ys)/\RepP H ys r.2.2
 | _,_,.cons (a:=kv) (b:=r0) ⟨e,q,ys,h1,h2,h3⟩ t,hn,r,hr=>by
  rw[List.map_cons,List.nodup_cons] at hn;rcases List.mem_cons.mp hr with rfl|hr
  ·refine⟨q,ys,?_,h2,h3⟩;unfold Zbe;rw[List.find?_cons_of_pos (by rw[e];exact decide_eq_true rfl)];exact congrArg some h1
  ·obtain⟨q',ys',g1,g2,g3⟩:=RkL.mem t hn.2 r hr;refine⟨q',ys',?_,g2,g3⟩;have hne : ¬ kv.1=Zbq r.1 r.2.1:=fun z=>hn.1 (by rw[<- e,z];exact List.mem_map.mpr ⟨r,hr,rfl⟩);unfold Zbe at g1 ⊢;rw[List.find?_cons_of_neg (by rw[decide_eq_false hne];decide)];exact g1
def Zfx(K:PySem.W.Frag):Sp:=fun vs H Q _=>∃(a tg:Addr)(ns:List Int)(ts:List Str),vs=[.ref a,.ref tg]/\SqL K H a (ns.map V.int)/\ns.length<=63/\H tg=some (.lst (ts.map V.str))/\ts.length=3/\∀(rc:Addr)(rp:List (Int×Str×Pa))(H':Hp),Zk H H'->ChR H' rc rp->(∀r∈rp,r.2.2.nk<=1/\r.2.2.sz<=6/\∀x∈r.2.2.tags,x∈ts)->Q (.ref rc) H'
set_option maxHeartbeats 4000000 in
theorem Ze8(B:∀x∈ZbJ,mg x=none)(g_l_cell:Has P w K mg base "_law_cell" ["_law_script","_law_k"] 1 (Zdv K)) (g_l_parts:Has P w K mg base "_law_parts" ["_law_cell_here","_law_tags_here","_law_modes"] 1 ZeM) (F:Fun K "_law_changer" "_law_changer" ZX f fd):FnOk P w K mg base CX0 2 f fd ["_law_script","_law_tags_here"] (Zfx K):=by
 refine F.ok Za8 (fun vs H Q E h=>?_) (fun cdv A outer s H vs Q E hr h=>?_)
 ·obtain⟨a,tg,ns,ts,rfl,_⟩:=h;rfl
 obtain⟨a,tg,ns,ts,rfl,hS,h63,htg,ht3,qq⟩:=h;have hu:=Zcz hr;have hu1:(A.deeper (PyProof.Rows.envOfC (Str.ofString "_law_changer") (Zh ZX) s.heap.objs.size f cdv)).units+1<cLine:=by have:=hr.un;lia
 refine Zq ((Ze ZX).drop 3) (Zj (ZC (Zax (Za (pv 2) (Za (Zay ZaA rfl (B "tuple" (by decide)) Zbs (Za (Zct (cl:=_) ["_law_key"] [("_law_made",3)] (Zbt (ZF (ZdB rfl) rfl (B "sorted" (by decide)) Zcs (Za (pv 3) Zf))) (fun _ _ _ _=>(Zu (i:=0) (show List.Nodup (["_law_key","_law_made"]:List Str) by decide) rfl (Or.inl rfl))) (fun _ _ _ _=>(Zax (Za (Zae (Zf2 (K:=K) rfl) (pv 0) Zg (fun _ _=>rfl)) (Za (Zae (Zf2 (K:=K) rfl) (pv 0) Zg (fun _ _=>rfl)) (Za (Zkd hu1 (pv 1) (pv 0) (fun _ _=>rfl)) Zf))))) rfl rfl (by decide) rfl (by decide) (Zeb (by(repeat' first|exact List.forall_mem_nil _|refine List.forall_mem_cons.mpr ⟨?_,?_⟩) <;> rfl)) (Zcv (by(repeat' first|exact List.forall_mem_nil _|refine List.forall_mem_cons.mpr ⟨?_,?_⟩) <;> first|(intro h;exact⟨_,rfl⟩)|(intro h;exact absurd h (by decide)))) (fun _=>by(repeat' first|exact List.forall_mem_nil _|refine List.forall_mem_cons.mpr ⟨?_,?_⟩) <;> exact⟨rfl,rfl,Or.inl rfl⟩) (fun _=>rfl)) Zf)) Zf))))) (fun u3 h3 e3=>?_)
 refine Zq ((Zab ((Ze ZX).getD 2 (.Pass ⟨0,0,0,0⟩))).drop 1) (Zj (Zdk hu1 (pv 3) (Zax (Za (Zr ZV (pv 5) (pv 2)) (Za (Zae Zaa (pv 1) (Zr ZV (Zr Zat (pv 5) Zg) Zg) (fun _ _=>rfl)) Zf))) (Z4 g_l_parts hr rfl (Za (Zr Zat (pv 5) Zg) (Za (pv 1) (Za (pv 2) Zf)))) rfl)) (fun u2_1 h2_1 e2_1=>?_);refine Zq ((Zab ((Ze ZX).getD 2 (.Pass ⟨0,0,0,0⟩))).drop 0) (Zc (Zt (i:=5) Za8.nd rfl (Or.inl rfl) (Zr ZV (Z4 g_l_cell hr rfl (Za (pv 0) (Za (Zr ZaZ Zg (pv 4)) Zf))) (Zr ZhW Zg Zg))) h2_1) (fun u2_0 h2_0 e2_0=>?_);refine Zq ((Ze ZX).drop 2) (Zc (Zbc PassesOwn.never rfl (ZaW rfl (B "range" (by decide)) (Za (Zr ZV (Zr Zat (Z4 g_l_cell hr rfl (Za (pv 0) (Za Zg Zf))) Zg) Zg) Zf)) (Zu (i:=4) Za8.nd rfl (Or.inl rfl))
   h2_0) h3) (fun u2 h2 e2=>?_)
 refine Zq ((Ze ZX).drop 1) (Zc (Zt (i:=3) Za8.nd rfl (Or.inr rfl) ZeB) h2) (fun u1 h1 e1=>?_);refine Zq ((Ze ZX).drop 0) (Zc (Zt (i:=2) Za8.nd rfl (Or.inl rfl) (Zr ZaZ Zg (Zr ZV (Z4 g_l_cell hr rfl (Za (pv 0) (Za Zg Zf))) Zg))) h1) (fun u0 h0 e0=>?_);refine⟨u0,h0,?_⟩;refine Zo e0 ?_;refine⟨_,rfl,a,ns,20,rfl,hS,h63,by decide,by decide,fun v0=>?_⟩;obtain⟨n2,en2,hn2⟩:=Zkr v0 (n:=2) (by decide);refine⟨_,_,rfl,rfl,(by show(0:Int)<2;decide),_,_,rfl,rfl,?_⟩;have hmd:(1+v0 % 2:Int)=1+(n2:Int):=by rw[<- en2];rfl
 show u1 _ [some (.ref a),some (.ref tg),some (.int (1+v0 % 2)),_,_,_] _;rw[hmd];generalize hmdd:(1+(n2:Int))=md;have m0:0<md:=by lia
 have m1:md<100:=by lia
 refine Zo e1 ?_;refine fun d hd=>?_;have s0:Zk H (upd H d (.dT [])):=Zk.new hd;show u2 _ _ _;refine Zo e2 ?_;refine⟨_,rfl,a,ns,20,rfl,s0.seq hS,h63,by decide,by decide,fun v=>?_⟩;have v7:=Int.emod_nonneg (v / 2) (by decide:(5:Int)≠0);have v7':=Int.emod_lt_of_pos (v / 2) (by decide:(0:Int)<5);refine⟨_,_,rfl,rfl,⟨by decide,by decide⟩,_,_,rfl,rfl,(by show(0:Int)<5;decide),_,rfl,by lia,by lia,Zbx (lo:=0) (n:=(v / 2 % 5).toNat) (fun i σ H1=>∃(v5 v6:Option V)(m:List (List Key×V))(rs:List (Int×Str×Pa)),σ =[some (.ref a),some (.ref tg),some (.int md),some (.ref d),v5,v6]/\Zk H H1/\H1 d=some (.dT m)/\RkL H1 m rs/\RsOk ts rs/\rs.length<=i)
  ⟨none,none,[],[],rfl,s0,Zb,.nil,⟨by simp,fun _ h=>(nomatch h)⟩,Nat.le_refl _⟩ ?_ ?_⟩
 ·rintro i σ H1 hi ⟨v5,v6,m,rs,rfl,s1,hd1,hrk,hro,hrl⟩;have hi7:i<5:=by lia
  refine Zo e2_0 ?_;refine⟨_,rfl,_,rfl,_,_,rfl,rfl,a,ns,_,rfl,s1.seq hS,h63,by lia,by lia,fun v=>?_⟩;refine⟨_,_,rfl,rfl,⟨by decide,by decide,by decide⟩,_,_,rfl,rfl,(by show(0:Int)<10 ^ 9;decide),?_⟩;have w0:=Int.emod_nonneg v (by decide:((10:Int) ^ (9:Int).toNat)≠0);generalize hw:v % (10:Int) ^ (9:Int).toNat=wv at w0;show u2_1 _ [_,_,_,_,_,some (V.int (v % (10:Int) ^ (9:Int).toNat))] _;rw[hw];refine Zo e2_1 ?_;obtain⟨k,hk,hkl⟩:=Zkr (wv / 2) (n:=2) (by decide);have hkl':k<ts.length:=by lia
  have hat:atI (ts.map V.str) (wv / 2 % 2)=some (.str ts[k]):=by
   have:=Zek (ws:=ts) (n:=k) hkl';rw[<- hk] at this;exact this
  refine⟨_,rfl,_,_,rfl,rfl,⟨by decide,by decide⟩,_,rfl,_,rfl,wv / 4,md,tg,ts,rfl,by lia,m0,m1,s1 _ _ htg,ht3,fun r xs p H2 s2 hr2 hp hnk hsz htags=>?_⟩;have s12:=s1.trans s2;refine⟨_,rfl,_,rfl,_,rfl,_,_,rfl,rfl,m0,_,rfl,_,rfl,_,_,rfl,rfl,⟨by decide,by decide⟩,_,_,rfl,rfl,(by show(0:Int)<2;decide),tg,_,_,_,rfl,rfl,SqL.of (s12 _ _ htg),hat,(by show 2<=sizeLine;decide),fun kt hkt=>?_⟩;have s3:Zk H2 (upd H2 kt (.tup [.int (wv % md),.str ts[k]])):=Zk.new hkt;have hml:m.length=rs.length:=Paired.length hrk;have hd3:=s3 _ _ (s2 _ _ hd1);refine⟨d,_,rfl,Zit.t (k:=Zbq (wv % md) ts[k]) hd3 Zb (Zn (by lia)),?_⟩;have tkd:TK (upd H2 kt (.tup [.int (wv % md),.str ts[k]])) (upd (upd H2 kt (.tup [.int (wv % md),.str ts[k]])) d (.dT (putK m (Zbq (wv % md) ts[k]) (.ref r)))):=fun b ys e=>by
   rw[Zd (ZfT e hd3 (fun z=>nomatch z))]
   exact e
  have tk:=(s2.trans s3).tk.trans tkd;obtain⟨rs',g1,g2,g3⟩:=(hrk.tk tk).put hro (i:=wv % md) (t:=ts[k]) (tkd _ _ (s3 _ _ hr2)) ((hp.mono s3.tk).mono tkd) ⟨List.getElem_mem hkl',hnk,hsz,htags⟩;exact⟨_,_,_,rs',rfl,(s12.trans s3).upd_new hd,Zb,g1,g2,by lia⟩
 rintro σ H0 ⟨v5,v6,m,rs,rfl,s00,hd0,hrk,hro,hrl⟩;show u3 _ _ _;refine Zo e3 ?_;have hmk:m.map (·.1)=(rs.map fun r=>((r.1,r.2.1):Srd.Ps)).map psK:=by
  rw[hrk.keys,List.map_map];rfl
 have hml:m.length=rs.length:=Paired.length hrk;refine⟨_,rfl,_,rfl,d,m,_,rfl,hd0,by lia,hmk,fun ks zk ms hks hperm _ hzk=>?_⟩;have s3:Zk H0 (upd H0 ks (.lst zk)):=Zk.new hks;have hzk3:PsL (upd H0 ks (.lst zk)) zk ms:=hzk.keep s3.tk;have hk3:(upd H0 ks (.lst zk)) ks=some (.lst zk):=Zb;have hd3:=s3 _ _ hd0;have hrk3:=hrk.tk s3.tk;generalize upd H0 ks (.lst zk)=H3 at s3 hzk3 hk3 hd3 hrk3 ⊢;have hzl:=hzk3.length;have hmsl:ms.length=rs.length:=by have:=hperm.length_eq;rw[List.length_map] at this;exact this
 refine⟨ks,rfl,⟨_,SqL.of hk3⟩,fun pc hpc=>?_⟩;refine Zfq (K:=K) (a:=ks) (p:=pc) (xs:=zk) (fun i ys σ H4=>∃(v0:Option V)(rp:List (Int×Str×Pa)),σ =[v0,some (.ref d)]/\Zk H3 H4/\H4 pc=some (.lst ys)/\RlL H4 ys rp/\(rp.map fun r=>Zbq r.1 r.2.1)=(ms.take i).map psK/\∀r∈rp,r∈rs)
  ⟨none,[],rfl,Zk.new hpc,Zb,.nil,rfl,fun _ h=>(nomatch h)⟩ ?_ ?_ ?_
 ·rintro i ys σ H4 _ ⟨_,_,_,s4,h,_⟩;exact⟨SqL.of (s4 _ _ hk3),h⟩
 ·rintro i ys x σ H4 hi hx ⟨v0,rp,rfl,s4,hp,hrp,hkp,hsub⟩;obtain⟨pk,qk,g1,rfl,g2⟩:=hzk3.get i x hx;have g2':H4 pk=some (.tup [.int qk.1,.str qk.2]):=s4 _ _ g2;have hqm:psK qk∈rs.map fun r=>Zbq r.1 r.2.1:=by
   have h1:qk∈ms:=List.mem_of_getElem? g1;obtain⟨r,hr1,e⟩:=List.mem_map.mp (hperm.mem_iff.mp h1);exact List.mem_map.mpr ⟨r,hr1,by rw[<- e];rfl⟩
  obtain⟨r,hr1,er⟩:=List.mem_map.mp hqm;obtain⟨e1,e2⟩:=Zgf (i:=r.1) (t:=r.2.1) (j:=qk.1) (u:=qk.2) er;obtain⟨qp,yp,x1,x2,x3⟩:=hrk3.mem hro.nd r hr1;have hg:ZcX H4 d (.ref pk) (some (.ref qp)):=by
   have:=ZcX.t (k:=Zbq r.1 r.2.1) (s4 _ _ hd3) (by rw[g2',e1,e2];rfl);rw[x1] at this;exact this
  have hrpl:ys.length=i:=by
   have h1:ys.length=rp.length:=Paired.length hrp;have h2:=congrArg List.length hkp;rw[List.length_map,List.length_map,List.length_take] at h2;lia
  refine⟨_,rfl,pk,_,0,_,rfl,rfl,SqT.of g2',rfl,_,rfl,pk,_,1,_,rfl,rfl,SqT.of g2',rfl,_,rfl,_,rfl,d,_,rfl,hg,(by show 3<=sizeLine;decide),fun t3 ht3=>?_⟩;have s5:Zk H4 (upd H4 t3 (.tup [.int qk.1,.str qk.2,.ref qp])):=Zk.new ht3;refine⟨s5 _ _ hp,Zn (by lia),CW.next hi ⟨_,rp ++ [r],rfl,(s4.trans s5).upd_new hpc,Zb,?_,?_,fun r' hr'=>?_⟩⟩
  ·have tk:=s5.tk.trans (TK.lst (o:=.lst (ys ++ [.ref t3])) (s5 _ _ hp));have nt:t3≠pc:=fun z=>by rw[z,hp] at ht3;cases ht3
   refine Paired.app (hrp.tk tk) (.cons ⟨t3,qp,yp,rfl,?_,tk _ _ (s4 _ _ x2),(x3.mono s4.tk).mono tk⟩ .nil);rw[Zd nt,Zb,e1,e2]
  ·rw[List.map_append,hkp,Zz g1,List.map_append]
   congr 1
   show [Zbq r.1 r.2.1] =[psK qk];rw[e1,e2];rfl
  ·rcases List.mem_append.mp hr' with h|h
   ·exact hsub r' h
   ·rw[List.mem_singleton.mp h];exact hr1
 rintro ys σ H4 ⟨v0,rp,rfl,s4,hp,hrp,hkp,hsub⟩;rw[hzl,List.take_length] at hkp;have hkperm:(rp.map fun r=>Zbq r.1 r.2.1).Perm (rs.map fun r=>Zbq r.1 r.2.1):=by
  rw[hkp];have:=hperm.map psK;rw[List.map_map] at this;exact this
 have hrpn:(rp.map fun r=>Zbq r.1 r.2.1).Nodup:=hkperm.nodup_iff.mpr hro.nd;have hrpl:rp.length<=10:=by
  have:=hkperm.length_eq;rw[List.length_map,List.length_map] at this;lia
 refine⟨pc,ys,rfl,.inl ⟨SqL.of hp,fun rt hrt=>⟨(by show 2<=sizeLine;decide),fun rc hrc=>?_⟩⟩⟩;obtain⟨ncr,hrc0⟩:=Zm hrc;have s5:Zk H4 (upd (upd H4 rt (.tup ys)) rc (.tup [.int md,.ref rt])):=(Zk.new hrt).upd_new hrc0;refine qq rc rp _ (((s00.trans s3).trans s4).trans s5) ⟨md,rt,ys,Zb,by rw[Zd ncr.symm];exact Zb,hrp.tk s5.tk,by lia,fun r hr1=>?_⟩ fun r hr1=>(hro.ok r (hsub r hr1)).2;have:=(hro.ok r (hsub r hr1)).2.2.1;lia
def KI(ex:List Addr)(H H':Hp):Prop := ∀b o,b∉ex->(∀C d fs,o ≠ .ins C d fs)->H b=some o->H' b=some o
theorem ZkH{ex:List Addr}{H H':Hp}{a:Addr}{W:Str->List Pr}(h:WK ex H a W)(k:KI ex H H')(kt:Zja H H'):WK ex H' a W:=by
 obtain⟨h1,mk,ts,h2,h3,h4,h5⟩:=h;refine⟨h1,mk,ts,k _ _ h1 (fun _ _ _ z=>nomatch z) h2,h3,h4,fun t=>?_⟩
 rcases h5 t with h|⟨l,zs,e1,e2,e3,e4,e5⟩
 ·exact .inl h
 ·exact .inr ⟨l,zs,e1,e2,k _ _ e2 (fun _ _ _ z=>nomatch z) e3,e4.keep kt,e5⟩
theorem Zeu{ex:List Addr}{H H':Hp}(k:KI ex H H')(kt:Zja H H'):∀{zs:List V}{lv:List (List Pr)},LVs ex H zs lv->LVs ex H' zs lv
 | _,_,.nil=>.nil
 | _,_,.cons ⟨p,xs,e1,e2,e3,e4⟩ t=>.cons ⟨p,xs,e1,e2,k _ _ e2 (fun _ _ _ z=>nomatch z) e3,e4.keep kt⟩ (Zeu k kt t)
theorem Zgg{ex ex':List Addr}{H:Hp}(hx:∀b∈ex',b∈ex\/H b=none):∀{zs:List V}{lv:List (List Pr)},LVs ex H zs lv->LVs ex' H zs lv
 | _,_,.nil=>.nil
 | _,_,.cons ⟨p,xs,e1,e2,e3,e4⟩ t=>.cons ⟨p,xs,e1,(fun z=>(hx p z).elim e2 fun z=>by rw[z] at e3;cases e3),e3,e4⟩ (Zgg hx t)
def Oth(ex:List Addr)(H H':Hp)(y:Addr):Prop:=(y∈ex/\∃ys,H' y=some (.lst ys))\/∃C d n v fs,H y=some (.ins C d ((n,v)::fs))/\n≠("form" : Str)
section
variable{C a L T:Addr}{ex:List Addr}{H H':Hp}{f:FQ}{R:List Srd.Qd}{lv:List (List Pr)}{tg:List Str}
theorem Zkb{Y:List Addr}(h:RdAt C H a L T ex f R lv tg)(k:Zv Y H H')(hy:∀y∈Y,Oth ex H H' y):RdAt C H' a L T ex f R lv tg:=by
 obtain⟨ok,rk,st,ne,al,dx,p,df,dw,ns,zs,h1,h2,⟨md,h3,h3'⟩,h4,h5,h6,h7,h8⟩:=h;have ki:KI (L::T::ex) H H':=fun b o hb hn e=>k b o (fun hY=>by
  rcases hy b hY with⟨z,_⟩|⟨_,_,_,_,_,z,_⟩
  ·exact hb (List.mem_cons_of_mem _ (List.mem_cons_of_mem _ z))
  ·rw[e] at z;injection z with z;exact hn _ _ _ z) e
 have nl:∀b o,H b=some o->(∀xs,o ≠ .lst xs)->(∀C d fs,o ≠ .ins C d fs)->b∉L::T::ex:=fun b o e n1 _ hm=>by
  have:∃xs,H b=some (.lst xs):=by
   rcases List.mem_cons.mp hm with rfl|hm
   ·exact⟨_,h6⟩
   ·rcases List.mem_cons.mp hm with rfl|hm
    ·exact⟨_,h8⟩
    ·exact(al b hm).2
  obtain⟨xs,z⟩:=this;rw[e] at z;injection z with z;exact n1 xs z
 have kn:∀b o,H b=some o->(∀xs,o ≠ .lst xs)->(∀C d fs,o ≠ .ins C d fs)->H' b=some o:=fun b o e n1 n2=>ki b o (nl b o e n1 n2) n2 e;have kt:Zja H H':=fun b xs e=>kn b _ e (fun _ z=>nomatch z) (fun _ _ _ z=>nomatch z)
 have kl:∀b xs,H b=some (.lst xs)->b∉ex->H' b=some (.lst xs):=fun b xs e hb=>k b _ (fun hY=>by
  rcases hy b hY with⟨z,_⟩|⟨_,_,_,_,_,z,_⟩
  ·exact hb z
  ·rw[e] at z;cases z) e
 have ha:a∉Y:=fun hY=>by
  rcases hy a hY with⟨z,_⟩|⟨_,_,_,_,_,z,hn⟩
  ·obtain⟨_,xs,e⟩:=al a z;rw[h1] at e;cases e
  ·rw[h1] at z;injection z with z;injection z with _ _ z;injection z with z;injection z with z;exact hn z.symm
 have hL:L∉ex:=fun z=>(al L z).1 (List.mem_cons_self ..);have hT:T∉ex:=fun z=>(al T z).1 (List.mem_cons_of_mem _ (List.mem_cons_self ..));refine⟨ok,rk,st,ne,fun x hx=>⟨(al x hx).1,?_⟩,dx,p,df,dw,ns,zs,k _ _ ha h1,?_,⟨md,kn _ _ h3 (fun _ z=>nomatch z) (fun _ _ _ z=>nomatch z),h3'⟩,h4,?_,kl _ _ h6 hL,Zeu ki kt h7,kl _ _ h8 hT⟩
 ·obtain⟨xs,e⟩:=(al x hx).2;by_cases hY:x∈Y
  ·rcases hy x hY with⟨_,z⟩|⟨_,_,_,_,_,z,_⟩
   ·exact z
   ·rw[e] at z;cases z
  ·exact⟨xs,k _ _ hY e⟩
 ·obtain⟨f1,f2,f3,zf,a1,a2,a3,a4,a5⟩:=h2;exact⟨f1,f2,f3,zf,kt _ _ a1,kt _ _ a2,kt _ _ a3,kt _ _ a4,a5.keep kt⟩
 ·obtain⟨w1,m,D,w2,w3,w4,w5⟩:=h5;exact⟨w1,m,D,ki _ _ w1 (fun _ _ _ z=>nomatch z) w2,w3,w4,fun x a e=>ZkH (w5 x a e) ki kt⟩
theorem ZkC{ex':List Addr}(h:RdAt C H a L T ex f R lv tg)(s:Zk H H')(hb:∀b∈ex',b∈ex\/(H b=none/\∃ys,H' b=some (.lst ys))):RdAt C H' a L T ex' f R lv tg:=by
 have h':=h.same s;obtain⟨ok,rk,st,ne,al,dx,p,df,dw,ns,zs,h1,h2,h3,h4,⟨w1,m,D,w2,w3,w4,w5⟩,h6,h7,h8⟩:=h;have wx:∀b∈L::T::ex',b∈L::T::ex\/H b=none:=fun b z=>by
  rcases List.mem_cons.mp z with rfl|z
  ·exact .inl (List.mem_cons_self ..)
  ·rcases List.mem_cons.mp z with rfl|z
   ·exact .inl (List.mem_cons_of_mem _ (List.mem_cons_self ..))
   ·rcases hb b z with z|z
    ·exact .inl (List.mem_cons_of_mem _ (List.mem_cons_of_mem _ z))
    ·exact .inr z.1
 have wid:∀c o,H c=some o->c∉L::T::ex->c∉L::T::ex':=fun c o e hc hm=>(wx c hm).elim hc fun z=>by rw[z] at e;cases e
 have kt:Zja H H':=fun b xs e=>s _ _ e;refine⟨ok,rk,st,ne,fun x hx=>?_,dx,p,df,dw,ns,zs,s _ _ h1,h2.same s,h3.same s,h4,⟨wid _ _ w2 w1,m,D,s _ _ w2,w3,w4,fun k a' e=>?_⟩,s _ _ h6,Zeu (fun b o _ _ e=>s b o e) kt (Zgg wx h7),s _ _ h8⟩
 ·rcases hb x hx with hx|hx
  ·exact h'.al x hx
  ·refine⟨ZaP (fun z=>?_) (fun z=>?_),hx.2⟩
   ·rw[<- z,hx.1] at h6;cases h6
   ·rw[<- z,hx.1] at h8;cases h8
 ·obtain⟨u1,mk,ts,u2,u3,u4,u5⟩:=w5 k a' e;refine⟨wid _ _ u2 u1,mk,ts,s _ _ u2,u3,u4,fun t=>?_⟩;rcases u5 t with h|⟨l,zs,g1,g2,g3,g4,g5⟩
  ·exact .inl h
  ·exact .inr ⟨l,zs,g1,wid _ _ g3 g2,s _ _ g3,g4.keep kt,g5⟩
end
theorem ZcA{ts:List Int}{R:List Srd.Qd}{L0 L1:List (List Pr)}{tg t1:List Str}{w:Str}(h:Stp ts R L0 tg w L1 t1) :
  (w≠SL/\∃lv l ks,L0=lv ++ [l]/\ZiI ks/\(∀x,x∈ks↔Bgs R l w x)/\ks ≠ []/\L1=L0 ++ [ks.map dup]/\t1=tg ++ [w]) \/
  (w=SL/\∃lv l1 l l2 w0,L0=(lv ++ [l1]) ++ [l]/\tg=t1 ++ [w0]/\(∃b,Edd ts l b)/\Zg5 l2/\(∀p,p∈l2↔Shu ts R l1 l w0 p)/\L1=lv ++ [l2]):=by
 cases h with
 | tag a b c d=>exact .inl ⟨a,_,_,_,rfl,b,c,d,rfl,rfl⟩
 | fin a b c=>exact .inr ⟨rfl,_,_,_,_,_,rfl,rfl,a,b,c,rfl⟩
theorem ZbC{α : Type}{a b:List α}{x y : α}(h:a ++ [x]=b ++ [y]):a=b/\x=y:=by
 have:=List.append_inj' h rfl;exact⟨this.1,by injection this.2⟩
theorem Zj5{ts:List Int}{R R':List Srd.Qd}{L0 L1 L2:List (List Pr)}{tg t1 t2:List Str}{w:Str}(hR:∀q,q∈R↔q∈R')(a:Stp ts R L0 tg w L1 t1)(b:Stp ts R' L0 tg w L2 t2):(L1,t1)=(L2,t2):=by
 have hB:∀l w x,Bgs R l w x↔Bgs R' l w x:=fun l w x=>by simp only[Bgs,hR]
 have hS:∀l1 l w p,Shu ts R l1 l w p↔Shu ts R' l1 l w p:=fun l1 l w p=>by simp only[Shu,hR]
 rcases ZcA a with⟨a0,lv,l,ks,e1,a1,a2,a3,rfl,rfl⟩|⟨a0,lv,l1,l,l2,w0,e1,e2,a1,a2,a3,rfl⟩
 ·rcases ZcA b with⟨b0,lv',l',ks',e1',b1,b2,b3,rfl,rfl⟩|⟨b0,_⟩
  ·obtain⟨_,rfl⟩:=ZbC (e1.symm.trans e1');rw[ZgR a1 b1 fun x=>(a2 x).trans ((hB l w x).trans (b2 x).symm)]
  ·exact absurd b0 a0
 ·rcases ZcA b with⟨b0,_⟩|⟨b0,lv',l1',l',l2',w0',e1',e2',b1,b2,b3,rfl⟩
  ·exact absurd a0 b0
  ·obtain⟨e3,rfl⟩:=ZbC (e1.symm.trans e1');obtain⟨rfl,rfl⟩:=ZbC e3;obtain⟨rfl,rfl⟩:=ZbC (e2.symm.trans e2');rw[Srd.ZfF.one a2 b2 fun x=>(a3 x).trans ((hS l1 l w0 x).trans (b3 x).symm)]
abbrev RS:=List (List Pr)×List Str
def Tks(f:FQ)(p:RS)(w:Str)(p':RS):Prop := ∃R,ROk f R/\Stp f.ts R p.1 p.2 w p'.1 p'.2
open Classical in
noncomputable def tkF(f:FQ)(p:RS)(w:Str):Option RS:=if h:∃p',Tks f p w p' then some h.choose else none
theorem ZiU{f:FQ}{R:List Srd.Qd}{lv lv':List (List Pr)}{tg tg':List Str}{w:Str}(hR:ROk f R)(h:Stp f.ts R lv tg w lv' tg'):tkF f (lv,tg) w=some (lv',tg'):=by
 have hh:∃p',Tks f (lv,tg) w p':=⟨(lv',tg'),R,hR,h⟩;unfold tkF;rw[dif_pos hh];obtain⟨R',h1,h2⟩:=hh.choose_spec;exact congrArg some (Zj5 (fun q=>(h1 q).trans (hR q).symm) h2 h)
theorem Zjk{f:FQ}{R:List Srd.Qd}{lv:List (List Pr)}{l:List Pr}{tg:List Str}{w:Str}(hR:ROk f R)(h:Nst f.ts R l tg w):tkF f (lv ++ [l],tg) w=none:=by
 unfold tkF;refine dif_neg fun⟨p',R',h1,h2⟩=>?_;rcases ZcA h2 with⟨a0,lv',l',ks,e1,a1,a2,a3,_⟩|⟨a0,lv',l1,l',l2,w0,e1,e2,a1,_⟩
 ·obtain⟨_,rfl⟩:=ZbC e1;rcases h with⟨_,h⟩|⟨h,_⟩
  ·cases ks with
   | nil=>exact a3 rfl
   | cons x ks =>
    obtain⟨p,hp,r,hr⟩:=(a2 x).mp (List.mem_cons_self ..);exact h x ⟨p,hp,r,(hR _).mpr ((h1 _).mp hr)⟩
  ·exact a0 h
 ·obtain⟨_,rfl⟩:=ZbC e1;rcases h with⟨h,_⟩|⟨_,h|h⟩
  ·exact h a0
  ·rw[show tg=_ from e2] at h;exact absurd h (List.append_ne_nil_of_right_ne_nil _ (List.cons_ne_nil _ _))
  ·obtain⟨b,hb⟩:=a1;exact h b hb
theorem ZhE{f:FQ}{p p':RS}{w:Str}(h:tkF f p w=some p'):Tks f p w p':=by
 unfold tkF at h
 split at h
 ·rename_i hh
  injection h with h;rw[<- h];exact hh.choose_spec
 ·cases h
def FT(f:FQ):Prop := ∀q∈f.qs,ZdQ q.2.1/\q.2.1.length<=8
theorem Zej{f:FQ}{p p':RS}{w:Str}(hf:FT f)(h:tkF f p w=some p'):((w=SL/\p.2 ≠ [])\/(ZdQ w/\w.length<=8))/\(p'.2.length=if w=SL then p.2.length-1 else p.2.length+1):=by
 obtain⟨R,hR,s⟩:=ZhE h;rcases ZcA s with⟨a0,lv',l',ks,e1,a1,a2,a3,e4,e5⟩|⟨a0,lv',l1,l',l2,w0,e1,e2,a1,_⟩
 ·refine⟨.inr ?_,by rw[e5,if_neg a0,List.length_append];rfl⟩;cases ks with
  | nil=>exact absurd rfl a3
  | cons x ks =>
   obtain⟨p,hp,r,hr⟩:=(a2 x).mp (List.mem_cons_self ..);exact hf _ ((hR _).mp hr).1
 ·refine⟨.inl ⟨a0,by rw[e2];exact List.append_ne_nil_of_right_ne_nil _ (List.cons_ne_nil _ _)⟩,?_⟩;rw[if_pos a0,e2,List.length_append];rfl
theorem Zj9{f:FQ}{p p':RS}{w:Str}(h:tkF f p w=some p'):p'.2.length<=p.2.length+1:=by
 obtain⟨R,hR,s⟩:=ZhE h;rcases ZcA s with⟨_,_,_,_,_,_,_,_,_,e5⟩|⟨_,_,_,_,_,_,_,e2,_⟩
 ·rw[e5,List.length_append];exact Nat.le_refl _
 ·rw[e2,List.length_append];lia
abbrev HS:=RS×Option Nat×List Str
noncomputable def hdS(f:FQ)(s:HS)(w:Str):HS:=match s.2.1 with
 | some n=>(s.1,some n,s.2.2 ++ [w])
 | none=>match tkF f s.1 w with
  | some p=>(p,none,s.2.2 ++ [w])
  | none=>(s.1,some s.2.2.length,s.2.2 ++ [w])
noncomputable def hdL(f:FQ)(s:HS)(ws:List Str):HS:=ws.foldl (hdS f) s
theorem Zi2(f:FQ)(s:HS)(w:Str):(hdS f s w).2.2=s.2.2 ++ [w]/\(hdS f s w).1.2.length<=s.1.2.length+1:=by
 unfold hdS
 split
 ·exact⟨rfl,Nat.le_succ _⟩
 ·split
  ·rename_i h
   exact⟨rfl,Zj9 h⟩
  ·exact⟨rfl,Nat.le_succ _⟩
theorem Zc9(f:FQ):∀(ws:List Str)(s:HS),(hdL f s ws).2.2=s.2.2++ws/\(hdL f s ws).1.2.length<=s.1.2.length+ws.length
 | [],s=>⟨(List.append_nil _).symm,Nat.le_refl _⟩
 | w::ws,s=>by
  obtain⟨h1,h2⟩:=Zc9 f ws (hdS f s w);obtain⟨h3,h4⟩:=Zi2 f s w;refine⟨?_,?_⟩
  ·show(hdL f (hdS f s w) ws).2.2=_;rw[h1,h3,List.append_assoc];rfl
  ·show(hdL f (hdS f s w) ws).1.2.length<=_;rw[List.length_cons];lia
theorem ZgA(f:FQ)(s:HS)(ws:List Str)(w:Str):hdL f s (ws ++ [w])=hdS f (hdL f s ws) w:=by
 unfold hdL;rw[List.foldl_append];rfl
def brV(b:Option Nat):V:=match b with|none=>.non|some n=>.int (n:Int)
def RdE(C:Addr)(H:Hp)(a L T:Addr)(ex:List Addr)(f:FQ)(p:RS):Prop := ∃R,RdAt C H a L T ex f R p.1 p.2
theorem RdE.keep{C a L T:Addr}{ex Y:List Addr}{H H':Hp}{f:FQ}{p:RS}(h:RdE C H a L T ex f p)(k:Zv Y H H')(hy:∀y∈Y,Oth ex H H' y):RdE C H' a L T ex f p:=by
 obtain⟨R,h⟩:=h;exact⟨R,Zkb h k hy⟩
theorem RdE.same{C a L T:Addr}{ex:List Addr}{H H':Hp}{f:FQ}{p:RS}(h:RdE C H a L T ex f p)(s:Zk H H'):RdE C H' a L T ex f p:=by
 obtain⟨R,h⟩:=h;exact⟨R,Fg.RdAt.same h s⟩
theorem RdE.wide{C a L T:Addr}{ex ex':List Addr}{H H':Hp}{f:FQ}{p:RS}(h:RdE C H a L T ex f p)(s:Zk H H')(hb:∀b∈ex',b∈ex\/(H b=none/\∃ys,H' b=some (.lst ys))):RdE C H' a L T ex' f p:=by
 obtain⟨R,h⟩:=h;exact⟨R,ZkC h s hb⟩
theorem RdE.lists{C a L T:Addr}{ex:List Addr}{H:Hp}{f:FQ}{p:RS}(h:RdE C H a L T ex f p):(∃xs,H L=some (.lst xs))/\(∃xs,H T=some (.lst xs))/\∀x∈ex,x≠L/\x≠T/\∃xs,H x=some (.lst xs):=by
 obtain⟨R,h⟩:=h;obtain⟨dx,q,df,dw,ns,zs,h1,h2,h3,h4,h5,h6,h7,h8⟩:=h.ho;exact⟨⟨_,h6⟩,⟨_,h8⟩,fun x hx=>⟨fun z=>(h.al x hx).1 (by rw[z];exact List.mem_cons_self ..),fun z=>(h.al x hx).1 (by rw[z];exact List.mem_cons_of_mem _ (List.mem_cons_self ..)),(h.al x hx).2⟩⟩
theorem RdE.obj{C a L T:Addr}{ex:List Addr}{H:Hp}{f:FQ}{p:RS}(h:RdE C H a L T ex f p):∃dx p df dw,H a=some (.ins C dx (rdF p df dw L T)):=by
 obtain⟨R,h⟩:=h;obtain⟨dx,q,df,dw,ns,zs,h1,_⟩:=h.ho;exact⟨dx,_,_,_,h1⟩
def WlF(f:FQ)(p:RS):Prop:=p.2=[]/\∃lv l x,p.1=lv ++ [l]/\Edd f.ts l x
theorem RdE.opn{C a L T:Addr}{ex:List Addr}{H:Hp}{f:FQ}{p:RS}(h:RdE C H a L T ex f p):∃R lv l,RdAt C H a L T ex f R (lv ++ [l]) p.2/\(∀w,Nst f.ts R l p.2 w->tkF f p w=none)/\(∀w lv' tg',Stp f.ts R (lv ++ [l]) p.2 w lv' tg'->tkF f p w=some (lv',tg'))/\((p.2=[]/\∃x,Edd f.ts l x)↔WlF f p):=by
 obtain⟨R,h⟩:=h;obtain⟨lv,tg⟩:=p;obtain⟨lv0,l,e⟩:=Fg.RdAt.lastL h;have e:lv=lv0 ++ [l]:=e;subst e;refine⟨R,lv0,l,h,fun w n=>Zjk h.rk n,fun w lv' tg' s=>ZiU h.rk s,⟨fun⟨h1,x,h2⟩=>⟨h1,lv0,l,x,rfl,h2⟩,fun⟨h1,lv',l',x,e,h2⟩=>⟨h1,x,?_⟩⟩⟩;obtain⟨_,rfl⟩:=ZbC e;exact h2
def Zif:Sp:=fun vs H Q _=>∃c p m:Int,vs=[.int c,.int p,.int m]/\0<p/\p<100000/\0<m/\m<100000/\∀v:Int,0<=v->v<m->Q (.int v) H
theorem Zir(B:∀x∈ZbJ,mg x=none)(F:Fun K "_law_pick" "_law_pick" ZbW f fd):FnOk P w K mg base CX0 1 f fd ["_law_cell_here","_law_prime","_law_many"] Zif:=by
 refine F.ok Zia (fun vs H Q E h=>?_) (fun cdv A outer s H vs Q E hr h=>?_)
 ·obtain⟨c,p,m,rfl,_⟩:=h;rfl
 obtain⟨c,p,m,rfl,p0,p1,m0,m1,q⟩:=h;refine⟨_,(Zj (ZC (Zr ZV (Zr ZV (Zr ZcQ (Zr ZV (pv 0) (pv 1)) Zg) (pv 1)) (pv 2)))),?_⟩;have b1:=Int.emod_nonneg c (Int.ne_of_gt p0);have b2:=Int.emod_lt_of_pos c p0;exact⟨_,rfl,_,rfl,_,_,rfl,rfl,p0,_,_,rfl,rfl,.inl ⟨by lia,by lia⟩,_,rfl,_,_,rfl,rfl,p0,_,rfl,_,_,rfl,rfl,m0,q _ (Int.emod_nonneg _ (Int.ne_of_gt m0)) (Int.emod_lt_of_pos _ m0)⟩
def Zdy(K:PySem.W.Frag):Sp:=fun vs H Q _=>∃(a tr:Addr)(ns:List Int)(at_:Int)(ts:List Str),vs=[.ref a,.int at_,.ref tr]/\SqL K H a (ns.map V.int)/\ns.length<=63/\0<=at_/\at_<=100/\H tr=some (.lst (ts.map V.str))/\ts.length=3/\(∀t∈ts,ZdQ t/\t.length<=8)/\∀(r:Addr)(f:FQ)(H':Hp),Zk H H'->FmQ H' r f->OkR f->FT f->Q (.ref r) H'
structure Drn(m:Int)(i:Nat)(hs:List Int):Prop where
 ri:ZiI hs
 lt:∀x∈hs,0<=x/\x<(i:Int)
 ln:hs.length<=i
theorem Drn.put{m:Int}{i:Nat}{hs:List Int}(h:Drn m i hs):Drn m (i+1) (hs ++ [0+(i:Int)]):=by
 refine⟨List.pairwise_append.mpr ⟨h.ri,List.pairwise_singleton ..,fun x hx y hy=>?_⟩,fun x hx=>?_,?_⟩
 ·rw[List.mem_singleton.mp hy];have:=(h.lt x hx).2;lia
 ·rcases List.mem_append.mp hx with hx|hx
  ·have:=h.lt x hx;lia
  ·rw[List.mem_singleton.mp hx];lia
 ·have:=h.ln;rw[List.length_append,List.length_singleton];lia
theorem Drn.not{m:Int}{i:Nat}{hs:List Int}(h:Drn m i hs):Drn m (i+1) hs:=⟨h.ri,fun x hx=>by have:=h.lt x hx;lia,by have:=h.ln;lia⟩
set_option maxHeartbeats 4000000 in
theorem Zhb(B:∀x∈ZbJ,mg x=none)(g_l_cell:Has P w K mg base "_law_cell" ["_law_script","_law_k"] 1 (Zdv K)) (g_l_pick:Has P w K mg base "_law_pick" ["_law_cell_here","_law_prime","_law_many"] 1 Zif) (F:Fun K "_law_shape" "_law_shape" ZS f fd):FnOk P w K mg base CX0 2 f fd ["_law_script","_law_at","_law_tags_here"] (Zdy K):=by
 refine F.ok ZaC (fun vs H Q E h=>?_) (fun cdv A outer s H vs Q E hr h=>?_)
 ·obtain⟨a,tr,ns,at_,ts,rfl,_⟩:=h;rfl
 obtain⟨a,tr,ns,at_,ts,rfl,hS,h63,t0,t1,hT,h3,hlt,q⟩:=h;have hu:=Zcz hr;have hu1:(A.deeper (PyProof.Rows.envOfC (Str.ofString "_law_shape") (Zh ZS) s.heap.objs.size f cdv)).units+1<cLine:=by have:=hr.un;omega
 refine Zq ((Ze ZS).drop 7) (Zj (ZC (Zax (Za (pv 3) (Za (Zay ZaA rfl (B "tuple" (by decide)) Zbs (Za (pv 6) Zf)) (Za (Zay ZaA rfl (B "tuple" (by decide)) Zbs (Za (pv 5) Zf)) (Za (Zay ZaA rfl (B "tuple" (by decide)) Zbs (Za (ZF (ZdP rfl) rfl (B "sorted" (by decide)) Zcs (Za (pv 7) Zf)) Zf)) Zf))))))) (fun u7 h7 e7=>?_);refine Zq ((Zab ((Ze ZS).getD 6 (.Pass ⟨0,0,0,0⟩))).drop 2) (Zj (Zdk hu1 (pv 7) (Zax (Za (Z4 g_l_pick hr rfl (Za (pv 9) (Za Zg (Za (pv 3) Zf)))) (Za (pv 10) (Za (Z4 g_l_pick hr rfl (Za (pv 9) (Za Zg (Za (pv 3) Zf)))) (Za (Z4 g_l_pick hr rfl (Za (pv 9) (Za Zg (Za (pv 3) Zf)))) Zf))))) Zba rfl)) (fun u6_2 h6_2 e6_2=>?_);refine Zq ((Zab ((Ze ZS).getD 6 (.Pass ⟨0,0,0,0⟩))).drop 1) (Zc (Zt (i:=10) ZaC.nd rfl (Or.inl rfl) (Zae Zaa (pv 2) (Z4 g_l_pick hr rfl (Za (pv 9) (Za Zg (Za Zg Zf)))) (fun _ _=>rfl))) h6_2) (fun u6_1 h6_1 e6_1=>?_);refine Zq ((Zab ((Ze ZS).getD 6 (.Pass ⟨0,0,0,0⟩))).drop 0) (Zc (Zt (i:=9) ZaC.nd rfl (Or.inl rfl) (Z4 g_l_cell hr rfl (Za (pv 0) (Za (Zr ZaZ (Zr ZaZ (pv 1) Zg) (pv 8)) Zf)))) h6_1) (fun u6_0 h6_0 e6_0=>?_);refine Zq ((Ze ZS).drop 6) (Zc (Zbc PassesOwn.never rfl (ZaW rfl (B "range" (by decide)) (Za (Zr ZaZ Zg (Zr ZV (Zr Zat (Z4 g_l_cell hr rfl (Za (pv 0) (Za (pv 1) Zf))) Zg) Zg)) Zf)) (Zu (i:=8) ZaC.nd rfl (Or.inl rfl))
   h6_0) h7) (fun u6 h6 e6=>?_)
 refine Zq ((Ze ZS).drop 5) (Zc (Zt (i:=7) ZaC.nd rfl (Or.inl rfl) ZeB) h6) (fun u5 h5 e5=>?_);refine Zq ((Ze ZS).drop 4) (Zc (Zb4 (cl:=_) (n0:=6) ZaC.nd rfl (Or.inl rfl) ["_law_k"] [("_law_some",4)] (ZaW rfl (B "range" (by decide)) (Za (pv 3) Zf)) (fun _ _ _ _=>(Zu (i:=0) (show List.Nodup (["_law_k","_law_some"]:List Str) by decide) rfl (Or.inl rfl))) (fun _ _ _ _=>(ZQ Zb2 (Zr ZV (Zr Zat (pv 1) (Zae (Zgp (K:=K) rfl) (ZaH (Za Zg (Za Zg (Za Zg Zf)))) (pv 0) (fun _ _=>rfl))) Zg) Zg (Z2 _))) (fun _ _ _ _=>(pv 0)) rfl rfl (by decide) rfl (by decide) (Zeb (by(repeat' first|exact List.forall_mem_nil _|refine List.forall_mem_cons.mpr ⟨?_,?_⟩) <;> rfl)) (Zcv (by(repeat' first|exact List.forall_mem_nil _|refine List.forall_mem_cons.mpr ⟨?_,?_⟩) <;> first|(intro h;exact⟨_,rfl⟩)|(intro h;exact absurd h (by decide)))) (fun _=>by(repeat' first|exact List.forall_mem_nil _|refine List.forall_mem_cons.mpr ⟨?_,?_⟩) <;> exact⟨rfl,rfl,Or.inl rfl⟩) (fun _=>rfl) rfl) h5) (fun u4 h4 e4=>?_)
 refine Zq ((Ze ZS).drop 3) (Zc (Zt (i:=4) ZaC.nd rfl (Or.inr rfl) (Zr ZaZ Zg (Zr ZV (Zr Zat (Z4 g_l_cell hr rfl (Za (pv 0) (Za (pv 1) Zf))) Zg) Zg))) h4) (fun u3 h3 e3=>?_);refine Zq ((Ze ZS).drop 2) (Zc (Zb4 (cl:=_) (n0:=5) ZaC.nd rfl (Or.inl rfl) ["_law_k"] [("_law_some",4)] (ZaW rfl (B "range" (by decide)) (Za (pv 3) Zf)) (fun _ _ _ _=>(Zu (i:=0) (show List.Nodup (["_law_k","_law_some"]:List Str) by decide) rfl (Or.inl rfl))) (fun _ _ _ _=>(ZQ Zb2 (Zr ZV (Zr Zat (pv 1) (Zae (Zgp (K:=K) rfl) (ZaH (Za Zg (Za Zg (Za Zg Zf)))) (pv 0) (fun _ _=>rfl))) Zg) Zg (Z2 _))) (fun _ _ _ _=>(pv 0)) rfl rfl (by decide) rfl (by decide) (Zeb (by(repeat' first|exact List.forall_mem_nil _|refine List.forall_mem_cons.mpr ⟨?_,?_⟩) <;> rfl)) (Zcv (by(repeat' first|exact List.forall_mem_nil _|refine List.forall_mem_cons.mpr ⟨?_,?_⟩) <;> first|(intro h;exact⟨_,rfl⟩)|(intro h;exact absurd h (by decide)))) (fun _=>by(repeat' first|exact List.forall_mem_nil _|refine List.forall_mem_cons.mpr ⟨?_,?_⟩) <;> exact⟨rfl,rfl,Or.inl rfl⟩) (fun _=>rfl) rfl) h3) (fun u2 h2 e2=>?_)
 refine Zq ((Ze ZS).drop 1) (Zc (Zt (i:=4) ZaC.nd rfl (Or.inr rfl) (Zr ZaZ Zg (Zr ZV (Zr Zat (Z4 g_l_cell hr rfl (Za (pv 0) (Za (pv 1) Zf))) Zg) Zg))) h2) (fun u1 h1 e1=>?_);refine Zq ((Ze ZS).drop 0) (Zc (Zt (i:=3) ZaC.nd rfl (Or.inl rfl) (Zr ZaZ Zg (Zr ZV (Z4 g_l_cell hr rfl (Za (pv 0) (Za (pv 1) Zf))) Zg))) h1) (fun u0 h0 e0=>?_);refine⟨u0,h0,?_⟩;refine Zo e0 ?_;refine⟨_,rfl,_,rfl,a,ns,at_,rfl,hS,h63,t0,by omega,fun v0=>?_⟩;obtain⟨n3,en3,hn3⟩:=Zkr v0 (n:=3) (by decide);refine⟨_,_,rfl,rfl,(by show(0:Int)<3;decide),_,_,rfl,rfl,?_⟩;have hm3:(1+v0 % 3:Int)=1+(n3:Int):=by rw[<- en3];rfl
 show u1 _ [some (.ref a),some (.int at_),some (.ref tr),some (.int (1+v0 % 3)),_,_,_,_,_,_,_] _;rw[hm3];generalize hmd:(1+(n3:Int))=m;have m1:1<=m:=by omega
 have m3:m<=3:=by omega
 refine Zo e1 ?_;refine⟨_,rfl,_,rfl,a,ns,at_,rfl,hS,h63,t0,by omega,fun v1=>?_⟩;refine⟨_,_,rfl,rfl,⟨by decide,by decide⟩,_,_,rfl,rfl,(by show(0:Int)<7;decide),_,_,rfl,rfl,?_⟩;have row:∀(H0:Hp)(pl:Addr)(i:Nat),i<m.toNat->H0 pl=none->∃v:Int,atI [V.int 1,.int 2,.int 4] (0+(i:Int))=some (.int v)/\0<v/\v<10:=fun H0 pl i hi _=>by
  have hi3:i<3:=by omega
  match i,hi3 with
  | 0,_=>exact⟨1,rfl,by decide,by decide⟩
  | 1,_=>exact⟨2,rfl,by decide,by decide⟩
  | 2,_=>exact⟨4,rfl,by decide,by decide⟩
 show u2 _ _ _;refine Zo e2 ?_;refine⟨_,rfl,m,rfl,by omega,by omega,fun pf hpf=>?_⟩;refine Zdd (lo:=0) (n:=m.toNat) (p:=pf) (fun i ys σ H2=>∃(v0:Option V)(x:Int)(hs:List Int),σ =[v0,some (.int x)]/\Zk H H2/\H2 pf=some (.lst ys)/\ys=hs.map V.int/\Drn m i hs)
  ⟨none,_,[],rfl,Zk.new hpf,Zb,rfl,⟨.nil,(fun _ h=>nomatch h),Nat.le_refl _⟩⟩ ?_ ?_ ?_
 ·rintro i ys σ H2 _ ⟨v0,x,hs,_,_,h,_⟩;exact h
 ·rintro i ys σ H2 hi ⟨v0,x,hs,rfl,sm,hp,rfl,hd⟩;have hln:=hd.ln;refine⟨_,rfl,by show(3:Nat)<=sizeLine;decide,fun pl hpl=>?_⟩;obtain⟨v,hv,v1,v2⟩:=row H2 pl i hi hpl;refine⟨_,rfl,pl,_,_,_,rfl,rfl,SqL.of Zb,hv,_,_,rfl,rfl,⟨by omega,by omega⟩,_,_,rfl,rfl,(by show(0:Int)<2;decide),rfl,_,rfl,ZbX (fun _=>?_) (fun _=>?_)⟩
  ·have s2:Zk H2 (upd H2 pl (.lst [V.int 1,.int 2,.int 4])):=Zk.new hpl;exact⟨_,rfl,s2 _ _ hp,Zn (by rw[List.length_map];omega),CW.next hi ⟨_,x,hs ++ [0+(i:Int)],rfl,(sm.trans s2).upd_new hpf,Zb,by rw[List.map_append];rfl,hd.put⟩⟩
  ·have s2:Zk H2 (upd H2 pl (.lst [V.int 1,.int 2,.int 4])):=Zk.new hpl;exact CW.next hi ⟨_,x,hs,rfl,sm.trans s2,s2 _ _ hp,rfl,hd.not⟩
 rintro ys σ H2 ⟨v0',x',es,rfl,s2,hp2,rfl,hdf⟩;show u3 _ _ _;refine Zo e3 ?_;refine⟨_,rfl,_,rfl,a,ns,at_,rfl,s2.seq hS,h63,t0,by omega,fun v2=>?_⟩;refine⟨_,_,rfl,rfl,⟨by decide,by decide⟩,_,_,rfl,rfl,(by show(0:Int)<7;decide),_,_,rfl,rfl,?_⟩;show u4 _ _ _;refine Zo e4 ?_;refine⟨_,rfl,m,rfl,by omega,by omega,fun pb hpb=>?_⟩;refine Zdd (lo:=0) (n:=m.toNat) (p:=pb) (fun i ys σ H3=>∃(v0:Option V)(x:Int)(hs:List Int),σ =[v0,some (.int x)]/\Zk H2 H3/\H3 pb=some (.lst ys)/\ys=hs.map V.int/\Drn m i hs)
  ⟨none,_,[],rfl,Zk.new hpb,Zb,rfl,⟨.nil,(fun _ h=>nomatch h),Nat.le_refl _⟩⟩ ?_ ?_ ?_
 ·rintro i ys σ H3 _ ⟨v0,x,hs,_,_,h,_⟩;exact h
 ·rintro i ys σ H3 hi ⟨v0,x,hs,rfl,sm,hp,rfl,hd⟩;have hln:=hd.ln;refine⟨_,rfl,by show(3:Nat)<=sizeLine;decide,fun pl hpl=>?_⟩;obtain⟨v,hv,v1,v2⟩:=row H3 pl i hi hpl;refine⟨_,rfl,pl,_,_,_,rfl,rfl,SqL.of Zb,hv,_,_,rfl,rfl,⟨by omega,by omega⟩,_,_,rfl,rfl,(by show(0:Int)<2;decide),rfl,_,rfl,ZbX (fun _=>?_) (fun _=>?_)⟩
  ·have s2:Zk H3 (upd H3 pl (.lst [V.int 1,.int 2,.int 4])):=Zk.new hpl;exact⟨_,rfl,s2 _ _ hp,Zn (by rw[List.length_map];omega),CW.next hi ⟨_,x,hs ++ [0+(i:Int)],rfl,(sm.trans s2).upd_new hpb,Zb,by rw[List.map_append];rfl,hd.put⟩⟩
  ·have s2:Zk H3 (upd H3 pl (.lst [V.int 1,.int 2,.int 4])):=Zk.new hpl;exact CW.next hi ⟨_,x,hs,rfl,sm.trans s2,s2 _ _ hp,rfl,hd.not⟩
 rintro ys σ H3 ⟨v0'',x'',hs,rfl,s3,hp3,rfl,hdb⟩;have s03:=s2.trans s3;show u5 _ _ _;refine Zo e5 ?_;refine fun d hd=>?_;have s4:Zk H3 (upd H3 d (.dT [])):=Zk.new hd;have s04:=s03.trans s4;show u6 _ _ _;refine Zo e6 ?_;refine⟨_,rfl,_,rfl,a,ns,at_,rfl,s04.seq hS,h63,t0,by omega,fun v3=>?_⟩;have b7:=Int.emod_nonneg (v3 / 147) (by decide:(7:Int)≠0);have b7':=Int.emod_lt_of_pos (v3 / 147) (by decide:(0:Int)<7);refine⟨_,_,rfl,rfl,⟨by decide,by decide⟩,_,_,rfl,rfl,(by show(0:Int)<7;decide),_,_,rfl,rfl,_,rfl,by omega,by omega,Zbx (lo:=0) (n:=(2+v3 / 147 % 7).toNat) (fun i σ H1=>∃(x:Int)(v8 v9 v10:Option V)(mm:List (List Key×V))(qs:List Srd.Qd),σ =[some (.ref a),some (.int at_),some (.ref tr),some (.int m),some (.int x),some (.ref pf),some (.ref pb),some (.ref d),v8,v9,v10]/\Zk H3 H1/\H1 d=some (.dT mm)/\mm.map (·.1)=qs.map kOf/\qs.Nodup/\qs.length<=i/\QB m qs/\∀q∈qs,q.2.1∈ts)
  ⟨_,none,none,none,[],[],rfl,s4,Zb,rfl,List.nodup_nil,Nat.le_refl _,(fun _ h=>nomatch h),(fun _ h=>nomatch h)⟩ ?_ ?_⟩
 ·rintro i σ H1 hi ⟨x,v8,v9,v10,mm,qs,rfl,s1,hm,hk,hnd,hql,hqb,htg⟩;have hi9:i<9:=by omega
  have hkl:mm.length=qs.length:=by have:=congrArg List.length hk;simpa using this
  have s01:=s03.trans s1;refine Zo e6_0 ?_;refine⟨_,rfl,_,rfl,_,_,rfl,rfl,_,rfl,_,_,rfl,rfl,a,ns,_,rfl,s01.seq hS,h63,by omega,by omega,fun c=>?_⟩;refine Zo e6_1 ?_;refine⟨_,rfl,_,rfl,c,10007,2,rfl,by decide,by decide,by decide,by decide,fun k k0 k1=>?_⟩;have hkl2:k.toNat<ts.length:=by omega
  have hat:atI (ts.map V.str) k=some (.str ts[k.toNat]):=by
   have e:=Zek (ws:=ts) (n:=k.toNat) hkl2;rw[Int.toNat_of_nonneg k0] at e;exact e
  refine⟨tr,_,k,_,rfl,rfl,SqL.of (s01 _ _ hT),hat,?_⟩;refine Zo e6_2 ?_;refine⟨_,rfl,_,rfl,_,rfl,c,10009,m,rfl,by decide,by decide,by omega,by omega,fun x1 x10 x11=>?_⟩;refine⟨_,rfl,_,rfl,_,rfl,c,10037,m,rfl,by decide,by decide,by omega,by omega,fun x2 x20 x21=>?_⟩;refine⟨_,rfl,_,rfl,c,10039,m,rfl,by decide,by decide,by omega,by omega,fun x3 x30 x31=>⟨by show(4:Nat)<=sizeLine;decide,fun t ht=>?_⟩⟩;refine⟨d,_,rfl,Zit.t (k:=kOf (x1,ts[k.toNat],x2,x3)) (by rw[Zd (Zi hm ht)];exact hm) Zb (Zn (by omega)),?_⟩;generalize hq:(x1,ts[k.toNat],x2,x3)=qq;have hqq:∀q∈(if qq∈qs then qs else qs ++ [qq]),q∈qs\/q=qq:=fun q hq=>by
   split at hq
   ·exact .inl hq
   ·rcases List.mem_append.mp hq with h|h
    ·exact .inl h
    ·exact .inr (List.mem_singleton.mp h)
  have hdH3:H3 d=none:=hd;refine⟨_,_,_,_,_,if qq∈qs then qs else qs ++ [qq],rfl,(s1.trans (Zk.new ht)).upd_new hdH3,Zb,Zlq hk _ _,?_,?_,fun q hq'=>?_,fun q hq'=>?_⟩
  ·split
   ·exact hnd
   ·rename_i hno
    exact List.nodup_append.mpr ⟨hnd,List.pairwise_singleton _ _,fun x hx y hy e=>hno (by rw[<- List.mem_singleton.mp hy,<- e];exact hx)⟩
  ·split
   ·omega
   ·rw[List.length_append,List.length_singleton];omega
  ·rcases hqq q hq' with h|rfl
   ·exact hqb q h
   ·rw[<- hq];exact⟨⟨x10,x11⟩,⟨x20,x21⟩,x30,x31⟩
  ·rcases hqq q hq' with h|rfl
   ·exact htg q h
   ·rw[<- hq];exact List.getElem_mem _
 rintro σ H1 ⟨x,v8,v9,v10,mm,qs,rfl,s1,hm,hk,hnd,hql,hqb,htg⟩;have hkl:mm.length=qs.length:=by have:=congrArg List.length hk;simpa using this
 show u7 _ _ _;refine Zo e7 ?_;refine⟨_,rfl,_,rfl,pb,_,rfl,.inl ⟨SqL.of (s1 _ _ hp3),fun r1 hr1=>?_⟩⟩;have s5:Zk H1 (upd H1 r1 (.tup (hs.map V.int))):=Zk.new hr1;have e5':(upd H1 r1 (.tup (hs.map V.int))) r1=some (.tup (hs.map V.int)):=Zb;generalize upd H1 r1 (.tup (hs.map V.int))=H5 at s5 e5' ⊢;refine⟨_,rfl,pf,_,rfl,.inl ⟨SqL.of (s5 _ _ (s1 _ _ (s3 _ _ hp2))),fun r2 hr2=>?_⟩⟩;have s6:Zk H5 (upd H5 r2 (.tup (es.map V.int))):=Zk.new hr2;have e6':(upd H5 r2 (.tup (es.map V.int))) r2=some (.tup (es.map V.int)):=Zb;generalize upd H5 r2 (.tup (es.map V.int))=H6 at s6 e6' ⊢;refine⟨_,rfl,d,mm,qs,rfl,s6 _ _ (s5 _ _ hm),by omega,hk,fun r3 zs ms hr3 hso hperm hQ3=>?_⟩;have s7:Zk H6 (upd H6 r3 (.lst zs)):=Zk.new hr3;refine⟨r3,_,rfl,.inl ⟨SqL.of Zb,fun u hu=>?_⟩⟩;have s8:=s7.trans (Zk.new (o:=.tup zs) hu);have e8:(upd (upd H6 r3 (.lst zs)) u (.tup zs)) u=some (.tup zs):=Zb;have hQ8:QL (upd (upd H6 r3 (.lst zs)) u (.tup zs)) zs ms:=hQ3.keep fun b xs e=>s8 _ _ e;generalize upd (upd H6 r3 (.lst zs)) u (.tup zs)=H8 at s8 e8 hQ8 ⊢;refine⟨by show(4:Nat)<=sizeLine;decide,fun r hr=>?_⟩;have s9:Zk H8 (upd H8 r (.tup [.int m,.ref r1,.ref r2,.ref u])):=Zk.new hr;have sz:=hperm.length_eq;refine q r ⟨m,hs,es,ms⟩ _ ((s03.trans s1).trans (((s5.trans s6).trans s8).trans s9)) ⟨r1,r2,u,zs,Zb,s9 _ _ (s8 _ _ (s6 _ _ e5')),s9 _ _ (s8 _ _ e6'),s9 _ _ e8,hQ8.keep fun b xs e=>s9 _ _ e⟩
  ⟨by show 0<=m;omega,by show m<=64;omega,hdb.ri,hdf.ri,Srd.ZhM.strict hso (hperm.nodup_iff.mpr hnd),fun x hx=>?_,fun x hx=>?_,fun x hx=>hqb x (hperm.mem_iff.mp hx),?_,?_,by show ms.length<=100;omega,fun z hz=>Zkf (hlt _ (htg z (hperm.mem_iff.mp hz))).1⟩ fun z hz=>hlt _ (htg z (hperm.mem_iff.mp hz))
 ·have:=hdb.lt x hx;show 0<=x/\x<m;omega
 ·have:=hdf.lt x hx;show 0<=x/\x<m;omega
 ·have:=hdb.ln;show hs.length<=70;omega
 ·have:=hdf.ln;show es.length<=70;omega
def Zee:Sp:=fun vs H Q _=>∃(c:Int)(tr:Addr)(ts:List Str),vs=[.int c,.ref tr]/\H tr=some (.lst (ts.map V.str))/\ts.length=3/\(∀t∈ts,t.length<=8)/\∀(v:Str)(H':Hp),Zk H H'->Q (.str v) H'
set_option maxHeartbeats 2000000 in
theorem Zh4(B:∀x∈ZbJ,mg x=none)(F:Fun K "_law_word" "_law_word" ZbY f fd):FnOk P w K mg base CX0 1 f fd ["_law_cell_here","_law_tags_here"] Zee:=by
 refine F.ok Zib (fun vs H Q E h=>?_) (fun cdv A outer s H vs Q E hr h=>?_)
 ·obtain⟨c,tr,ts,rfl,_⟩:=h;rfl
 obtain⟨c,tr,ts,rfl,hT,h3,h8,q⟩:=h;refine⟨_,(Zc (ZaL (ZQ Zjp (Zr ZV (pv 0) Zg) Zg (Z2 _))
   (Zj (ZC Za0))
   ZM)
  (Zc (ZaL (ZQ Zb2 (Zr ZV (pv 0) Zg) Zg (Z2 _))
   (Zj (ZC (Zae Zaa (ZaH (Za (Zae Zaa (pv 1) Zg (fun _ _=>rfl)) (Za Za0 (Za (Zr Zd6 (Zae Zaa (pv 1) Zg (fun _ _=>rfl)) Za0) (Za Za0 Zf))))) (Zr ZV (Zr Zat (pv 0) Zg) Zg) (fun _ _=>rfl))))
   ZM)
  (Zj (ZC (Zae Zaa (pv 1) (Zr ZV (Zr Zat (pv 0) Zg) Zg) (fun _ _=>rfl)))))),?_⟩
 have tat:∀(k:Nat),k<3->∃t,t.length<=8/\atI (ts.map V.str) (k:Int)=some (.str t):=fun k hk=>by
  have:=Zek (ws:=ts) (n:=k) (by lia);exact⟨_,h8 _ (List.getElem_mem _),this⟩
 refine⟨_,rfl,_,_,rfl,rfl,(by show(0:Int)<8;decide),_,_,rfl,rfl,_,rfl,ZbX (fun _=>q _ _ (Zk.refl H)) (fun _=>?_)⟩;refine⟨_,rfl,_,_,rfl,rfl,(by show(0:Int)<8;decide),rfl,_,rfl,ZbX (fun _=>?_) (fun _=>?_)⟩
 ·obtain⟨t2,_,e2⟩:=tat 2 (by decide);obtain⟨t0,l0,e0⟩:=tat 0 (by decide);refine⟨_,rfl,tr,_,2,_,rfl,rfl,SqL.of hT,e2,_,rfl,tr,_,0,_,rfl,rfl,SqL.of hT,e0,_,_,rfl,rfl,(by show t0.length+1<=sizeLine;exact Nat.le_trans (by lia:t0.length+1<=9) (by decide)),by show(4:Nat)<=sizeLine;decide,fun pl hpl=>?_⟩;obtain⟨k,hk,hkl⟩:=Zkr (c / 8) (n:=4) (by decide);have:∃t:Str,atI [V.str t2,.str "",.str (t0 ++ "A"),.str "//"] (k:Int)=some (.str t):=by
   match k,hkl with
   | 0,_=>exact⟨_,rfl⟩
   | 1,_=>exact⟨_,rfl⟩
   | 2,_=>exact⟨_,rfl⟩
   | 3,_=>exact⟨_,rfl⟩
  obtain⟨t,e⟩:=this;refine⟨_,rfl,_,_,rfl,rfl,⟨by decide,by decide⟩,_,_,rfl,rfl,(by show(0:Int)<4;decide),pl,_,_,.str t,rfl,rfl,SqL.of Zb,?_,q _ _ (Zk.new hpl)⟩;rw[<- e,<- hk];rfl
 ·obtain⟨k,hk,hkl⟩:=Zkr (c / 8) (n:=2) (by decide);obtain⟨t,_,e⟩:=tat k (by lia);refine⟨_,rfl,_,rfl,_,_,rfl,rfl,⟨by decide,by decide⟩,_,_,rfl,rfl,(by show(0:Int)<2;decide),tr,_,_,.str t,rfl,rfl,SqL.of hT,?_,q _ _ (Zk.refl H)⟩
  ·rw[<- e,<- hk];rfl
set_option maxHeartbeats 2000000 in
theorem Zer(B:∀x∈ZbJ,mg x=none)(F:Fun K "live_kinds" "live_kinds" ZaG f fd):FnOk P w K mg base CX0 1 f fd ["form"] (Zgd K):=by
 refine F.ok Zad (fun vs H Q E h=>?_) (fun cdv A outer s H vs Q E hr h=>?_)
 ·obtain⟨a,fm,rfl,_⟩:=h;rfl
 obtain⟨a,fm,rfl,hF,ok,q⟩:=h;obtain⟨f1,f2,f3,zf,a1,a2,a3,a4,a5⟩:=id hF;have n0:=ok.n0;have n64:=ok.n8;have htl:=ok.tl;have zfl:=a5.length;obtain⟨N,hN⟩:∃N:Nat,fm.n=(N:Int):=⟨fm.n.toNat,(Int.toNat_of_nonneg n0).symm⟩;have hu1:(A.deeper (PyProof.Rows.envOfC (Str.ofString "live_kinds") (Zh ZaG) s.heap.objs.size f cdv)).units+1<cLine:=by have:=hr.un;lia
 refine⟨_,(Zc (Zt (i:=1) Zad.nd rfl (Or.inl rfl) (Zay (Zbw rfl) rfl (B "dict" (by decide)) Zei (Za (Zct (cl:=[]) ["end"] [] (Zcg (Zae ZaX (pv 0) Zg (fun _ _=>rfl))) (fun _ _ _ _=>(Zu (i:=0) nd1 rfl (Or.inl rfl))) (fun _ _ _ _=>(Zax (Za (pv 0) (Za Zba Zf)))) rfl rfl (by decide) rfl (by decide) (fun _ _ h=>nomatch h) (ZcP (by decide)) (fun _ _ h=>nomatch h) (fun _=>rfl)) Zf)))
  (Zc (Zt (i:=2) Zad.nd rfl (Or.inl rfl) Zba)
  (Zc (ZgC PassesOwn.never (Z7 (pv 2) (fun _=>rfl))
   (Zc (Zt (i:=2) Zad.nd rfl (Or.inl rfl) Zba)
    (Zj (Zbc PassesOwn.never rfl (Zcg (Zae ZaX (pv 0) Zg (fun _ _=>rfl))) (Zdw rfl (ZL (Zu (i:=3) Zad.nd rfl (Or.inl rfl)) (ZL (Zu (i:=4) Zad.nd rfl (Or.inl rfl)) (ZL (Zu (i:=5) Zad.nd rfl (Or.inl rfl)) (ZL (Zu (i:=6) Zad.nd rfl (Or.inl rfl)) ZbB)))))
     (Zj (ZaL (PW.pt (Zb5 (ZcK (ZhN hu1 (pv 3) (pv 1))) (Zb5 (ZcK (Zdi hu1 (pv 5) (pv 1))) (ZbA (ZcK (Zdi hu1 (pv 6) (pv 1)))))))
       (Zc (Zdk hu1 (pv 1) (pv 3) Zba rfl)
        (Zj (Zt (i:=2) Zad.nd rfl (Or.inl rfl) Zba)))
       ZM))))))
  (Zj (ZC (pv 1)))))),?_⟩
 refine⟨_,rfl,a,_,2,_,rfl,rfl,SqT.of a1,rfl,f2,rfl,⟨_,SqT.of a3⟩,fun pl hpl=>Zda (K:=K) (a:=f2) (p:=pl) (xs:=fm.ts.map V.int) (fun i ys σ H2=>∃v0:Option V,σ =[v0]/\Zk H H2/\H2 pl=some (.lst ys)/\PT H2 ys (fm.ts.take i))
  ⟨none,rfl,Zk.new hpl,Zb,.nil⟩ ?_ ?_ ?_⟩
 ·rintro i ys σ H2 _ ⟨v0,_,sm,h,_⟩;exact⟨SqT.of (sm _ _ a3),h⟩
 ·rintro i ys x σ H2 hi hx ⟨v0,rfl,sm,hp,hz⟩;rw[List.getElem?_map] at hx;obtain⟨e,he,rfl⟩:=Option.map_eq_some_iff.mp hx;refine⟨_,rfl,by show(2:Nat)<=sizeLine;decide,fun t ht0=>?_⟩;have s2:Zk H2 (upd H2 t (.tup [V.int e,.bl true])):=Zk.new ht0;refine⟨s2 _ _ hp,Zn (by rw[hz.length,List.length_take];lia),CW.next hi ⟨_,rfl,(sm.trans s2).upd_new hpl,Zb,?_⟩⟩
  rw[Zz he];have hz2:PT (upd H2 t (.tup [V.int e,.bl true])) (ys ++ [.ref t]) (fm.ts.take i ++ [e]):=PT.snoc Zb (hz.keep fun b xs e=>s2 _ _ e);exact hz2.keep (ZcC (s2 _ _ hp))
 rintro ys σ H2 ⟨v0,rfl,sm,hp,hz⟩;rw[List.length_map,List.take_length] at hz;refine⟨pl,_,fm.ts.map kB,rfl,SqL.of hp,by rw[hz.length];lia,hz.pairs,fun d hd=>?_⟩;have hd0:=sm.free hd;obtain⟨S0,kn0,hS0⟩:=ZgQ fm.ts [] [] rfl;have hm0:(putAll (fm.ts.map kB)).length<=fm.ts.length:=by
  have:=Zcu (fm.ts.map kB);rw[List.length_map] at this;exact this
 have kn0':(putAll (fm.ts.map kB)).map (·.1)=S0.map Sum.inl:=kn0;generalize putAll (fm.ts.map kB)=m0 at kn0' hm0;have hS0l:S0.length<=fm.ts.length:=by rw[<- ZbH kn0'];exact hm0
 have sm1:Zk H (upd H2 d (.dK m0)):=sm.upd_new hd0
 let W:Nat->St->Hp->Prop:=fun j σ H1=>∃(S:List Int)(m:List (Key×V))(fl:Bool)(v3 v4 v5 v6:Option V),σ =[some (.ref a),some (.ref d),some (.bl fl),v3,v4,v5,v6]/\Zk H H1/\H1 d=some (.dK m)/\m.map (·.1)=S.map Sum.inl /\
  (∀e∈fm.ts,e∈S)/\(∀k∈S,LvQ fm k)/\S.length+Zhk N S<=70+N/\j=2*Zhk N S+(if fl=true then 1 else 0)/\(fl=false->Zjd fm.qs S)
 have ho0:=Zks N S0;refine⟨W,⟨_,S0,m0,true,none,none,none,none,rfl,sm1,Zb,kn0',fun e he=>(hS0 e).mpr (.inr he),fun k hk=>.e (((hS0 k).mp hk).resolve_left (fun z=>nomatch z)),by lia,rfl,fun z=>nomatch z⟩,?_⟩
 rintro j σ H1 ⟨S,m,fl,v3,v4,v5,v6,rfl,smw,hdm,kn,hen,hsd,hsz,rfl,hsh⟩;cases fl with
 | false =>
  refine⟨_,rfl,false,rfl,Zbu ⟨_,rfl,q d S H1 smw hd0 ⟨m,hdm,kn⟩ ?_ fun k=>⟨hsd k,fun hk=>ZiN hen (hsh rfl) hk⟩⟩⟩;lia
 | true =>
  refine⟨_,rfl,true,rfl,Zci ⟨fun σ' H'=>∃m',m'<2*Zhk N S+(if true=true then 1 else 0)/\W m' σ' H',fun _ _ h=>h,?_⟩⟩
  refine⟨_,rfl,a,_,3,_,rfl,rfl,SqT.of (smw _ _ a1),rfl,f3,rfl,⟨_,SqT.of (smw _ _ a4)⟩,Zep (K:=K) (a:=f3) (xs:=zf) (fun i σ H2=>∃(S':List Int)(m':List (Key×V))(fl':Bool)(v3 v4 v5 v6:Option V),σ =[some (.ref a),some (.ref d),some (.bl fl'),v3,v4,v5,v6]/\Zk H H2/\H2 d=some (.dK m')/\m'.map (·.1)=S'.map Sum.inl /\
   (∀e∈fm.ts,e∈S')/\(∀k∈S',LvQ fm k)/\S'.length+Zhk N S'<=70+N/\(fl'=false->S'=S/\Zjd (fm.qs.take i) S)/\(fl'=true->Zhk N S'+1<=Zhk N S)) ⟨S,m,false,v3,v4,v5,v6,rfl,smw,hdm,kn,hen,hsd,hsz,fun _=>⟨rfl,fun _ h=>nomatch h⟩,fun z=>nomatch z⟩ ?_ ?_ ?_⟩
  ·rintro i σ H2 _ ⟨S',m',fl',v3,v4,v5,v6,_,sm2,_⟩;exact SqT.of (sm2 _ _ a4)
  ·rintro i x σ H2 hi ⟨S',m',fl',v3,v4,v5,v6,rfl,sm2,hdm2,kn2,hen2,hsd2,hsz2,hf1,hf2⟩;obtain⟨pq,q1,hq1,rfl,e4⟩:=a5.get i x hi;have hqm:q1∈fm.qs:=List.mem_of_getElem? hq1;have hkn:=(ok.qb q1 hqm).1;rw[hN] at hkn;have hq4:=sm2 _ _ e4;rw[Zz hq1];have hg:=fun k:Int=>ZcX.k (k:=Sum.inl k) hdm2;have no:(q1.2.2.1∈S'->q1.2.2.2∈S'->q1.1∈S')->∃(S'':List Int)(m'':List (Key×V))(fl'':Bool)(w3 w4 w5 w6:Option V),[some (V.ref a),some (.ref d),some (.bl fl'),some (.int q1.1),some (.str q1.2.1),some (.int q1.2.2.1),some (.int q1.2.2.2)] =[some (.ref a),some (.ref d),some (.bl fl''),w3,w4,w5,w6]/\Zk H H2/\H2 d=some (.dK m'')/\m''.map (·.1)=S''.map Sum.inl /\
     (∀e∈fm.ts,e∈S'')/\(∀k∈S'',LvQ fm k)/\S''.length+Zhk N S''<=70+N/\(fl''=false->S''=S/\Zjd (fm.qs.take i ++ [q1]) S)/\(fl''=true->Zhk N S''+1<=Zhk N S):=fun hc=>by
    refine⟨S',m',fl',_,_,_,_,rfl,sm2,hdm2,kn2,hen2,hsd2,hsz2,fun hf=>?_,hf2⟩;obtain⟨rfl,h2⟩:=hf1 hf;refine⟨rfl,fun z hz=>?_⟩;rcases List.mem_append.mp hz with hz|hz
    ·exact h2 z hz
    ·rw[List.mem_singleton.mp hz];exact hc
   refine⟨pq,_,rfl,SqT.of hq4,rfl,_,_,rfl,_,_,rfl,_,_,rfl,_,_,rfl,rfl,?_⟩;refine⟨_,rfl,_,rfl,d,_,rfl,hg q1.1,_,rfl,?_⟩;rw[DI.has kn2];by_cases k1:q1.1∈S'
   ·rw[decide_eq_true k1];exact Zbu (Zbu (no fun _ _=>k1))
   rw[decide_eq_false k1];refine Zci ⟨_,rfl,_,rfl,d,_,rfl,hg q1.2.2.1,_,rfl,?_⟩;rw[DI.has kn2];by_cases k2:q1.2.2.1∈S'
   ·rw[decide_eq_true k2];refine Zci ⟨_,rfl,_,rfl,d,_,rfl,hg q1.2.2.2,_,rfl,?_⟩;rw[DI.has kn2];by_cases k3:q1.2.2.2∈S'
    ·rw[decide_eq_true k3];have hml:m'.length<sizeLine:=by
      rw[ZbH kn2];exact Zn (by lia)
     refine Zci ⟨_,rfl,_,rfl,d,_,rfl,Zit.k (k:=Sum.inl q1.1) hdm2 hml,?_⟩;have hless:=Zjn hkn.1 hkn.2 k1;have kn3:=DI.put kn2 q1.1 (V.bl true);rw[if_neg k1] at kn3;refine⟨S' ++ [q1.1],_,true,_,_,_,_,rfl,sm2.upd_new hd0,Zb,kn3,fun e he=>List.mem_append_left _ (hen2 e he),fun k hk=>?_,?_,fun z=>(nomatch z),fun _=>?_⟩
     ·rcases List.mem_append.mp hk with hk|hk
      ·exact hsd2 k hk
      ·rw[List.mem_singleton.mp hk];exact .r hqm (hsd2 _ k2) (hsd2 _ k3)
     ·rw[List.length_append,List.length_singleton];lia
     ·cases fl' with
      | true=>have:=hf2 rfl;lia
      | false=>obtain⟨rfl,_⟩:=hf1 rfl;exact hless
    ·rw[decide_eq_false k3];exact Zbu (no fun _ z=>absurd z k3)
   ·rw[decide_eq_false k2];exact Zbu (Zbu (no fun z=>absurd z k2))
  ·rintro σ H2 ⟨S',m',fl',v3,v4,v5,v6,rfl,sm2,hdm2,kn2,hen2,hsd2,hsz2,hf1,hf2⟩;rw[zfl,List.take_length] at hf1;refine⟨_,?_,S',m',fl',v3,v4,v5,v6,rfl,sm2,hdm2,kn2,hen2,hsd2,hsz2,rfl,fun hf=>?_⟩
   ·cases fl' with
    | true=>have:=hf2 rfl;rw[if_pos rfl];lia
    | false=>obtain⟨rfl,_⟩:=hf1 rfl;rw[if_neg (by decide),if_pos rfl];lia
   ·obtain⟨rfl,h⟩:=hf1 hf;exact h
def Zcn(K:PySem.W.Frag)(C:Addr):Sp:=fun vs H Q _=>∃(a p dx:Addr)(f:FQ),vs=[.ref a,.ref p]/\H a=some (.ins C dx [])/\FmQ H p f/\OkR f/\∀(H':Hp)(L T:Addr)(R:List Srd.Qd)(hs:List Int),(∀b o,b≠a->H b=some o->H' b=some o)->H L=none->H T=none->ZiI hs->(∀x,x∈hs↔x∈f.hs/\LvQ f x)->(∀ex:List Addr,(∀x∈ex,∃xs,H x=some (.lst xs))->RdAt C H' a L T ex f R [hs.map dup] [])->Q .non H'
theorem Zls{H5 H:Hp}{d:Addr}{m:List (Key×V)}{D:Int->Option Addr}{mk:Int->List (Key×V)}{tf:Int->List Str}{Lf:Int->Str->Option Addr}{c:Nat}{R:List Srd.Qd}{ex:List Addr}(h:WS H5 H d m D mk tf Lf (Zc2 R) c)(hex:∀b∈ex,H b=none\/(b≠d/\∃xs,H5 b=some (.lst xs)))(hc:c<=900)(hne:∀k t l,Lf k t=some l->Zc2 R k t ≠ []):WI ex H d R:=by
 have no:∀b o,H b=some o->H5 b=none->b∉ex:=fun b o e e5 hb=>by
  rcases hex b hb with z|⟨_,xs,z⟩
  ·rw[z] at e;cases e
  ·rw[z] at e5;cases e5
 have nd:d∉ex:=fun hb=>by
  rcases hex d hb with z|⟨z,_⟩
  ·rw[h.hm] at z;cases z
  ·exact z rfl
 refine⟨nd,m,D,h.hm,h.vm,fun k e t=>h.ln k t (h.dn k t e),fun k a e=>?_⟩;obtain⟨a1,a2,a3,a4,a5⟩:=h.dk k a e;refine⟨no _ _ a2 a1,mk k,tf k,a2,a3,by lia,fun t=>?_⟩;cases hl:Lf k t with
 | none=>exact .inl ⟨by rw[a5,hl];rfl,h.ln k t hl⟩
 | some l =>
  obtain⟨b1,zs,b2,b3⟩:=h.ls k t l hl;exact .inr ⟨l,zs,by rw[a5,hl];rfl,no _ _ b2 b1,b2,b3,hne k t l hl⟩
def Zlh(a p0 dl:Addr)(H7:Hp)(dw:Addr)(R:List Srd.Qd)(cc:Nat)(σ : St)(H:Hp):Prop := ∃(v3 v4 v5 v6:Option V)(m:List (Key×V))(D:Int->Option Addr)(mk:Int->List (Key×V))(tf:Int->List Str)(Lf:Int->Str->Option Addr),σ =[some (.ref a),some (.ref p0),some (.ref dl),v3,v4,v5,v6]/\WS H7 H dw m D mk tf Lf (Zc2 R) cc/\∀k t l,Lf k t=some l->Zc2 R k t ≠ []
set_option maxHeartbeats 4000000 in
theorem Zcl{C:Addr}(B:∀x∈ZbJ,mg x=none)(c:RdC K C)(g_live_kinds:Has P w K mg base "live_kinds" ["form"] 1 (Zgd K)) (F:Fun K "__init__" "Reader.__init__" Z1 f fd):FnOk P w K mg base CX0 2 f fd ["self","form"] (Zcn K C):=by
 refine F.ok Z6 (fun vs H Q E h=>?_) (fun cdv A outer s H vs Q E hr h=>?_)
 ·obtain⟨a,p,dx,fm,rfl,_⟩:=h;rfl
 obtain⟨a,p0,dx,fm,rfl,hA,hF,ok,q⟩:=h;obtain⟨f1,f2,f3,zf,a1,a2,a3,a4,a5⟩:=id hF;have hu1:(A.deeper (PyProof.Rows.envOfC (Str.ofString "Reader.__init__") (Zh Z1) s.heap.objs.size f cdv)).units+1<cLine:=by have:=hr.un;lia
 have na:∀b xs,H b=some (.tup xs)->b≠a:=fun b xs e z=>by rw[z,hA] at e;cases e
 have htl:=ok.tl;have hhl:=ok.hl;have hql:=ok.ql;have hzf:=a5.length;refine⟨_,(Zc (Zt (i:=2) Z6.nd rfl (Or.inr rfl) (Z4 g_live_kinds hr rfl (Za (pv 1) Zf)))
  (Zc (Zbr (pv 0) (pv 1) rfl)
  (Zc (Zbr (pv 0) (Zay (Zbw rfl) rfl (B "dict" (by decide)) Zei (Za (Zct (cl:=[]) ["end"] [] (Zcg (Zae ZaX (pv 1) Zg (fun _ _=>rfl))) (fun _ _ _ _=>(Zu (i:=0) nd1 rfl (Or.inl rfl))) (fun _ _ _ _=>(Zax (Za (pv 0) (Za Zba Zf)))) rfl rfl (by decide) rfl (by decide) (fun _ _ h=>nomatch h) (ZcP (by decide)) (fun _ _ h=>nomatch h) (fun _=>rfl)) Zf)) rfl)
  (Zc (Zbr (pv 0) Zc8 rfl)
  (Zc (Zbc PassesOwn.never rfl (Zcg (Zae ZaX (pv 1) Zg (fun _ _=>rfl))) (Zdw rfl (ZL (Zu (i:=3) Z6.nd rfl (Or.inl rfl)) (ZL (Zu (i:=4) Z6.nd rfl (Or.inl rfl)) (ZL (Zu (i:=5) Z6.nd rfl (Or.inl rfl)) (ZL (Zu (i:=6) Z6.nd rfl (Or.inl rfl)) ZbB)))))
   (Zj (ZaL (PW.pt (Zb5 (ZcK (Zdi hu1 (pv 5) (pv 2))) (ZbA (ZcK (Zdi hu1 (pv 6) (pv 2))))))
     (Zj (Zau (Zbp PySem.F.plainAttrs_list PySem.F.slot_list_append PySem.F.type_list_append ZR (Zgh (Zgh (Zaf (pv 0) rfl) (pv 3) Zc8 ⟨rfl,rfl,rfl,rfl⟩) (pv 4) (ZaH Zf) ⟨rfl,rfl,rfl,rfl⟩) (Za (Zax (Za (pv 5) (Za (pv 6) Zf))) Zf))))
     ZM)))
  (Zc (Zbr (pv 0) (ZaH (Za (ZcG (cl:=_) ["start"] [("alive",2)] (Zcg (Zae ZaX (pv 1) Zg (fun _ _=>rfl))) (fun _ _ _ _=>(Zu (i:=0) (show List.Nodup (["start","alive"]:List Str) by decide) rfl (Or.inl rfl))) (fun _ _ _ _=>(ZcK (Zdi hu1 (pv 0) (pv 1)))) (fun _ _ _ _=>(Zax (Za (pv 0) (Za (pv 0) Zf)))) rfl rfl (by decide) rfl (by decide) (Zeb (by(repeat' first|exact List.forall_mem_nil _|refine List.forall_mem_cons.mpr ⟨?_,?_⟩) <;> rfl)) (Zcv (by(repeat' first|exact List.forall_mem_nil _|refine List.forall_mem_cons.mpr ⟨?_,?_⟩) <;> first|(intro h;exact⟨_,rfl⟩)|(intro h;exact absurd h (by decide)))) (fun _=>by(repeat' first|exact List.forall_mem_nil _|refine List.forall_mem_cons.mpr ⟨?_,?_⟩) <;> exact⟨rfl,rfl,Or.inl rfl⟩) (fun _=>rfl)) Zf)) rfl)
  (Zj (Zbr (pv 0) (ZaH Zf) rfl)))))))),?_⟩
 refine⟨_,rfl,p0,fm,rfl,hF,ok,fun dl S H1 s1 hdl ⟨ml,e1,kl⟩ hSl hS=>?_⟩;have ndl:dl≠a:=fun z=>by rw[z,hA] at hdl;cases hdl
 refine⟨_,rfl,_,rfl,a,C,dx,_,rfl,s1 _ _ hA,c.cls,c.n1,by decide,?_⟩;have k2:∀b o,b≠a->H1 b=some o->(upd H1 a (.ins C dx (Zas "form" (V.ref p0) []))) b=some o:=fun b o hb e=>by rw[Zd hb];exact e
 have x2:(upd H1 a (.ins C dx (Zas "form" (V.ref p0) []))) a=some (.ins C dx [("form",.ref p0)]):=by rw[Zb];rfl
 generalize upd H1 a (.ins C dx (Zas "form" (V.ref p0) []))=H2 at k2 x2 ⊢;have k02:∀b o,b≠a->H b=some o->H2 b=some o:=fun b o hb e=>k2 b o hb (s1 _ _ e);refine⟨_,rfl,p0,_,2,_,rfl,rfl,SqT.of (k02 _ _ (na _ _ a1) a1),rfl,f2,rfl,⟨_,SqT.of (k02 _ _ (na _ _ a3) a3)⟩,fun pl hpl=>Zda (K:=K) (a:=f2) (p:=pl) (xs:=fm.ts.map V.int) (fun i ys σ H3=>∃v0:Option V,σ =[v0]/\Zk H2 H3/\H3 pl=some (.lst ys)/\PT H3 ys (fm.ts.take i))
  ⟨none,rfl,Zk.new hpl,Zb,.nil⟩ ?_ ?_ ?_⟩
 ·rintro i ys σ H3 _ ⟨v0,_,sm,h,_⟩;exact⟨SqT.of (sm _ _ (k02 _ _ (na _ _ a3) a3)),h⟩
 ·rintro i ys x σ H3 hi hx ⟨v0,rfl,sm,hp,hz⟩;rw[List.getElem?_map] at hx;obtain⟨e,he,rfl⟩:=Option.map_eq_some_iff.mp hx;refine⟨_,rfl,by show(2:Nat)<=sizeLine;decide,fun t ht0=>?_⟩;have s2:Zk H3 (upd H3 t (.tup [V.int e,.bl true])):=Zk.new ht0;refine⟨s2 _ _ hp,Zn (by rw[hz.length,List.length_take];lia),CW.next hi ⟨_,rfl,(sm.trans s2).upd_new hpl,Zb,?_⟩⟩
  rw[Zz he];have hz2:PT (upd H3 t (.tup [V.int e,.bl true])) (ys ++ [.ref t]) (fm.ts.take i ++ [e]):=PT.snoc Zb (hz.keep fun b xs e=>s2 _ _ e);exact hz2.keep (ZcC (s2 _ _ hp))
 rintro ys σ H3 ⟨v0,rfl,s3,hp,hz⟩;rw[List.length_map,List.take_length] at hz;refine⟨pl,_,fm.ts.map kB,rfl,SqL.of hp,by rw[hz.length];lia,hz.pairs,fun df hdf=>?_⟩;obtain⟨S0,kn0,hS0⟩:=ZgQ fm.ts [] [] rfl;have kn0':(putAll (fm.ts.map kB)).map (·.1)=S0.map Sum.inl:=kn0;generalize putAll (fm.ts.map kB)=m0 at kn0' ⊢;have hS0':∀x,x∈S0↔x∈fm.ts:=fun x=>(hS0 x).trans ⟨fun z=>z.elim (fun z=>nomatch z) id,.inr⟩
 have s4:Zk H2 (upd H3 df (.dK m0)):=s3.upd_new (s3.free hdf);have x4:(upd H3 df (.dK m0)) df=some (.dK m0):=Zb;have ndf:df≠a:=fun z=>by
  have:=s3.free hdf;rw[z,x2] at this;cases this
 generalize upd H3 df (.dK m0)=H4 at s4 x4 ⊢;refine⟨_,rfl,a,C,dx,_,rfl,s4 _ _ x2,c.cls,c.n2,(show 1<1000 by decide),?_⟩;have k5:∀b o,b≠a->H4 b=some o->(upd H4 a (.ins C dx (Zas "final" (V.ref df) [("form",.ref p0)]))) b=some o:=fun b o hb e=>by rw[Zd hb];exact e
 have x5:(upd H4 a (.ins C dx (Zas "final" (V.ref df) [("form",.ref p0)]))) a=some (.ins C dx [("form",.ref p0),("final",.ref df)]):=by rw[Zb];rfl
 generalize upd H4 a (.ins C dx (Zas "final" (V.ref df) [("form",.ref p0)]))=H5 at k5 x5 ⊢;refine fun dw hdw=>?_;have ndw:dw≠a:=fun z=>by rw[z,x5] at hdw;cases hdw
 refine⟨_,rfl,a,C,dx,[("form",.ref p0),("final",.ref df)],rfl,(by rw[Zd ndw.symm];exact x5),c.cls,c.n3,(show 2<1000 by decide),?_⟩;have k7:∀b o,b≠a->H5 b=some o->(upd (upd H5 dw (.dK [])) a (.ins C dx (Zas "ways" (V.ref dw) [("form",.ref p0),("final",.ref df)]))) b=some o:=fun b o hb e=>by
  rw[Zd hb,Zd (Zi e hdw)];exact e
 have x7:(upd (upd H5 dw (.dK [])) a (.ins C dx (Zas "ways" (V.ref dw) [("form",.ref p0),("final",.ref df)]))) a=some (.ins C dx [("form",.ref p0),("final",.ref df),("ways",.ref dw)]):=by rw[Zb];rfl
 have y7:(upd (upd H5 dw (.dK [])) a (.ins C dx (Zas "ways" (V.ref dw) [("form",.ref p0),("final",.ref df)]))) dw=some (.dK []):=by rw[Zd ndw];exact Zb
 generalize upd (upd H5 dw (.dK [])) a (.ins C dx (Zas "ways" (V.ref dw) [("form",.ref p0),("final",.ref df)]))=H7 at k7 x7 y7 ⊢;have k07:∀b o,b≠a->H b=some o->H7 b=some o:=fun b o hb e=>k7 b o hb (k5 b o hb (s4 _ _ (k02 b o hb e)));have e7:H7 dl=some (.dK ml):=k7 _ _ ndl (k5 _ _ ndl (s4 _ _ (k2 _ _ ndl e1)));have d7:H7 df=some (.dK m0):=k7 _ _ ndf (k5 _ _ ndf x4);have ndd:dl≠dw:=fun z=>by
  have:=k5 _ _ ndl (s4 _ _ (k2 _ _ ndl e1));rw[z,hdw] at this;cases this
 have nfd:df≠dw:=fun z=>by
  have:=k5 _ _ ndf x4;rw[z,hdw] at this;cases this
 have nt:∀b xs,H b=some (.tup xs)->b≠dw:=fun b xs e z=>by
  have:=k07 _ _ (na _ _ e) e;rw[z,y7] at this;cases this
 have b1:=k07 _ _ (na _ _ a1) a1;have b2:=k07 _ _ (na _ _ a2) a2;have b4:=k07 _ _ (na _ _ a4) a4;have b5:QL H7 zf fm.qs:=a5.keep fun b xs e=>k07 _ _ (na _ _ e) e;have nt7:∀b xs,H7 b=some (.tup xs)->b≠dw:=fun b xs e z=>by rw[z,y7] at e;cases e
 have ws0:WS H7 H7 dw [] (fun _=>none) (fun _=>[]) (fun _=>[]) (fun _ _=>none) (Zc2 (rlA S (fm.qs.take 0))) (2*0):=⟨fun b o _ e=>e,⟨_,y7⟩,y7,Nat.zero_le _,fun _=>rfl,(fun _ _ z=>nomatch z),fun _ _ _=>rfl,fun _ _ _=>rfl,(fun _ _ _ z=>nomatch z),(fun _ _ _ z=>nomatch z),(fun _ _ _ _ _ z=>nomatch z)⟩
 refine⟨_,rfl,p0,_,3,_,rfl,rfl,SqT.of b1,rfl,f3,rfl,⟨_,SqT.of b4⟩,Zep (K:=K) (a:=f3) (xs:=zf) (fun i σ H8=>Zlh a p0 dl H7 dw (rlA S (fm.qs.take i)) (2*i) σ H8)
  ⟨none,none,none,none,[],_,_,_,_,rfl,ws0,fun _ _ _ z=>nomatch z⟩ ?_ ?_ ?_⟩
 ·rintro i σ H8 _ ⟨_,_,_,_,_,_,_,_,_,_,ws,_⟩;exact SqT.of (ws.kp _ _ (nt7 _ _ b4) b4)
 ·rintro i x σ H8 hx ⟨v3,v4,v5,v6,m,D,mk,tf,Lf,rfl,ws,hne⟩;obtain⟨tq,q1,x1,rfl,x2'⟩:=b5.get i x hx;have hil:=(List.getElem?_eq_some_iff.mp x1).1;have t2:=ws.kp _ _ (nt7 _ _ x2') x2';have e8:=ws.kp _ _ ndd e7;have x8:=ws.kp _ _ ndw.symm x7;have hml:=ws.ml;have skip : ¬ (q1.2.2.1∈S/\q1.2.2.2∈S)->rlA S (fm.qs.take (i+1))=rlA S (fm.qs.take i):=fun hno=>by
   unfold rlA;rw[Zz x1,List.filter_append,List.filter_cons,if_neg (by rw[Bool.and_eq_true,decide_eq_true_eq,decide_eq_true_eq];exact hno),List.filter_nil,List.append_nil]
  have no : ¬ (q1.2.2.1∈S/\q1.2.2.2∈S)->Zlh a p0 dl H7 dw (rlA S (fm.qs.take (i+1))) (2*(i+1)) [some (V.ref a),some (.ref p0),some (.ref dl),some (V.int q1.1),some (V.str q1.2.1),some (V.int q1.2.2.1),some (V.int q1.2.2.2)] H8:=fun hno=>by
   rw[skip hno];exact⟨_,_,_,_,m,D,mk,tf,Lf,rfl,{ ws with ml:=by lia,dk:=fun k a e=>by obtain⟨z1,z2,z3,z4,z5⟩:=ws.dk k a e;exact⟨z1,z2,z3,by lia,z5⟩ },hne⟩
  refine⟨tq,_,rfl,SqT.of t2,rfl,_,_,rfl,_,_,rfl,_,_,rfl,_,_,rfl,rfl,?_⟩;refine⟨_,rfl,_,rfl,dl,_,rfl,ZcX.k (k:=Sum.inl q1.2.2.1) e8,_,rfl,?_⟩;rw[DI.has kl];refine ZbX (fun c1=>?_) (fun c1=>Zbu (no fun z=>c1 (decide_eq_true z.1)));refine⟨_,rfl,_,rfl,dl,_,rfl,ZcX.k (k:=Sum.inl q1.2.2.2) e8,_,rfl,?_⟩;rw[DI.has kl];refine ZbX (fun c2=>?_) (fun c2=>no fun z=>c2 (decide_eq_true z.2));have hrl:rlA S (fm.qs.take (i+1))=rlA S (fm.qs.take i) ++ [q1]:=by
   unfold rlA;rw[Zz x1,List.filter_append,List.filter_cons,if_pos (by rw[Bool.and_eq_true];exact⟨c1,c2⟩),List.filter_nil]
  rw[hrl];have hnew:∀k t,Zc2 (rlA S (fm.qs.take i) ++ [q1]) k t=Zc2 (rlA S (fm.qs.take i)) k t++if q1.1=k/\q1.2.1=t then [pr2 q1] else []:=ZiE _ _
  have last:∀(H9:Hp)(m:List (Key×V))(D:Int->Option Addr)(mk:Int->List (Key×V))(tf:Int->List Str)(Lf:Int->Str->Option Addr)(l:Addr),WS H7 H9 dw m D mk tf Lf (Zc2 (rlA S (fm.qs.take i))) (2*(i+1))->Lf q1.1 q1.2.1=some l->(∀k t l,Lf k t=some l->(k=q1.1/\t=q1.2.1)\/Zc2 (rlA S (fm.qs.take i)) k t ≠ [])->∃zs,H9 l=some (.lst zs)/\zs.length<1000/\∀pt,H9 pt=none->Zlh a p0 dl H7 dw (rlA S (fm.qs.take i) ++ [q1]) (2*(i+1)) [some (V.ref a),some (.ref p0),some (.ref dl),some (V.int q1.1),some (V.str q1.2.1),some (V.int q1.2.2.1),some (V.int q1.2.2.2)] (upd (upd H9 pt (.tup [.int q1.2.2.1,.int q1.2.2.2])) l (.lst (zs ++ [.ref pt]))):=by
   intro H9 m D mk tf Lf l ws9 hl hne9;obtain⟨_,zs,z1,z2⟩:=ws9.ls _ _ _ hl;have hzl:zs.length<=100:=by
    rw[z2.length];refine Nat.le_trans (ZiK ..) (Nat.le_trans (List.length_filter_le ..) ?_);rw[List.length_take];lia
   refine⟨zs,z1,by lia,fun pt hpt=>?_⟩;have s9:Zk H9 (upd H9 pt (.tup [.int q1.2.2.1,.int q1.2.2.2])):=Zk.new hpt;refine⟨_,_,_,_,m,D,mk,tf,Lf,rfl,(ws9.same s9).app (p:=pr2 q1) hl (s9 _ _ z1) Zb hnew,fun k t l' h=>?_⟩;rw[hnew];rcases hne9 k t l' h with⟨rfl,rfl⟩|h
   ·rw[if_pos ⟨rfl,rfl⟩];intro z;have:=congrArg List.length z;rw[List.length_append] at this;simp at this
   ·intro z;exact h (List.append_eq_nil_iff.mp z).1
  have mid:∀(H9:Hp)(m:List (Key×V))(D:Int->Option Addr)(mk:Int->List (Key×V))(tf:Int->List Str)(Lf:Int->Str->Option Addr)(d1:Addr),WS H7 H9 dw m D mk tf Lf (Zc2 (rlA S (fm.qs.take i))) (2*i+1)->D q1.1=some d1->(∀k t l,Lf k t=some l->Zc2 (rlA S (fm.qs.take i)) k t ≠ [])->H9 d1=some (.dK (mk q1.1))/\(mk q1.1).length<1000/\∀l0,H9 l0=none ->
    (∀v,Zbe (mk q1.1) (Sum.inr q1.2.1)=some v->∃l,v=.ref l/\∃zs,(upd H9 l0 (.lst [])) l=some (.lst zs)/\zs.length<1000/\∀pt,(upd H9 l0 (.lst [])) pt=none->Zlh a p0 dl H7 dw (rlA S (fm.qs.take i) ++ [q1]) (2*(i+1)) [some (V.ref a),some (.ref p0),some (.ref dl),some (V.int q1.1),some (V.str q1.2.1),some (V.int q1.2.2.1),some (V.int q1.2.2.2)] (upd (upd (upd H9 l0 (.lst [])) pt (.tup [.int q1.2.2.1,.int q1.2.2.2])) l (.lst (zs ++ [.ref pt])))) /\
    (Zbe (mk q1.1) (Sum.inr q1.2.1)=none->∃zs,(upd (upd H9 l0 (.lst [])) d1 (.dK (putK (mk q1.1) (Sum.inr q1.2.1) (.ref l0)))) l0=some (.lst zs)/\zs.length<1000/\∀pt,(upd (upd H9 l0 (.lst [])) d1 (.dK (putK (mk q1.1) (Sum.inr q1.2.1) (.ref l0)))) pt=none->Zlh a p0 dl H7 dw (rlA S (fm.qs.take i) ++ [q1]) (2*(i+1)) [some (V.ref a),some (.ref p0),some (.ref dl),some (V.int q1.1),some (V.str q1.2.1),some (V.int q1.2.2.1),some (V.int q1.2.2.2)] (upd (upd (upd (upd H9 l0 (.lst [])) d1 (.dK (putK (mk q1.1) (Sum.inr q1.2.1) (.ref l0)))) pt (.tup [.int q1.2.2.1,.int q1.2.2.2])) l0 (.lst (zs ++ [.ref pt])))):=by
   intro H9 m D mk tf Lf d1 ws9 hd1 hne9;obtain⟨z1,z2,z3,z4,z5⟩:=ws9.dk _ _ hd1;have hkl:(mk q1.1).length=(tf q1.1).length:=by have:=congrArg List.length z3;simpa using this
   refine⟨z2,by lia,fun l0 hl0=>?_⟩;have s9:Zk H9 (upd H9 l0 (.lst [])):=Zk.new hl0;have wsB:=ws9.same s9;constructor
   ·intro v hv;rw[z5] at hv;obtain⟨l,hl,rfl⟩:=Option.map_eq_some_iff.mp hv;exact⟨l,rfl,last _ m D mk tf Lf l { wsB with ml:=by have:=ws9.ml;lia,dk:=fun k a e=>by obtain⟨z1,z2,z3,z4,z5⟩:=wsB.dk k a e;exact⟨z1,z2,z3,by lia,z5⟩ } hl (fun k t l h=>.inr (hne9 k t l h))⟩
   ·intro hv;rw[z5] at hv;have hl:Lf q1.1 q1.2.1=none:=by
     cases h:Lf q1.1 q1.2.1 with
     | none=>rfl
     | some l =>
      rw[h] at hv;cases hv
    have f0:H7 l0=none:=by
     cases h:H7 l0 with
     | none=>rfl
     | some o =>
      by_cases hz:l0=dw
      ·rw[hz,ws9.hm] at hl0;cases hl0
      ·rw[ws9.kp _ _ hz h] at hl0;cases hl0
    have wsC:=wsB.newl hd1 hl Zb f0 (fun k' t' h=>by
     obtain⟨_,zs,y1,_⟩:=ws9.ls k' t' l0 h;rw[hl0] at y1;cases y1)
    refine last _ _ _ _ _ _ l0 wsC ?_ (fun k t l h=>?_)
    ·rw[if_pos ⟨rfl,rfl⟩]
    ·by_cases hh:k=q1.1/\t=q1.2.1
     ·exact .inl hh
     ·rw[if_neg hh] at h;exact .inr (hne9 k t l h)
  refine⟨_,rfl,a,C,dx,_,_,rfl,x8,c.cls,c.n3,rfl,dw,rfl,.inl ⟨m,.inl ws.hm⟩,_,rfl,fun d0 hd0=>?_⟩;have s8:Zk H8 (upd H8 d0 (.dK [])):=Zk.new hd0;have y8:(upd H8 d0 (.dK [])) d0=some (.dK []):=Zb;generalize upd H8 d0 (.dK [])=H9 at s8 y8 ⊢;have ws9:=ws.same s8;refine⟨m,Sum.inl q1.1,ws9.hm,rfl,Zn (by lia),fun v hv=>?_,fun hn=>?_⟩
  ·rw[ws.vm] at hv;obtain⟨d1,hd1,rfl⟩:=Option.map_eq_some_iff.mp hv;obtain⟨m1,m2,m3⟩:=mid H9 m D mk tf Lf d1 { ws9 with ml:=by lia,dk:=fun k a e=>by obtain⟨z1,z2,z3,z4,z5⟩:=ws9.dk k a e;exact⟨z1,z2,z3,by lia,z5⟩ } hd1 hne;refine⟨d1,rfl,.inl ⟨_,.inl m1⟩,_,rfl,by decide,fun l0 hl0=>⟨_,Sum.inr q1.2.1,by rw[Zd (Zi m1 hl0)];exact m1,rfl,Zn (by lia),fun v hv=>?_,fun hn=>?_⟩⟩
   ·obtain⟨l,rfl,zs,y1,y2,y3⟩:=(m3 l0 hl0).1 v hv;exact⟨.inl ⟨rfl,_,SqL.of y1⟩,_,rfl,_,rfl,by show(2:Nat)<=sizeLine;decide,fun pt hpt=>⟨l,_,_,rfl,rfl,by rw[Zd (Zi y1 hpt)];exact y1,Zn (by lia),y3 pt hpt⟩⟩
   ·obtain⟨zs,y1,y2,y3⟩:=(m3 l0 hl0).2 hn;exact⟨.inl ⟨rfl,_,SqL.of y1⟩,_,rfl,_,rfl,by show(2:Nat)<=sizeLine;decide,fun pt hpt=>⟨l0,_,_,rfl,rfl,by rw[Zd (Zi y1 hpt)];exact y1,Zn (by lia),y3 pt hpt⟩⟩
  ·have hD:D q1.1=none:=by
    cases h:D q1.1 with
    | none=>rfl
    | some l =>
     rw[ws.vm,h] at hn;cases hn
   have f0:H7 d0=none:=by
    cases h:H7 d0 with
    | none=>rfl
    | some o =>
     by_cases hz:d0=dw
     ·rw[hz,ws.hm] at hd0;cases hd0
     ·rw[ws.kp _ _ hz h] at hd0;cases hd0
   have wsN:=ws9.newk hD y8 f0 (fun k' h=>by
    obtain⟨_,y1,_⟩:=ws.dk k' d0 h;rw[hd0] at y1;cases y1)
   obtain⟨m1,m2,m3⟩:=mid _ _ _ _ _ _ d0 wsN (by rw[if_pos rfl]) hne;refine⟨d0,rfl,.inl ⟨_,.inl m1⟩,_,rfl,by decide,fun l0 hl0=>⟨_,Sum.inr q1.2.1,by rw[Zd (Zi m1 hl0)];exact m1,rfl,Zn (by lia),fun v hv=>?_,fun hn=>?_⟩⟩
   ·obtain⟨l,rfl,zs,y1,y2,y3⟩:=(m3 l0 hl0).1 v hv;exact⟨.inl ⟨rfl,_,SqL.of y1⟩,_,rfl,_,rfl,by show(2:Nat)<=sizeLine;decide,fun pt hpt=>⟨l,_,_,rfl,rfl,by rw[Zd (Zi y1 hpt)];exact y1,Zn (by lia),y3 pt hpt⟩⟩
   ·obtain⟨zs,y1,y2,y3⟩:=(m3 l0 hl0).2 hn;exact⟨.inl ⟨rfl,_,SqL.of y1⟩,_,rfl,_,rfl,by show(2:Nat)<=sizeLine;decide,fun pt hpt=>⟨l0,_,_,rfl,rfl,by rw[Zd (Zi y1 hpt)];exact y1,Zn (by lia),y3 pt hpt⟩⟩
 ·rintro σ H8 ⟨v3,v4,v5,v6,m,D,mk,tf,Lf,rfl,ws,hne⟩;rw[hzf,List.take_length] at ws hne;have x8:=ws.kp _ _ ndw.symm x7;have e8:=ws.kp _ _ ndd e7;have d8:=ws.kp _ _ nfd d7;have k08:∀b o,b≠a->b≠dw->H b=some o->H8 b=some o:=fun b o h1 h2 e=>ws.kp _ _ h2 (k07 b o h1 e);have c1:=ws.kp _ _ (nt7 _ _ b1) b1;have c2:=ws.kp _ _ (nt7 _ _ b2) b2;refine⟨_,rfl,p0,_,1,_,rfl,rfl,SqT.of c1,rfl,f1,rfl,⟨_,SqT.of c2⟩,fun pc hpc=>ZhA (K:=K) (a:=f1) (p:=pc) (xs:=fm.hs.map V.int) (fun i ys σ H9=>∃v0:Option V,σ =[v0,some (.ref dl)]/\Zk H8 H9/\H9 pc=some (.lst ys)/\PL H9 ys (((fm.hs.take i).filter fun x=>decide (x∈S)).map dup))
   ⟨none,rfl,Zk.new hpc,Zb,.nil⟩ ?_ ?_ ?_⟩
  ·rintro i ys σ H9 _ ⟨v0,_,sm,h,_⟩;exact⟨SqT.of (sm _ _ c2),h⟩
  ·rintro i ys x σ H9 hi hx ⟨v0,rfl,sm,hp,hz⟩;rw[List.getElem?_map] at hx;obtain⟨e,he,rfl⟩:=Option.map_eq_some_iff.mp hx;have hlen:((fm.hs.take i).filter fun x=>decide (x∈S)).length<=70:=Nat.le_trans (List.length_filter_le ..) (by rw[List.length_take];lia);refine⟨_,rfl,_,rfl,dl,_,rfl,ZcX.k (k:=Sum.inl e) (sm _ _ e8),_,rfl,?_⟩;rw[DI.has kl];by_cases ce:e∈S
   ·rw[decide_eq_true ce];refine Zci ⟨_,rfl,_,rfl,by show(2:Nat)<=sizeLine;decide,fun t ht0=>?_⟩;have s4:Zk H9 (upd H9 t (.tup [V.int e,V.int e])):=Zk.new ht0;refine⟨s4 _ _ hp,Zn (by rw[hz.length,List.length_map];lia),CW.next hi ⟨_,rfl,(sm.trans s4).upd_new hpc,Zb,?_⟩⟩
    rw[Zz he,List.filter_append,List.filter_cons,if_pos (decide_eq_true ce),List.filter_nil,List.map_append];have hz2:PL (upd H9 t (.tup [V.int e,V.int e])) (ys ++ [.ref t]) (((fm.hs.take i).filter fun x=>decide (x∈S)).map dup ++ [dup e]):=PL.snoc (q:=dup e) (show _=some (tp (dup e)) from Zb) (hz.keep fun b xs e=>s4 _ _ e);exact hz2.keep (ZcC (s4 _ _ hp))
   ·rw[decide_eq_false ce];refine Zbu (CW.next hi ⟨_,rfl,sm,hp,?_⟩)
    rw[Zz he,List.filter_append,List.filter_cons,if_neg (by rw[decide_eq_false ce];decide),List.filter_nil,List.append_nil];exact hz
  rintro ys σ H9 ⟨v0,rfl,s9,hp,hz⟩;rw[List.length_map,List.take_length] at hz;have hpc8:=hpc;refine⟨by show(1:Nat)<=sizeLine;decide,fun L hL=>?_⟩;have hL8:H8 L=none:=s9.free hL;have nLa:L≠a:=fun z=>by rw[z,x8] at hL8;cases hL8
  have nLp:L≠pc:=fun z=>by rw[z,hp] at hL;cases hL
  have npa:pc≠a:=fun z=>by rw[z,x8] at hpc;cases hpc
  have s10:Zk H9 (upd H9 L (.lst [.ref pc])):=Zk.new hL;have x10:(upd H9 L (.lst [.ref pc])) L=some (.lst [.ref pc]):=Zb;generalize upd H9 L (.lst [.ref pc])=H10 at s10 x10 ⊢;have t10:=s9.trans s10;refine⟨_,rfl,a,C,dx,_,rfl,t10 _ _ x8,c.cls,c.n4,(show 3<1000 by decide),?_⟩;have k11:∀b o,b≠a->H10 b=some o->(upd H10 a (.ins C dx (Zas "levels" (V.ref L) [("form",.ref p0),("final",.ref df),("ways",.ref dw)]))) b=some o:=fun b o hb e=>by rw[Zd hb];exact e
  have x11:(upd H10 a (.ins C dx (Zas "levels" (V.ref L) [("form",.ref p0),("final",.ref df),("ways",.ref dw)]))) a=some (.ins C dx [("form",.ref p0),("final",.ref df),("ways",.ref dw),("levels",.ref L)]):=by rw[Zb];rfl
  generalize upd H10 a (.ins C dx (Zas "levels" (V.ref L) [("form",.ref p0),("final",.ref df),("ways",.ref dw)]))=H11 at k11 x11 ⊢;refine⟨by decide,fun T hT=>?_⟩;have nTa:T≠a:=fun z=>by rw[z,x11] at hT;cases hT
  have nLT:L≠T:=fun z=>by
   have:=k11 _ _ nLa x10;rw[z,hT] at this;cases this
  have xa:(upd H11 T (.lst [])) a=some (.ins C dx [("form",.ref p0),("final",.ref df),("ways",.ref dw),("levels",.ref L)]):=by
   rw[Zd nTa.symm];exact x11
  refine⟨_,rfl,a,C,dx,_,rfl,xa,c.cls,c.n5,(show 4<1000 by decide),?_⟩;have k13:∀b o,b≠a->H11 b=some o->(upd (upd H11 T (.lst [])) a (.ins C dx (Zas "tags" (V.ref T) [("form",.ref p0),("final",.ref df),("ways",.ref dw),("levels",.ref L)]))) b=some o:=fun b o hb e=>by
   rw[Zd hb,Zd (Zi e hT)];exact e
  have x13:(upd (upd H11 T (.lst [])) a (.ins C dx (Zas "tags" (V.ref T) [("form",.ref p0),("final",.ref df),("ways",.ref dw),("levels",.ref L)]))) a=some (.ins C dx (rdF p0 df dw L T)):=by rw[Zb];rfl
  have y13:(upd (upd H11 T (.lst [])) a (.ins C dx (Zas "tags" (V.ref T) [("form",.ref p0),("final",.ref df),("ways",.ref dw),("levels",.ref L)]))) T=some (.lst []):=by rw[Zd nTa];exact Zb
  generalize upd (upd H11 T (.lst [])) a (.ins C dx (Zas "tags" (V.ref T) [("form",.ref p0),("final",.ref df),("ways",.ref dw),("levels",.ref L)]))=H13 at k13 x13 y13 ⊢;have k813:∀b o,b≠a->H8 b=some o->H13 b=some o:=fun b o hb e=>k13 b o hb (k11 b o hb (t10 _ _ e));have hT8:H8 T=none:=by
   cases h:H8 T with
   | none=>rfl
   | some o =>
    rw[k11 _ _ nTa (t10 _ _ h)] at hT;cases hT
  have nta:∀b xs,H8 b=some (.tup xs)->b≠a:=fun b xs e z=>by rw[z,x8] at e;cases e
  have free:∀b,b≠a->H8 b=none->b≠dw->H b=none:=fun b hb h hd=>by
   cases e:H b with
   | none=>rfl
   | some o =>
    rw[k08 b o hb hd e] at h;cases h
  have nLd:L≠dw:=fun z=>by rw[z,ws.hm] at hL8;cases hL8
  have nTd:T≠dw:=fun z=>by rw[z,ws.hm] at hT8;cases hT8
  have hdwH:H dw=none:=by
   cases e:H dw with
   | none=>rfl
   | some o =>
    have:=k5 dw o ndw (s4 _ _ (k02 dw o ndw e));rw[hdw] at this;cases this
  have hdwne:∀b o,H b=some o->b≠dw:=fun b o e=>Zi e hdwH;have hexn:∀(ex:List Addr),(∀x∈ex,∃xs,H x=some (.lst xs))->∀x∈ex,x≠a/\x≠dw/\∃xs,H7 x=some (.lst xs)/\H8 x=some (.lst xs):=fun ex hex x hx=>by
   obtain⟨xs,e⟩:=hex x hx;have n1:x≠a:=fun z=>by rw[z,hA] at e;cases e
   exact⟨n1,hdwne _ _ e,xs,k07 _ _ n1 e,k08 _ _ n1 (hdwne _ _ e) e⟩
  have wi:∀ex:List Addr,(∀x∈ex,∃xs,H x=some (.lst xs))->WI (L::T::ex) H8 dw (rlA S fm.qs):=fun ex hex=>Zls ws (fun b hb=>by
   rcases List.mem_cons.mp hb with rfl|hb
   ·exact .inl hL8
   ·rcases List.mem_cons.mp hb with rfl|hb
    ·exact .inl hT8
    ·obtain⟨_,n2,xs,e,_⟩:=hexn ex hex b hb;exact .inr ⟨n2,xs,e⟩) (by lia) hne
  refine q H13 L T (rlA S fm.qs) (fm.hs.filter fun x=>decide (x∈S)) (fun b o hb e=>k813 b o hb (k08 b o hb (hdwne b o e) e)) (free L nLa hL8 nLd) (free T nTa hT8 nTd) (ok.hs.filter _) (fun x=>?_) (fun ex hex=>⟨ok,ZkU hS,⟨rfl,fun l hl=>?_,fun l hl p hp=>?_⟩,nLT,fun x hx=>?_,dx,p0,df,dw,S0,[.ref pc],x13,?_,⟨m0,k813 _ _ ndf d8,kn0'⟩,hS0',?_,k13 _ _ nLa (k11 _ _ nLa x10),?_,y13⟩)
  ·rw[List.mem_filter,decide_eq_true_eq,hS]
  ·rw[List.mem_singleton.mp hl];exact Zfk (ok.hs.filter _)
  ·rw[List.mem_singleton.mp hl] at hp;obtain⟨x,hx,rfl⟩:=List.mem_map.mp hp;have:=ok.hb x (List.mem_filter.mp hx).1;exact⟨this,this⟩
  ·obtain⟨n1,_,xs,_,e⟩:=hexn ex hex x hx;exact⟨ZaP (fun z=>by rw[z,hL8] at e;cases e) (fun z=>by rw[z,hT8] at e;cases e),xs,k813 _ _ n1 e⟩
  ·exact⟨f1,f2,f3,zf,k813 _ _ (na _ _ a1) c1,k813 _ _ (na _ _ a2) c2,k813 _ _ (na _ _ a3) (k08 _ _ (na _ _ a3) (hdwne _ _ a3) a3),k813 _ _ (na _ _ a4) (k08 _ _ (na _ _ a4) (hdwne _ _ a4) a4),a5.keep fun b xs e=>k813 _ _ (na _ _ e) (k08 _ _ (na _ _ e) (hdwne _ _ e) e)⟩
  ·obtain⟨w1,m',D',w2,w3,w4,w5⟩:=wi ex hex;refine⟨w1,m',D',k813 _ _ ndw w2,w3,w4,fun k a' e=>?_⟩;obtain⟨u1,mk',ts',u2,u3,u4,u5⟩:=w5 k a' e;refine⟨u1,mk',ts',k813 _ _ (fun z=>by rw[z,x8] at u2;cases u2) u2,u3,u4,fun t=>?_⟩;rcases u5 t with h|⟨l,zs,g1,g2,g3,g4,g5⟩
   ·exact .inl h
   ·exact .inr ⟨l,zs,g1,g2,k813 _ _ (fun z=>by rw[z,x8] at g3;cases g3) g3,g4.keep fun b xs e=>k813 _ _ (nta _ _ e) e,g5⟩
  ·have npT:pc≠T:=fun z=>by
    have:=k11 _ _ npa (s10 _ _ hp);rw[z,hT] at this;cases this
   have npx:pc∉L::T::ex:=fun z=>by
    rcases List.mem_cons.mp z with z|z
    ·exact nLp z.symm
    ·rcases List.mem_cons.mp z with z|z
     ·exact npT z
     ·obtain⟨_,_,xs,_,e⟩:=hexn ex hex pc z;rw[hpc8] at e;cases e
   refine .cons ⟨pc,ys,rfl,npx,k13 _ _ npa (k11 _ _ npa (s10 _ _ hp)),hz.keep fun b xs e=>?_⟩ .nil;have nb:b≠a:=fun z=>by rw[z,s9 _ _ x8] at e;cases e
   exact k13 _ _ nb (k11 _ _ nb (s10 _ _ e))
set_option maxHeartbeats 1000000 in
theorem Zb8{C:Addr}(B:∀x∈ZbJ,mg x=none)(c_Reader:RdC K C)(F:Fun K "ways_from" "Reader.ways_from" ZP f fd):FnOk P w K mg base CX0 1 f fd ["self","kind","tag"] (ZeG C):=by
 refine F.ok Zcb (fun vs H Q E h=>?_) (fun cdv A outer s H vs Q E hr h=>?_)
 ·obtain⟨a,L,T,ex,fm,R,lv,tg,k,t,rfl,_⟩:=h;rfl
 obtain⟨a,L,T,ex,fm,R,lv,tg,k,t,rfl,hR,q⟩:=h;have hu1:(A.deeper (PyProof.Rows.envOfC (Str.ofString "Reader.ways_from") (Zh ZP) s.heap.objs.size f cdv)).units+1<cLine:=by have:=hr.un;lia
 obtain⟨dx,p,df,dw,ns,zs,h1,h2,h3,h4,⟨nw,m,D,w1,w2,w3,w4⟩,h6,h7,h8⟩:=hR.ho;refine⟨_,(Zj (ZC (Zex hu1 (Zex hu1 (Zaf (pv 0) rfl) (pv 1) Zc8 ⟨rfl,rfl,rfl,rfl⟩) (pv 2) (ZaH Zf) ⟨rfl,rfl,rfl,rfl⟩))),?_⟩;refine⟨_,rfl,a,C,dx,_,_,rfl,h1,c_Reader.cls,c_Reader.n3,rfl,dw,rfl,.inl ⟨m,.inl w1⟩,_,rfl,fun d0 hd0=>?_⟩;have s1:Zk H (upd H d0 (.dK [])):=Zk.new hd0;have e1:(upd H d0 (.dK [])) d0=some (.dK []):=Zb;generalize upd H d0 (.dK [])=H1 at s1 e1 ⊢;refine⟨_,ZcX.k (k:=Sum.inl k) (s1 _ _ w1),?_⟩;rw[w2];cases hD:D k with
 | none =>
  refine⟨d0,rfl,.inl ⟨[],.inl e1⟩,_,rfl,by decide,fun l0 hl0=>⟨_,ZcX.k (k:=Sum.inr t) (by rw[Zd (Zi e1 hl0)];exact e1),?_⟩⟩;exact q l0 [] _ (s1.trans (Zk.new hl0)) Zb (by rw[w3 k hD t];exact .nil)
 | some a' =>
  obtain⟨n1,mk,ts,k1,k2,k3,k4⟩:=w4 k a' hD;refine⟨a',rfl,.inl ⟨mk,.inl (s1 _ _ k1)⟩,_,rfl,by decide,fun l0 hl0=>⟨_,ZcX.k (k:=Sum.inr t) (by rw[Zd (Zi (s1 _ _ k1) hl0)];exact s1 _ _ k1),?_⟩⟩;have s2:=s1.trans (Zk.new (o:=.lst []) hl0);rcases k4 t with⟨e,ew⟩|⟨l,zs',e,e2,e3,e4,e5⟩
  ·rw[e];exact q l0 [] _ s2 Zb (by have ew:Zc2 R k t=[]:=ew;rw[ew];exact .nil)
  ·rw[e];exact q l zs' _ s2 (s2 _ _ e3) (e4.keep fun b xs z=>s2 _ _ z)
set_option maxHeartbeats 2000000 in
theorem Zdl{C:Addr}(B:∀x∈ZbJ,mg x=none)(c_Reader:RdC K C)(F:Fun K "ended" "Reader.ended" Zap f fd):FnOk P w K mg base CX0 1 f fd ["self"] (Zc0 C):=by
 refine F.ok ZdD (fun vs H Q E h=>?_) (fun cdv A outer s H vs Q E hr h=>?_)
 ·obtain⟨a,L,T,ex,fm,R,lv,l,tg,rfl,_⟩:=h;rfl
 obtain⟨a,L,T,ex,fm,R,lv,l,tg,rfl,hR,q⟩:=h;have hu1:(A.deeper (PyProof.Rows.envOfC (Str.ofString "Reader.ended") (Zh Zap) s.heap.objs.size f cdv)).units+1<cLine:=by have:=hr.un;lia
 obtain⟨dx,p,df,dw,ns,zs,h1,h2,⟨m,h3,h3'⟩,h4,h5,h6,h7,h8⟩:=hR.ho;obtain⟨zs',pl,xs,rfl,g1,g2,g3,g4⟩:=h7.last;have hll:=hR.st.few hR.ok.n8 (List.mem_append_right lv (List.mem_singleton.mpr rfl));have hxl:=g4.length;refine⟨_,(Zj (ZC (Zay (Zbw rfl) rfl (B "dict" (by decide)) Zei (Za (ZcG (cl:=_) ["begin","now"] [("self",0)] (Zbt (Zae Zaa (Zaf (pv 0) rfl) (ZeT ZcI Zg) (fun _ _=>rfl))) (fun _ _ _ _=>(Zfz (K:=K) (n:=2) rfl rfl (ZL (Zu (i:=0) (show List.Nodup (["begin","now","self"]:List Str) by decide) rfl (Or.inl rfl)) (ZL (Zu (i:=1) (show List.Nodup (["begin","now","self"]:List Str) by decide) rfl (Or.inl rfl)) ZbB)))) (fun _ _ _ _=>(ZcK (Zdi hu1 (pv 1) (Zkp (K:=K) rfl (pv 2) rfl)))) (fun _ _ _ _=>(Zax (Za (pv 0) (Za Zba Zf)))) rfl rfl (by decide) rfl (by decide) (Zeb (by(repeat' first|exact List.forall_mem_nil _|refine List.forall_mem_cons.mpr ⟨?_,?_⟩) <;> rfl)) (Zcv (by(repeat' first|exact List.forall_mem_nil _|refine List.forall_mem_cons.mpr ⟨?_,?_⟩) <;> first|(intro h;exact⟨_,rfl⟩)|(intro h;exact absurd h (by decide)))) (fun _=>by(repeat' first|exact List.forall_mem_nil _|refine List.forall_mem_cons.mpr ⟨?_,?_⟩) <;> exact⟨rfl,rfl,Or.inl rfl⟩) (fun _=>rfl)) Zf)))),?_⟩
 refine⟨_,rfl,a,C,dx,_,_,rfl,h1,c_Reader.cls,c_Reader.n4,rfl,1,rfl,L,_,-1,.ref pl,rfl,rfl,SqL.of h6,ZbE _ _,pl,rfl,⟨_,SqL.of g3⟩,fun pc hpc=>Zd2 (K:=K) (a:=pl) (p:=pc) (xs:=xs) (fun i ys σ H2=>∃v0 v1:Option V,σ =[v0,v1,some (.ref a)]/\Zk H H2/\H2 pc=some (.lst ys)/\PT H2 ys (((l.take i).filter fun p=>decide (p.2∈fm.ts)).map (·.1)))
  ⟨none,none,rfl,Zk.new hpc,Zb,.nil⟩ ?_ ?_ ?_⟩
 ·rintro i ys σ H2 _ ⟨v0,v1,_,sm,h,_⟩;exact⟨SqL.of (sm _ _ g3),h⟩
 ·rintro i ys x σ H2 hi hx ⟨v0,v1,rfl,sm,hp,hz⟩;obtain⟨tp,pr,x1,rfl,x2⟩:=g4.get i x hx;have hlen:(((l.take i).filter fun p=>decide (p.2∈fm.ts)).map (·.1)).length<=4096:=by
   rw[List.length_map];exact Nat.le_trans (List.length_filter_le ..) (by rw[List.length_take];lia)
  refine⟨tp,_,rfl,SqT.of (sm _ _ x2),rfl,_,_,rfl,_,_,rfl,rfl,?_⟩;refine⟨_,rfl,_,rfl,a,C,dx,_,_,rfl,sm _ _ h1,c_Reader.cls,c_Reader.n2,rfl,df,_,rfl,ZcX.k (k:=Sum.inl pr.2) (sm _ _ h3),_,rfl,?_⟩;rw[DI.has h3'];by_cases c:pr.2∈fm.ts
  ·rw[decide_eq_true ((h4 _).mpr c)];refine Zci ⟨_,rfl,by show(2:Nat)<=sizeLine;decide,fun t ht0=>?_⟩;have s2:Zk H2 (upd H2 t (.tup [V.int pr.1,.bl true])):=Zk.new ht0;refine⟨s2 _ _ hp,Zn (by rw[hz.length];lia),CW.next hi ⟨_,_,rfl,(sm.trans s2).upd_new hpc,Zb,?_⟩⟩
   rw[Zz x1,List.filter_append,List.filter_cons,if_pos (decide_eq_true c),List.filter_nil,List.map_append];have hz2:PT (upd H2 t (.tup [V.int pr.1,.bl true])) (ys ++ [.ref t]) ((((l.take i).filter fun p=>decide (p.2∈fm.ts)).map (·.1)) ++ [pr.1]):=PT.snoc Zb (hz.keep fun b xs e=>s2 _ _ e);exact hz2.keep (ZcC (s2 _ _ hp))
  ·rw[decide_eq_false (fun z=>c ((h4 _).mp z))];refine Zbu (CW.next hi ⟨_,_,rfl,sm,hp,?_⟩)
   rw[Zz x1,List.filter_append,List.filter_cons,if_neg (by rw[decide_eq_false c];decide),List.filter_nil,List.append_nil];exact hz
 rintro ys σ H2 ⟨v0,v1,rfl,sm,hp,hz⟩;rw[hxl,List.take_length] at hz;have hlen:((l.filter fun p=>decide (p.2∈fm.ts)).map (·.1)).length<=4096:=by
  rw[List.length_map];exact Nat.le_trans (List.length_filter_le ..) hll
 have hmem:∀x,x∈((l.filter fun p=>decide (p.2∈fm.ts)).map (·.1))↔Edd fm.ts l x:=fun x=>by
  rw[List.mem_map];constructor
  ·rintro⟨⟨b,n⟩,hb,rfl⟩;obtain⟨e1,e2⟩:=List.mem_filter.mp hb;exact⟨n,e1,of_decide_eq_true e2⟩
  ·rintro⟨n,e1,e2⟩;exact⟨_,List.mem_filter.mpr ⟨e1,decide_eq_true e2⟩,rfl⟩
 generalize ((l.filter fun p=>decide (p.2∈fm.ts)).map (·.1))=es at hz hlen hmem;refine⟨pc,_,es.map kB,rfl,SqL.of hp,by rw[hz.length];lia,hz.pairs,fun d hd=>?_⟩;obtain⟨S0,kn0,hS0⟩:=ZgQ es [] [] rfl;have hm0:(putAll (es.map kB)).length<=es.length:=by
  have:=Zcu (es.map kB);rw[List.length_map] at this;exact this
 have kn0':(putAll (es.map kB)).map (·.1)=S0.map Sum.inl:=kn0;refine q d S0 _ (sm.upd_new (sm.free hd)) (sm.free hd) ⟨_,Zb,kn0'⟩ (by have:=ZbH kn0';lia) fun x=>?_;rw[hS0,<- hmem];exact⟨fun z=>z.elim (fun z=>nomatch z) id,.inr⟩
set_option maxHeartbeats 1000000 in
theorem ZdR{C:Addr}(B:∀x∈ZbJ,mg x=none)(c_Reader:RdC K C)(g_Reader_take_end:HasM P w K mg base C "take_end" ["self"] 2 (Zio C)) (g_Reader_take_tag:HasM P w K mg base C "take_tag" ["self","tag"] 2 (Zhq C)) (F:Fun K "take" "Reader.take" ZaJ f fd):FnOk P w K mg base CX0 3 f fd ["self","word"] (Zdz C):=by
 refine F.ok ZdV (fun vs H Q E h=>?_) (fun cdv A outer s H vs Q E hr h=>?_)
 ·obtain⟨a,L,T,ex,fm,R,lv,l,tg,w,rfl,_⟩:=h;rfl
 obtain⟨a,L,T,ex,fm,R,lv,l,tg,w,rfl,hR,htg,q1,q2⟩:=h;obtain⟨dx,p,df,dw,ns,zs,h1,_⟩:=id hR.ho;refine⟨_,(Zj (ZC (ZgJ (ZQ Zb2 (pv 1) Za0 (Z2 _)) (Za7 g_Reader_take_end hr (pv 0) c_Reader.cls) (Zbm g_Reader_take_tag hr (pv 0) c_Reader.cls (Za (pv 1) Zf))))),?_⟩;refine⟨_,rfl,rfl,_,rfl,ZbX (fun c=>?_) (fun c=>?_)⟩
 ·have e:w=SL:=by
   have:=of_decide_eq_true c;injection this
  subst e;exact⟨_,rfl,a,dx,_,rfl,h1,rfl,a,L,T,ex,fm,R,lv,l,tg,rfl,hR,htg,q1,q2⟩
 ·have e:w≠SL:=fun e=>c (decide_eq_true (congrArg V.str e));exact⟨_,rfl,a,dx,_,rfl,h1,rfl,_,rfl,a,L,T,ex,fm,R,lv,l,tg,w,rfl,hR,htg,e,q1,q2⟩
set_option maxHeartbeats 2000000 in
theorem Zcq{C:Addr}(B:∀x∈ZbJ,mg x=none)(c_Reader:RdC K C)(g_Reader_ways_from:HasM P w K mg base C "ways_from" ["self","kind","tag"] 1 (ZeG C)) (F:Fun K "take_tag" "Reader.take_tag" ZW f fd):FnOk P w K mg base CX0 2 f fd ["self","tag"] (Zhq C):=by
 refine F.ok Z9 (fun vs H Q E h=>?_) (fun cdv A outer s H vs Q E hr h=>?_)
 ·obtain⟨a,L,T,ex,fm,R,lv,l,tg,w,rfl,_⟩:=h;rfl
 obtain⟨a,L,T,ex,fm,R,lv,l,tg,w,rfl,hR,htg,hw,q1,q2⟩:=h;have hu1:(A.deeper (PyProof.Rows.envOfC (Str.ofString "Reader.take_tag") (Zh ZW) s.heap.objs.size f cdv)).units+1<cLine:=by have:=hr.un;lia
 obtain⟨dx,p,df,dw,ns,zs,h1,h2,h3,h4,h5,h6,h7,h8⟩:=id hR.ho;obtain⟨zs',pl,xs,rfl,g1,g2,g3,g4⟩:=h7.last;have hll:=hR.st.few hR.ok.n8 (List.mem_append_right lv (List.mem_singleton.mpr rfl));have hxl:=g4.length;have n8:=hR.ok.n8;have hqb:=hR.rk.qb hR.ok;refine⟨_,(Zc (Zt (i:=2) Z9.nd rfl (Or.inl rfl) Zc8)
  (Zc (Zbc PassesOwn.never rfl (Zbt (Zae Zaa (Zaf (pv 0) rfl) (ZeT ZcI Zg) (fun _ _=>rfl))) (Zdw rfl (ZL (Zu (i:=3) Z9.nd rfl (Or.inl rfl)) (ZL (Zu (i:=4) Z9.nd rfl (Or.inl rfl)) ZbB)))
   (Zj (Zbc PassesOwn.never rfl (Zbt (Zbm g_Reader_ways_from hr (pv 0) c_Reader.cls (Za (pv 4) (Za (pv 1) Zf)))) (Zdw rfl (ZL (Zu (i:=5) Z9.nd rfl (Or.inl rfl)) (ZL (Zu (i:=6) Z9.nd rfl (Or.inl rfl)) ZbB)))
     (Zj (Zdk hu1 (pv 2) (pv 5) Zba rfl)))))
  (Zc (ZaL (Zbb (Z7 (pv 2) (fun _=>rfl)))
   (Zj (ZC Zba))
   ZM)
  (Zc (Zau (Zbp PySem.F.plainAttrs_list PySem.F.slot_list_append PySem.F.type_list_append ZR (Zaf (pv 0) rfl) (Za (Zct (cl:=[]) ["begin"] [] (Zbt (ZF (ZdW rfl) rfl (B "sorted" (by decide)) Zcs (Za (pv 2) Zf))) (fun _ _ _ _=>(Zu (i:=0) nd1 rfl (Or.inl rfl))) (fun _ _ _ _=>(Zax (Za (pv 0) (Za (pv 0) Zf)))) rfl rfl (by decide) rfl (by decide) (fun _ _ h=>nomatch h) (ZcP (by decide)) (fun _ _ h=>nomatch h) (fun _=>rfl)) Zf)))
  (Zc (Zau (Zbp PySem.F.plainAttrs_list PySem.F.slot_list_append PySem.F.type_list_append ZR (Zaf (pv 0) rfl) (Za (pv 1) Zf)))
  (Zj (ZC Zba))))))),?_⟩
 refine fun d hd=>?_;have s0:Zk H (upd H d (.dK [])):=Zk.new hd;have few:∀{S:List Int},S.Nodup->IB fm.n S->S.length<=64:=fun{S} hn hb=>by
  have h64:((List.range 64).map fun x:Nat=>(x:Int)).length=64:=by rw[List.length_map,List.length_range]
  rw[<- h64];refine Zev hn fun x hx=>List.mem_map.mpr ⟨x.toNat,List.mem_range.mpr ?_,?_⟩
  ·have:=hb x hx;lia
  ·exact Int.toNat_of_nonneg (hb x hx).1
 refine⟨_,rfl,a,C,dx,_,_,rfl,s0 _ _ h1,c_Reader.cls,c_Reader.n4,rfl,1,rfl,L,_,-1,.ref pl,rfl,rfl,SqL.of (s0 _ _ h6),ZbE _ _,pl,rfl,⟨_,SqL.of (s0 _ _ g3)⟩,ZbU (K:=K) (a:=pl) (xs:=xs) (fun i σ H1=>∃(v3 v4 v5 v6:Option V)(m:List (Key×V))(S:List Int),σ =[some (.ref a),some (.str w),some (.ref d),v3,v4,v5,v6]/\Zk H H1/\H1 d=some (.dK m)/\m.map (·.1)=S.map Sum.inl/\S.Nodup/\IB fm.n S/\∀x,x∈S↔Bgs R (l.take i) w x)
  ⟨none,none,none,none,[],[],rfl,s0,Zb,rfl,List.nodup_nil,(fun _ h=>nomatch h),fun x=>⟨fun h=>(nomatch h),fun⟨_,h,_⟩=>(nomatch h)⟩⟩ ?_ ?_ ?_⟩
 ·rintro i σ H1 _ ⟨_,_,_,_,_,_,_,s1,_⟩;exact SqL.of (s1 _ _ g3)
 ·rintro i x σ H1 hx ⟨v3,v4,v5,v6,m,S,rfl,s1,hm,hk,hnd,hib,hmem⟩;obtain⟨tp,pr,x1,rfl,x2⟩:=g4.get i x hx;refine⟨tp,_,rfl,SqT.of (s1 _ _ x2),rfl,_,_,rfl,_,_,rfl,rfl,?_⟩;refine⟨_,rfl,a,dx,_,rfl,s1 _ _ h1,rfl,_,rfl,_,rfl,a,L,T,ex,fm,R,_,tg,pr.2,w,rfl,hR.same s1,fun r ys H2 s2 e2 e3=>?_⟩;have s12:=s1.trans s2;have hyl:=e3.length;refine⟨r,rfl,⟨_,SqL.of e2⟩,ZbU (K:=K) (a:=r) (xs:=ys) (fun j σ H3=>∃(v5 v6:Option V)(m:List (Key×V))(S':List Int),σ =[some (.ref a),some (.str w),some (.ref d),some (.int pr.1),some (.int pr.2),v5,v6]/\Zk H H3/\(∀b o,b≠d->H2 b=some o->H3 b=some o)/\H3 d=some (.dK m)/\m.map (·.1)=S'.map Sum.inl/\S'.Nodup/\IB fm.n S'/\∀x,x∈S'↔x∈S\/∃p∈(Zc2 R pr.2 w).take j,p.1=x)
   ⟨v5,v6,m,S,rfl,s12,(fun b o _ h=>h),s2 _ _ hm,hk,hnd,hib,fun x=>⟨.inl,fun z=>z.elim id fun⟨_,z,_⟩=>nomatch z⟩⟩ ?_ ?_ ?_⟩
  ·rintro j σ H3 _ ⟨_,_,_,_,_,_,kp,hd3,_⟩;refine SqL.of (kp _ _ (fun z=>?_) e2);rw[z,s2 _ _ hm] at e2;cases e2
  ·rintro j y σ H3 hy ⟨v5,v6,m3,S3,rfl,s3,kp,hm3,hk3,hnd3,hib3,hmem3⟩;obtain⟨tq,pq,y1,rfl,y2⟩:=e3.get j y hy;have y2':=kp _ _ (fun z=>by rw[z,s2 _ _ hm] at y2;cases y2) y2;have hpq:=ZbZ.mp (List.mem_of_getElem? y1);have hl3:=few hnd3 hib3;refine⟨tq,_,rfl,SqT.of y2',rfl,_,_,rfl,_,_,rfl,rfl,?_⟩;refine⟨_,rfl,_,rfl,d,_,rfl,Zit.k (k:=Sum.inl pq.1) hm3 (Zn (by have:=ZbH hk3;lia)),?_⟩;have hk4:(putK m3 (Sum.inl pq.1) (V.bl true)).map (·.1)=(ZkM S3 pq.1).map Sum.inl:=DI.put hk3 pq.1 (V.bl true);refine⟨_,_,_,ZkM S3 pq.1,rfl,s3.upd_new hd,fun b o hb h=>by rw[Zd hb];exact kp b o hb h,Zb,hk4,?_,?_,fun x=>?_⟩
   ·unfold ZkM
    split
    ·exact hnd3
    ·rename_i hno
     exact List.nodup_append.mpr ⟨hnd3,List.pairwise_singleton _ _,fun x hx y hy e=>hno (by rw[<- List.mem_singleton.mp hy,<- e];exact hx)⟩
   ·intro x hx;rcases ZeE.mp hx with hx|rfl
    ·exact hib3 x hx
    ·exact(hqb _ hpq).2.1
   ·rw[ZeE,hmem3,Zz y1];constructor
    ·rintro((h|⟨p,hp,z⟩)|rfl)
     ·exact .inl h
     ·exact .inr ⟨p,List.mem_append_left _ hp,z⟩
     ·exact .inr ⟨pq,List.mem_append_right _ (List.mem_singleton.mpr rfl),rfl⟩
    ·rintro(h|⟨p,hp,z⟩)
     ·exact .inl (.inl h)
     ·rcases List.mem_append.mp hp with hp|hp
      ·exact .inl (.inr ⟨p,hp,z⟩)
      ·rw[List.mem_singleton.mp hp] at z;exact .inr z.symm
  ·rintro σ H3 ⟨v5,v6,m3,S3,rfl,s3,kp,hm3,hk3,hnd3,hib3,hmem3⟩;rw[hyl,List.take_length] at hmem3;refine⟨_,_,_,_,m3,S3,rfl,s3,hm3,hk3,hnd3,hib3,fun x=>?_⟩;rw[hmem3,hmem,Zz x1];constructor
   ·rintro(⟨p,hp,r',z⟩|⟨p,hp,rfl⟩)
    ·exact⟨p,List.mem_append_left _ hp,r',z⟩
    ·exact⟨pr,List.mem_append_right _ (List.mem_singleton.mpr rfl),p.2,ZbZ.mp hp⟩
   ·rintro⟨p,hp,r',z⟩;rcases List.mem_append.mp hp with hp|hp
    ·exact .inl ⟨p,hp,r',z⟩
    ·rw[List.mem_singleton.mp hp] at z;exact .inr ⟨(x,r'),ZbZ.mpr z,rfl⟩
 ·rintro σ H1 ⟨v3,v4,v5,v6,m,S,rfl,s1,hm,hk,hnd,hib,hmem⟩;rw[hxl,List.take_length] at hmem;have hl1:=few hnd hib;have hkl:=ZbH hk;refine⟨_,rfl,_,.inr (.inr ⟨m,hm,rfl⟩),?_⟩;cases m with
  | nil =>
   have hS:S=[]:=List.length_eq_zero_iff.mp hkl.symm;subst hS;exact Zci (q1 H1 s1 (.inl ⟨hw,fun x hx=>nomatch (hmem x).mpr hx⟩))
  | cons kv m =>
   refine Zbu ?_;have t6:=s1 _ _ h6;have t8:=s1 _ _ h8;refine⟨_,rfl,a,C,dx,_,_,rfl,s1 _ _ h1,c_Reader.cls,c_Reader.n4,rfl,.inl ⟨rfl,_,SqL.of t6⟩,_,rfl,d,_,S,rfl,hm,by lia,hk,fun ps ks hps hperm hrise=>?_⟩;have s2:Zk H1 (upd H1 ps (.lst (ks.map V.int))):=Zk.new hps;have x2:(upd H1 ps (.lst (ks.map V.int))) ps=some (.lst (ks.map V.int)):=Zb;generalize upd H1 ps (.lst (ks.map V.int))=H2 at s2 x2 ⊢;have hksl:ks.length<=64:=by rw[hperm.length_eq];exact hl1
   refine⟨ps,rfl,⟨_,SqL.of x2⟩,fun pc hpc=>Zfq (K:=K) (a:=ps) (p:=pc) (xs:=ks.map V.int) (fun i ys σ H3=>∃v0:Option V,σ =[v0]/\Zk H2 H3/\H3 pc=some (.lst ys)/\PL H3 ys ((ks.take i).map dup))
    ⟨none,rfl,Zk.new hpc,Zb,.nil⟩ ?_ ?_ ?_⟩
   ·rintro i ys σ H3 _ ⟨v0,_,sm,h,_⟩;exact⟨SqL.of (sm _ _ x2),h⟩
   ·rintro i ys x σ H3 hi hx ⟨v0,rfl,sm,hp,hz⟩;rw[List.getElem?_map] at hx;obtain⟨e,he,rfl⟩:=Option.map_eq_some_iff.mp hx;refine⟨_,rfl,_,rfl,by show(2:Nat)<=sizeLine;decide,fun t ht0=>?_⟩;have s4:Zk H3 (upd H3 t (.tup [V.int e,V.int e])):=Zk.new ht0;refine⟨s4 _ _ hp,Zn (by rw[hz.length,List.length_map,List.length_take];lia),CW.next hi ⟨_,rfl,(sm.trans s4).upd_new hpc,Zb,?_⟩⟩
    rw[Zz he,List.map_append];have hz2:PL (upd H3 t (.tup [V.int e,V.int e])) (ys ++ [.ref t]) ((ks.take i).map dup ++ [dup e]):=PL.snoc (q:=dup e) (show _=some (tp (dup e)) from Zb) (hz.keep fun b xs e=>s4 _ _ e);exact hz2.keep (ZcC (s4 _ _ hp))
   rintro ys σ H3 ⟨v0,rfl,sm,hp,hz⟩;rw[List.length_map,List.take_length] at hz;have s13:Zk H1 H3:=s2.trans sm;have s03:=s1.trans s13;have hlvl:=h7.length;have hst:=hR.st.len;refine⟨L,_,_,rfl,rfl,s03 _ _ h6,Zn (by rw[h7.length,hst];lia),?_⟩;have nLT:=hR.ne;have npL:pc≠L:=fun z=>by
    have:=s2.free hpc;rw[z,t6] at this;cases this
   have npT:pc≠T:=fun z=>by
    have:=s2.free hpc;rw[z,t8] at this;cases this
   have x8:(upd H3 L (.lst ((zs' ++ [.ref pl]) ++ [.ref pc]))) T=some (.lst (tg.map V.str)):=by
    rw[Zd nLT.symm];exact s03 _ _ h8
   have xa:(upd H3 L (.lst ((zs' ++ [.ref pl]) ++ [.ref pc]))) a=some (.ins C dx (rdF p df dw L T)):=by
    rw[Zd (fun z=>by rw[z,h6] at h1;cases h1)];exact s03 _ _ h1
   refine⟨_,rfl,a,C,dx,_,_,rfl,xa,c_Reader.cls,c_Reader.n5,rfl,.inl ⟨rfl,_,SqL.of x8⟩,_,rfl,T,_,_,rfl,rfl,x8,Zn (by rw[List.length_map];lia),?_⟩;have kx:Zv [L,T] H (upd (upd H3 L (.lst ((zs' ++ [.ref pl]) ++ [.ref pc]))) T (.lst (tg.map V.str ++ [.str w]))):=(Zv.upd (Zv.upd (Zk.keepX s03) (List.mem_cons_self ..)) (List.mem_cons_of_mem _ (List.mem_cons_self ..)));have kx3:Zv [L,T] H3 (upd (upd H3 L (.lst ((zs' ++ [.ref pl]) ++ [.ref pc]))) T (.lst (tg.map V.str ++ [.str w]))):=(Zv.upd (Zv.upd (Zk.keepX (Zk.refl H3)) (List.mem_cons_self ..)) (List.mem_cons_of_mem _ (List.mem_cons_self ..)));have kt3:=kx3.tups (s03 _ _ h6) (s03 _ _ h8);have hstp:Stp fm.ts R (lv ++ [l]) tg w ((lv ++ [l]) ++ [ks.map dup]) (tg ++ [w]):=by
    refine .tag hw hrise (fun x=>?_) ?_
    ·rw[hperm.mem_iff];exact hmem x
    ·intro z;rw[z] at hperm;have:S=[]:=List.length_eq_zero_iff.mp (by rw[<- hperm.length_eq];rfl);rw[this] at hkl;exact nomatch hkl
   refine q2 _ _ _ kx (hR.move kx (hR.st.stp hqb hstp) (zs':=(zs' ++ [.ref pl]) ++ [.ref pc]) ?_ ?_ ?_) hstp
   ·rw[Zd nLT];exact Zb
   ·refine LVs.snoc (hR.fresh ((s1.trans s2).free hpc)) (kx3 _ _ (ZaP npL npT) hp) (hz.keep kt3) ?_;exact(LVs.keep (Zk.keepX s03) (fun b xs e=>s03 _ _ e) h7).keep (kx3.less Zcw) kt3
   ·rw[Zb,List.map_append];rfl
theorem ZkO{m:List (List Key×V)}{S:List Pr}(h:m.map (·.1)=S.map L2.pK)(x:Pr)(v:V):(putK m (L2.pK x) v).map (·.1)=(if x∈S then S else S ++ [x]).map L2.pK:=by
 have inj:∀{a b:Pr},L2.pK a=L2.pK b->a=b:=fun{a b} e=>by
  obtain⟨a1,a2⟩:=a;obtain⟨b1,b2⟩:=b;injection e with e1 e2;injection e2 with e2 _;injection e1 with e1;injection e2 with e2;have e1:a1=b1:=e1;have e2:a2=b2:=e2;rw[e1,e2]
 cases hv:Zbe m (L2.pK x) with
 | none =>
  have hn:=Zgk hv;have hx:x∉S:=fun hx=>hn (by rw[h];exact List.mem_map.mpr ⟨x,hx,rfl⟩);rw[ZeK v hv,if_neg hx,List.map_append,List.map_append,h];rfl
 | some y =>
  have hi:=ZhP hv;rw[h] at hi;obtain⟨z,hz,e⟩:=List.mem_map.mp hi;have e:=inj e;subst e;rw[if_pos hz,<- h];unfold putK;rw[ZaS,hv,if_pos (show(some y).isSome=true from rfl),List.map_map];refine List.map_congr_left fun kv _=>?_;show(if kv.1=L2.pK z then(kv.1,v) else kv).1=kv.1
  split <;> rfl
set_option maxHeartbeats 4000000 in
theorem Zcr{C:Addr}(B:∀x∈ZbJ,mg x=none)(c_Reader:RdC K C)(g_Reader_ended:HasM P w K mg base C "ended" ["self"] 1 (Zc0 C)) (g_Reader_ways_from:HasM P w K mg base C "ways_from" ["self","kind","tag"] 1 (ZeG C)) (F:Fun K "take_end" "Reader.take_end" ZZ f fd):FnOk P w K mg base CX0 2 f fd ["self"] (Zio C):=by
 refine F.ok ZG (fun vs H Q E h=>?_) (fun cdv A outer s H vs Q E hr h=>?_)
 ·obtain⟨a,L,T,ex,fm,R,lv,l,tg,rfl,_⟩:=h;rfl
 obtain⟨a,L,T,ex,fm,R,lv,l,tg,rfl,hR,htg,q1,q2⟩:=h;have hu1:(A.deeper (PyProof.Rows.envOfC (Str.ofString "Reader.take_end") (Zh ZZ) s.heap.objs.size f cdv)).units+1<cLine:=by have:=hr.un;lia
 obtain⟨dx,p,df,dw,ns,zs,h1,h2,h3,h4,h5,h6,h7,h8⟩:=id hR.ho;have n8:=hR.ok.n8;have hqb:=hR.rk.qb hR.ok;refine⟨_,(Zc (Zt (i:=1) ZG.nd rfl (Or.inl rfl) (Za7 g_Reader_ended hr (pv 0) c_Reader.cls))
  (Zc (ZaL (PW.pt (Zjc (Zbb (Z7 (Zaf (pv 0) rfl) (fun _=>rfl))) (ZgU (Zbb (Z7 (pv 1) (fun _=>rfl))))))
   (Zj (ZC Zba))
   ZM)
  (Zc (Zt (i:=2) ZG.nd rfl (Or.inl rfl) (ZcL PySem.F.plainAttrs_list PySem.F.slot_list_pop PySem.F.type_list_pop Zdu (Zaf (pv 0) rfl)))
  (Zc (Zau (ZcL PySem.F.plainAttrs_list PySem.F.slot_list_pop PySem.F.type_list_pop Zdu (Zaf (pv 0) rfl)))
  (Zc (Zt (i:=3) ZG.nd rfl (Or.inl rfl) ZeB)
  (Zc (Zbc PassesOwn.never rfl (Zbt (Zae Zaa (Zaf (pv 0) rfl) (ZeT ZcI Zg) (fun _ _=>rfl))) (Zdw rfl (ZL (Zu (i:=4) ZG.nd rfl (Or.inl rfl)) (ZL (Zu (i:=5) ZG.nd rfl (Or.inl rfl)) ZbB)))
   (Zj (Zbc PassesOwn.never rfl (Zbt (Zbm g_Reader_ways_from hr (pv 0) c_Reader.cls (Za (pv 5) (Za (pv 2) Zf)))) (Zdw rfl (ZL (Zu (i:=6) ZG.nd rfl (Or.inl rfl)) (ZL (Zu (i:=7) ZG.nd rfl (Or.inl rfl)) ZbB)))
     (Zj (ZaL (ZcK (Zdi hu1 (pv 6) (pv 1)))
       (Zj (Zdk hu1 (pv 3) (Zax (Za (pv 4) (Za (pv 7) Zf))) Zba rfl))
       ZM)))))
  (Zc (Zh6 (ZF (ZdN rfl) rfl (B "sorted" (by decide)) Zcs (Za (pv 3) Zf)) (ZiG (Zaf (pv 0) rfl) (ZeT ZcI Zg) set_list))
  (Zj (ZC Zba))))))))),?_⟩
 refine⟨_,rfl,a,dx,_,rfl,h1,rfl,a,L,T,ex,fm,R,lv,l,tg,rfl,hR,fun de es H1 s1 hde ⟨me,e1,ek⟩ hel hee=>?_⟩;refine⟨_,rfl,a,C,dx,_,_,rfl,s1 _ _ h1,c_Reader.cls,c_Reader.n5,rfl,_,.inl ⟨_,SqL.of (s1 _ _ h8),rfl⟩,?_⟩;rcases List.eq_nil_or_concat tg with rfl|⟨tg0,w,rfl⟩
 ·exact Zci (Zci (q1 H1 s1 (.inr ⟨rfl,.inl rfl⟩)))
 rw[List.concat_eq_append] at *;have hne:(!((tg0 ++ [w]).map V.str).isEmpty)=true:=by
  rw[List.map_append];cases tg0 <;> rfl
 rw[hne];refine Zbu ⟨_,rfl,_,.inr (.inr ⟨me,e1,rfl⟩),?_⟩;have hekl:=ZbH ek;cases me with
 | nil =>
  have:es=[]:=List.length_eq_zero_iff.mp hekl.symm;subst this;exact Zci (q1 H1 s1 (.inr ⟨rfl,.inr fun b hb=>nomatch (hee b).mpr hb⟩))
 | cons kv me =>
 refine Zbu ?_;obtain⟨y,hy⟩:∃y,y∈es:=by
  cases es with
  | nil=>exact nomatch hekl
  | cons y es=>exact⟨y,List.mem_cons_self ..⟩
 generalize kv::me=m1 at e1 ek hekl;have hstl:=hR.st.len;rw[List.length_append,List.length_append,List.length_singleton,List.length_singleton] at hstl;rcases List.eq_nil_or_concat lv with rfl|⟨lv0,l1,rfl⟩
 ·rw[List.length_nil] at hstl;lia
 rw[List.concat_eq_append] at *;obtain⟨zs1,pl,xs,rfl,g1,g2,g3,g4⟩:=h7.last;obtain⟨zs0,pl1,xs1,rfl,f1,f2,f3,f4⟩:=g1.last;have hl1:=hR.st.few n8 (List.mem_append_left [l] (List.mem_append_right lv0 (List.mem_singleton.mpr rfl)));have hb1:=hR.st.bd l1 (List.mem_append_left [l] (List.mem_append_right lv0 (List.mem_singleton.mpr rfl)));have hxl:=f4.length;have nLT:=hR.ne;have naL:a≠L:=fun z=>by rw[z,h6] at h1;cases h1
 have naT:a≠T:=fun z=>by rw[z,h8] at h1;cases h1
 have t8:=s1 _ _ h8;have t8':H1 T=some (.lst (tg0.map V.str ++ [.str w])):=by
  rw[t8,List.map_append];rfl
 refine⟨_,rfl,a,C,dx,_,_,rfl,s1 _ _ h1,c_Reader.cls,c_Reader.n5,rfl,.inl ⟨rfl,_,SqL.of t8'⟩,T,_,_,rfl,rfl,t8',Zbl _ _,?_⟩;rw[List.dropLast_concat];have k2:Zv [L,T] H1 (upd H1 T (.lst (tg0.map V.str))):=Zv.upd (Zk.keepX (Zk.refl H1)) (List.mem_cons_of_mem _ (List.mem_cons_self ..));have x2T:(upd H1 T (.lst (tg0.map V.str))) T=some (.lst (tg0.map V.str)):=Zb;have x2L:(upd H1 T (.lst (tg0.map V.str))) L=some (.lst ((zs0 ++ [.ref pl1]) ++ [.ref pl])):=by
  rw[Zd nLT];exact s1 _ _ h6
 generalize upd H1 T (.lst (tg0.map V.str))=H2 at k2 x2T x2L ⊢;refine⟨_,rfl,a,C,dx,_,_,rfl,k2 _ _ (ZaP naL naT) (s1 _ _ h1),c_Reader.cls,c_Reader.n4,rfl,.inl ⟨rfl,_,SqL.of x2L⟩,L,_,_,rfl,rfl,x2L,Zbl _ _,?_⟩;rw[List.dropLast_concat];have k3:Zv [L,T] H1 (upd H2 L (.lst (zs0 ++ [.ref pl1]))):=Zv.upd k2 (List.mem_cons_self ..);have x3T:(upd H2 L (.lst (zs0 ++ [.ref pl1]))) T=some (.lst (tg0.map V.str)):=by
  rw[Zd nLT.symm];exact x2T
 have x3L:(upd H2 L (.lst (zs0 ++ [.ref pl1]))) L=some (.lst (zs0 ++ [.ref pl1])):=Zb;generalize upd H2 L (.lst (zs0 ++ [.ref pl1]))=H3 at k3 x3T x3L ⊢;have k03:Zv [L,T] H H3:=fun b o hb e=>k3 b o hb (s1 b o e);have kt03:=k03.tups h6 h8;have st3:RdOk fm.n (lv0 ++ [l1]) tg0:=⟨by rw[List.length_append,List.length_singleton] at hstl ⊢;lia,fun x hx=>hR.st.ri x (List.mem_append_left _ hx),fun x hx=>hR.st.bd x (List.mem_append_left _ hx)⟩;have hR3:RdAt C H3 a L T ex fm R (lv0 ++ [l1]) tg0:=hR.move k03 st3 x3L (LVs.keep (k03.less Zcw) kt03 g1) x3T;have nde:de ∉ [L,T]:=ZaP (fun z=>by rw[z,s1 _ _ h6] at e1;cases e1) (fun z=>by rw[z,s1 _ _ h8] at e1;cases e1);have e3:=k3 _ _ nde e1;have f3':=k03 _ _ (fun z=>f2 (Zcw _ z)) f3;have f4':PL H3 xs1 l1:=f4.keep kt03;have a3:=k03 _ _ (ZaP naL naT) h1;refine fun d hd=>?_;have s4:Zk H3 (upd H3 d (.dT [])):=Zk.new hd;refine⟨_,rfl,a,C,dx,_,_,rfl,s4 _ _ a3,c_Reader.cls,c_Reader.n4,rfl,1,rfl,L,_,-1,.ref pl1,rfl,rfl,SqL.of (s4 _ _ x3L),ZbE _ _,pl1,rfl,⟨_,SqL.of (s4 _ _ f3')⟩,ZbU (K:=K) (a:=pl1) (xs:=xs1) (fun i σ H4=>∃(v4 v5 v6 v7:Option V)(m:List (List Key×V))(S:List Pr),σ =[some (.ref a),some (.ref de),some (.str w),some (.ref d),v4,v5,v6,v7]/\Zk H3 H4/\H4 d=some (.dT m)/\m.map (·.1)=S.map L2.pK/\S.Nodup/\(∀p∈S,(0<=p.1/\p.1<fm.n)/\0<=p.2/\p.2<fm.n)/\∀x,x∈S↔Shu fm.ts R (l1.take i) l w x)
  ⟨none,none,none,none,[],[],rfl,s4,Zb,rfl,List.nodup_nil,(fun _ h=>nomatch h),fun x=>⟨fun h=>(nomatch h),fun⟨_,_,h,_⟩=>(nomatch h)⟩⟩ ?_ ?_ ?_⟩
 ·rintro i σ H4 _ ⟨_,_,_,_,_,_,_,sm,_⟩;exact SqL.of (sm _ _ f3')
 ·rintro i x σ H4 hx ⟨v4,v5,v6,v7,m,S,rfl,sm,hm,hk,hnd,hib,hmem⟩;obtain⟨tp,pr,x1,rfl,x2⟩:=f4'.get i x hx;have hprb:=hb1 pr (List.mem_of_getElem? x1);refine⟨tp,_,rfl,SqT.of (sm _ _ x2),rfl,_,_,rfl,_,_,rfl,rfl,?_⟩;refine⟨_,rfl,a,dx,_,rfl,sm _ _ a3,rfl,_,rfl,_,rfl,a,L,T,ex,fm,R,_,tg0,pr.2,w,rfl,hR3.same sm,fun r ys H5 s5 e5 e6=>?_⟩;have s35:=sm.trans s5;have hyl:=e6.length;refine⟨r,rfl,⟨_,SqL.of e5⟩,ZbU (K:=K) (a:=r) (xs:=ys) (fun j σ H6=>∃(v6 v7:Option V)(m:List (List Key×V))(S':List Pr),σ =[some (.ref a),some (.ref de),some (.str w),some (.ref d),some (.int pr.1),some (.int pr.2),v6,v7]/\Zk H3 H6/\(∀b o,b≠d->H5 b=some o->H6 b=some o)/\H6 d=some (.dT m)/\m.map (·.1)=S'.map L2.pK/\S'.Nodup/\(∀p∈S',(0<=p.1/\p.1<fm.n)/\0<=p.2/\p.2<fm.n)/\∀x,x∈S'↔x∈S\/∃p∈(Zc2 R pr.2 w).take j,Edd fm.ts l p.1/\(pr.1,p.2)=x)
   ⟨v6,v7,m,S,rfl,s35,(fun b o _ h=>h),s5 _ _ hm,hk,hnd,hib,fun x=>⟨.inl,fun z=>z.elim id fun⟨_,z,_⟩=>nomatch z⟩⟩ ?_ ?_ ?_⟩
  ·rintro j σ H6 _ ⟨_,_,_,_,_,_,kp,_⟩;refine SqL.of (kp _ _ (fun z=>?_) e5);rw[z,s5 _ _ hm] at e5;cases e5
  ·rintro j y σ H6 hy ⟨v6,v7,m6,S6,rfl,s6,kp,hm6,hk6,hnd6,hib6,hmem6⟩;obtain⟨tq,pq,y1,rfl,y2⟩:=e6.get j y hy;have y2':=kp _ _ (fun z=>by rw[z,s5 _ _ hm] at y2;cases y2) y2;have hpq:=ZbZ.mp (List.mem_of_getElem? y1);have hl6:=Zdf n8 hnd6 hib6;have hkl6:m6.length=S6.length:=by have:=congrArg List.length hk6;simpa using this
   refine⟨tq,_,rfl,SqT.of y2',rfl,_,_,rfl,_,_,rfl,rfl,?_⟩;refine⟨_,rfl,_,rfl,de,_,rfl,ZcX.k (k:=Sum.inl pq.1) (s6 _ _ e3),_,rfl,?_⟩;rw[DI.has ek];by_cases c:pq.1∈es
   ·rw[decide_eq_true c];refine Zci ⟨_,rfl,_,rfl,_,rfl,by show(2:Nat)<=sizeLine;decide,fun t ht0=>?_⟩;have s7:Zk H6 (upd H6 t (.tup [V.int pr.1,V.int pq.2])):=Zk.new ht0;have x7:(upd H6 t (.tup [V.int pr.1,V.int pq.2])) t=some (.tup ((L2.pK (pr.1,pq.2)).map kV)):=Zb;generalize upd H6 t (.tup [V.int pr.1,V.int pq.2])=H7 at s7 x7 ⊢;refine⟨d,_,rfl,Zit.t (k:=L2.pK (pr.1,pq.2)) (s7 _ _ hm6) x7 (Zn (by lia)),?_⟩;refine⟨_,_,_,if(pr.1,pq.2)∈S6 then S6 else S6 ++ [(pr.1,pq.2)],rfl,(s6.trans s7).upd_new hd,fun b o hb h=>by rw[Zd hb];exact s7 _ _ (kp b o hb h),Zb,ZkO hk6 _ _,?_,?_,fun x=>?_⟩
    ·split
     ·exact hnd6
     ·rename_i hno
      exact List.nodup_append.mpr ⟨hnd6,List.pairwise_singleton _ _,fun x hx y hy e=>hno (by rw[<- List.mem_singleton.mp hy,<- e];exact hx)⟩
    ·intro x hx;have hx':x∈S6\/x=(pr.1,pq.2):=by
      split at hx
      ·exact .inl hx
      ·rcases List.mem_append.mp hx with h|h
       ·exact .inl h
       ·exact .inr (List.mem_singleton.mp h)
     rcases hx' with hx|rfl
     ·exact hib6 x hx
     ·exact⟨hprb.1,(hqb _ hpq).2.2⟩
    ·have e9:x∈(if(pr.1,pq.2)∈S6 then S6 else S6 ++ [(pr.1,pq.2)])↔x∈S6\/x=(pr.1,pq.2):=by
      split
      ·rename_i h
       exact⟨.inl,fun z=>z.elim id fun z=>z ▸ h⟩
      ·rw[List.mem_append,List.mem_singleton]
     rw[e9,hmem6,Zz y1];constructor
     ·rintro((h|⟨p,hp,z⟩)|rfl)
      ·exact .inl h
      ·exact .inr ⟨p,List.mem_append_left _ hp,z⟩
      ·exact .inr ⟨pq,List.mem_append_right _ (List.mem_singleton.mpr rfl),(hee _).mp c,rfl⟩
     ·rintro(h|⟨p,hp,z⟩)
      ·exact .inl (.inl h)
      ·rcases List.mem_append.mp hp with hp|hp
       ·exact .inl (.inr ⟨p,hp,z⟩)
       ·rw[List.mem_singleton.mp hp] at z;exact .inr z.2.symm
   ·rw[decide_eq_false c];refine Zbu ⟨_,_,m6,S6,rfl,s6,kp,hm6,hk6,hnd6,hib6,fun x=>?_⟩;rw[hmem6,Zz y1];constructor
    ·rintro(h|⟨p,hp,z⟩)
     ·exact .inl h
     ·exact .inr ⟨p,List.mem_append_left _ hp,z⟩
    ·rintro(h|⟨p,hp,z⟩)
     ·exact .inl h
     ·rcases List.mem_append.mp hp with hp|hp
      ·exact .inr ⟨p,hp,z⟩
      ·rw[List.mem_singleton.mp hp] at z;exact absurd ((hee _).mpr z.1) c
  ·rintro σ H6 ⟨v6,v7,m6,S6,rfl,s6,kp,hm6,hk6,hnd6,hib6,hmem6⟩;rw[hyl,List.take_length] at hmem6;refine⟨_,_,_,_,m6,S6,rfl,s6,hm6,hk6,hnd6,hib6,fun x=>?_⟩;rw[hmem6,hmem,Zz x1];constructor
   ·rintro(⟨n,i,h,z⟩|⟨p,hp,z1,rfl⟩)
    ·exact⟨n,i,List.mem_append_left _ h,z⟩
    ·exact⟨pr.2,p.1,List.mem_append_right _ (List.mem_singleton.mpr rfl),ZbZ.mp hp,z1⟩
   ·rintro⟨n,i,h,z1,z2⟩;rcases List.mem_append.mp h with h|h
    ·exact .inl ⟨n,i,h,z1,z2⟩
    ·have e:=List.mem_singleton.mp h;refine .inr ⟨(i,x.2),ZbZ.mpr ?_,z2,?_⟩
     ·rw[<- e];exact z1
     ·rw[<- e]
 ·rintro σ H4 ⟨v4,v5,v6,v7,m,S,rfl,sm,hm,hk,hnd,hib,hmem⟩;rw[hxl,List.take_length] at hmem;have hl4:=Zdf n8 hnd hib;have hkl4:m.length=S.length:=by have:=congrArg List.length hk;simpa using this
  refine⟨_,rfl,d,m,S,rfl,hm,by lia,hk,fun r ys ms hr4 hperm hso hpl=>?_⟩;have s5:Zk H4 (upd H4 r (.lst ys)):=Zk.new hr4;have x5:(upd H4 r (.lst ys)) r=some (.lst ys):=Zb;generalize upd H4 r (.lst ys)=H5 at s5 x5 ⊢;have s35:=sm.trans s5;have ixl:ixN (zs0 ++ [V.ref pl1]).length (-1)=some zs0.length:=by
   rw[List.length_append,List.length_singleton];unfold ixN;rw[if_neg (by decide),if_pos (by lia)]
   congr 1
   lia
  refine⟨_,rfl,a,C,dx,_,_,rfl,s35 _ _ a3,c_Reader.cls,c_Reader.n4,rfl,1,rfl,L,_,-1,_,rfl,rfl,s35 _ _ x3L,ixl,?_⟩;have eset:(zs0 ++ [V.ref pl1]).set zs0.length (.ref r)=zs0 ++ [.ref r]:=by
   rw[List.set_append_right _ _ (Nat.le_refl _),Nat.sub_self];rfl
  rw[eset];have hrise:Zg5 ms:=Srd.ZfF.strict hso (hperm.nodup_iff.mpr hnd);have hr3:H3 r=none:=sm.free hr4;have nrL:r≠L:=fun z=>by rw[z,x3L] at hr3;cases hr3
  have nrT:r≠T:=fun z=>by rw[z,x3T] at hr3;cases hr3
  have kx:Zv [L,T] H (upd H5 L (.lst (zs0 ++ [.ref r]))):=Zv.upd (fun b o hb e=>s35 _ _ (k03 b o hb e)) (List.mem_cons_self ..);have kx5:Zv [L,T] H5 (upd H5 L (.lst (zs0 ++ [.ref r]))):=Zv.upd (Zk.keepX (Zk.refl H5)) (List.mem_cons_self ..);have kt5:=kx5.tups (s35 _ _ x3L) (s35 _ _ x3T);have hstp:Stp fm.ts R ((lv0 ++ [l1]) ++ [l]) (tg0 ++ [w]) SL (lv0 ++ [ms]) tg0:=.fin ⟨y,(hee y).mp hy⟩ hrise fun x=>by
   rw[hperm.mem_iff];exact hmem x
  refine q2 _ _ _ kx (hR.move kx (hR.st.stp hqb hstp) (zs':=zs0 ++ [.ref r]) Zb ?_ ?_) hstp
  ·refine LVs.snoc (hR3.fresh hr3) (kx5 _ _ (ZaP nrL nrT) x5) ((hpl.keep fun b xs e=>s5 _ _ e).keep kt5) ?_;exact(LVs.keep (k03.less Zcw) kt03 f1).keep (fun b o hb e=>kx5.less Zcw _ _ hb (s35 _ _ e)) (fun b xs e=>kt5 _ _ (s35 _ _ e))
  ·rw[Zd nLT.symm];exact s35 _ _ x3T
set_option maxHeartbeats 1000000 in
theorem Zcf{C:Addr}(B:∀x∈ZbJ,mg x=none)(c_Reader:RdC K C)(g_Reader_ended:HasM P w K mg base C "ended" ["self"] 1 (Zc0 C)) (F:Fun K "ends_well" "Reader.ends_well" Z8 f fd):FnOk P w K mg base CX0 2 f fd ["self"] (Zeh C):=by
 refine F.ok Zce (fun vs H Q E h=>?_) (fun cdv A outer s H vs Q E hr h=>?_)
 ·obtain⟨a,L,T,ex,fm,R,lv,l,tg,rfl,_⟩:=h;rfl
 obtain⟨a,L,T,ex,fm,R,lv,l,tg,rfl,hR,q⟩:=h;obtain⟨dx,p,df,dw,ns,zs,h1,h2,h3,h4,h5,h6,h7,h8⟩:=id hR.ho;refine⟨_,(Zj (ZC (ZcS (Zku (Zaf (pv 0) rfl)) (Zd9 (ZbK ZiS (ZF Ziq rfl (B "len" (by decide)) PySem.boot_len (Za (Za7 g_Reader_ended hr (pv 0) c_Reader.cls) Zf)) Zg (Z2 _)))))),?_⟩;refine⟨_,rfl,a,C,dx,_,_,rfl,h1,c_Reader.cls,c_Reader.n5,rfl,_,.inl ⟨_,SqL.of h8,rfl⟩,?_⟩;cases tg with
 | cons t tg =>
  refine⟨false,rfl,?_⟩;exact Zbu (q false H (Zk.refl H) ⟨fun z=>(nomatch z),fun z=>nomatch z.1⟩)
 | nil =>
  refine⟨true,rfl,?_⟩;refine Zci ⟨_,rfl,a,dx,_,rfl,h1,rfl,a,L,T,ex,fm,R,lv,l,[],rfl,hR,fun d ns' H' s' hd ⟨m,hm,hk⟩ hl hmem=>?_⟩;refine⟨d,m,rfl,hm,_,0,rfl,rfl,?_⟩;have hlen:=ZbH hk;refine q _ H' s' ?_;rw[decide_eq_true_eq];constructor
  ·intro h;refine⟨rfl,?_⟩;cases ns' with
   | nil =>
    rw[hlen] at h;exact absurd h (by decide)
   | cons x xs=>exact⟨x,(hmem x).mp (List.mem_cons_self ..)⟩
  ·rintro⟨_,x,hx⟩;have:=List.length_pos_of_mem ((hmem x).mpr hx);lia
structure PpC(K:PySem.W.Frag)(C:Addr):Prop where
 cls:Cls K C
 n1:ZaO K C "stream"
 n2:ZaO K C "first"
 n3:ZaO K C "second"
 n4:ZaO K C "told"
 n5:ZaO K C "broken_at"
def ppF(x y z tl:Addr)(b:V):List (Str×V):=[("stream",.ref x),("first",.ref y),("second",.ref z),("told",.ref tl),("broken_at",b)]
structure Pad where
 pp:Addr
 x:Addr
 dk:Addr
 Bl:Addr
 y:Addr
 L1:Addr
 T1:Addr
 z:Addr
 L2:Addr
 T2:Addr
 tl:Addr
def Pad.W(d:Pad):List Addr:=[d.L1,d.T1,d.x,d.Bl,d.L2,d.T2,d.pp,d.tl]
structure PpAt(CS CR CP:Addr)(H:Hp)(O:List Addr)(d:Pad)(f1 f2:FQ)(kn:Kn)(p1:RS)(bs:Bg)(s:HS):Prop where
 ho:∃dx,H d.pp=some (.ins CP dx (ppF d.x d.y d.z d.tl (brV s.2.1)))
 st:∃ls n,StAt CS H d.x d.dk d.Bl ls kn bs n/\∀l∈ls,l∉d.L1::d.T1::d.L2::d.T2::d.tl::O
 r1:RdE CR H d.y d.L1 d.T1 (d.Bl::d.L2::d.T2::d.tl::O) f1 p1
 r2:RdE CR H d.z d.L2 d.T2 (d.Bl::d.L1::d.T1::d.tl::O) f2 s.1
 ht:H d.tl=some (.lst (s.2.2.map V.str))
 n1:d.Bl∉d.tl::O
 n2:d.tl∉O
section
variable{CS CR CP:Addr}{H H':Hp}{O:List Addr}{d:Pad}{f1 f2:FQ}{kn:Kn}{p1:RS}{bs:Bg}{s:HS}
theorem Zdc{C C' dx dx' b b':Addr}{n n':Str}{v v':V}{fs fs':List (Str×V)}{H:Hp}(h:H b=some (.ins C dx ((n,v)::fs)))(h':H b'=some (.ins C' dx' ((n',v')::fs')))(hn:n≠n'):b≠b':=fun z=>by
 rw[z,h'] at h;injection h with h;injection h with _ _ h;injection h with h;injection h with h;exact hn h.symm
theorem ZdJ{b b':Addr}{o:HO}{xs:List V}(h:H b=some o)(h':H b'=some (.lst xs))(n:∀xs,o ≠ .lst xs):b≠b':=fun z=>by
 rw[z,h'] at h;injection h with h;exact n xs h.symm
theorem PpAt.on{s':HS}(h:PpAt CS CR CP H O d f1 f2 kn p1 bs s)(k:Zv [d.L2,d.T2,d.pp,d.tl] H H')(e1:∃dx,H' d.pp=some (.ins CP dx (ppF d.x d.y d.z d.tl (brV s'.2.1))))(e2:RdE CR H' d.z d.L2 d.T2 (d.Bl::d.L1::d.T1::d.tl::O) f2 s'.1)(e3:H' d.tl=some (.lst (s'.2.2.map V.str))):PpAt CS CR CP H' O d f1 f2 kn p1 bs s':=by
 obtain⟨ls,n,hs,hl⟩:=h.st;obtain⟨dp,hp⟩:=h.ho;obtain⟨dx,hx⟩:=hs.ho;obtain⟨mk,hk,_⟩:=hs.hk;obtain⟨⟨x1,hL⟩,⟨x2,hT⟩,hB⟩:=h.r2.lists;obtain⟨⟨y1,hL'⟩,⟨y2,hT'⟩,_⟩:=e2.lists;have in4:∀b ∈ [d.L2,d.T2,d.pp,d.tl],(∃xs,H b=some (.lst xs))\/b=d.pp:=fun b hb=>by
  simp only[List.mem_cons,List.not_mem_nil,or_false] at hb;rcases hb with rfl|rfl|rfl|rfl
  ·exact .inl ⟨_,hL⟩
  ·exact .inl ⟨_,hT⟩
  ·exact .inr rfl
  ·exact .inl ⟨_,h.ht⟩
 have noL:∀{b:Addr}{o:HO},H b=some o->(∀xs,o ≠ .lst xs)->b≠d.pp->b ∉ [d.L2,d.T2,d.pp,d.tl]:=fun{b o} e n1 n2 hb=>by
  rcases in4 b hb with⟨xs,z⟩|z
  ·rw[e] at z;injection z with z;exact n1 xs z
  ·exact n2 z
 have bl:=hB d.Bl (List.mem_cons_self ..);have bt:d.Bl≠d.pp:=fun z=>by
  obtain⟨_,_,xs,e⟩:=bl;rw[z,hp] at e;cases e
 have b4:d.Bl ∉ [d.L2,d.T2,d.pp,d.tl]:=fun z=>by
  simp only[List.mem_cons,List.not_mem_nil,or_false] at z;rcases z with z|z|z|z
  ·exact bl.1 z
  ·exact bl.2.1 z
  ·exact bt z
  ·exact h.n1 (by rw[z];exact List.mem_cons_self ..)
 refine⟨e1,⟨ls,n,Fg.StAt.keep hs k (fun b hb xs e=>?_) (noL hx (fun _ z=>nomatch z) (Zdc hx hp (by decide))) (noL hk (fun _ z=>nomatch z) (fun z=>by rw[z,hp] at hk;cases hk)) b4 fun l hl' z=>?_,hl⟩,h.r1.keep k fun b hb=>?_,e2,e3,h.n1,h.n2⟩
 ·rcases in4 b hb with⟨ys,z⟩|z
  ·rw[e] at z;cases z
  ·rw[z,hp] at e;cases e
 ·have:=hl l hl';simp only[List.mem_cons,List.not_mem_nil,or_false,not_or] at z this;obtain⟨xs,e⟩:=Fg.StAt.live hs l (List.mem_cons_of_mem _ hl');rcases z with z|z|z|z
  ·exact this.2.2.1 z
  ·exact this.2.2.2.1 z
  ·rw[z,hp] at e;cases e
  ·exact this.2.2.2.2.1 z
 ·simp only[List.mem_cons,List.not_mem_nil,or_false] at hb;rcases hb with rfl|rfl|rfl|rfl
  ·exact .inl ⟨by simp,y1,hL'⟩
  ·exact .inl ⟨by simp,y2,hT'⟩
  ·exact .inr ⟨_,_,_,_,_,hp,by decide⟩
  ·exact .inl ⟨by simp,_,e3⟩
theorem PpAt.fst{p':RS}(h:PpAt CS CR CP H O d f1 f2 kn p1 bs s)(k:Zv [d.L1,d.T1] H H')(e:RdE CR H' d.y d.L1 d.T1 (d.Bl::d.L2::d.T2::d.tl::O) f1 p'):PpAt CS CR CP H' O d f1 f2 kn p' bs s:=by
 obtain⟨ls,n,hs,hl⟩:=h.st;obtain⟨dp,hp⟩:=h.ho;obtain⟨dx,hx⟩:=hs.ho;obtain⟨mk,hk,_⟩:=hs.hk;obtain⟨⟨x1,hL⟩,⟨x2,hT⟩,hB⟩:=h.r1.lists;obtain⟨⟨y1,hL'⟩,⟨y2,hT'⟩,_⟩:=e.lists;have no:∀{b:Addr}{o:HO},H b=some o->(∀xs,o ≠ .lst xs)->b ∉ [d.L1,d.T1]:=fun{b o} e n=>ZaP (ZdJ e hL n) (ZdJ e hT n);have bo:∀b∈d.Bl::d.L2::d.T2::d.tl::O,b ∉ [d.L1,d.T1]:=fun b hb=>ZaP (hB b hb).1 (hB b hb).2.1;refine⟨⟨dp,k _ _ (no hp fun _ z=>nomatch z) hp⟩,⟨ls,n,Fg.StAt.keep hs k (fun b hb xs e=>no e (fun _ z=>nomatch z) hb) (no hx fun _ z=>nomatch z) (no hk fun _ z=>nomatch z) (bo _ (List.mem_cons_self ..)) fun l hl' z=>?_,hl⟩,e,h.r2.keep k fun b hb=>?_,k _ _ (bo _ (by simp)) h.ht,h.n1,h.n2⟩
 ·have:=hl l hl';simp only[List.mem_cons,List.not_mem_nil,or_false,not_or] at z this;rcases z with z|z
  ·exact this.1 z
  ·exact this.2.1 z
 ·simp only[List.mem_cons,List.not_mem_nil,or_false] at hb;rcases hb with rfl|rfl
  ·exact .inl ⟨by simp,y1,hL'⟩
  ·exact .inl ⟨by simp,y2,hT'⟩
theorem PpAt.stm{bs':Bg}{ls ls':List Addr}{n:Int}(h:PpAt CS CR CP H O d f1 f2 kn p1 bs s)(h0:StAt CS H d.x d.dk d.Bl ls kn bs n)(hl:∀l∈ls,l∉d.L1::d.T1::d.L2::d.T2::d.tl::O)(ho:∀b∈O,∃o,H b=some o)(k:Zv [d.x,d.Bl] H H')(hf:∀l∈ls',l∈ls\/H l=none)(e:StAt CS H' d.x d.dk d.Bl ls' kn bs' (n+1)):PpAt CS CR CP H' O d f1 f2 kn p1 bs' s:=by
 obtain⟨dp,hp⟩:=h.ho;obtain⟨dx,hx⟩:=h0.ho;obtain⟨zb,hb0,_⟩:=h0.hb;obtain⟨zb',hb',_⟩:=e.hb;obtain⟨⟨x1,hL1⟩,⟨x2,hT1⟩,hB1⟩:=h.r1.lists;obtain⟨⟨x3,hL2⟩,⟨x4,hT2⟩,hB2⟩:=h.r2.lists;have hx':H d.x=some (.ins CS dx (("known",.ref d.dk) :: [("taken",.int n),("begun",.ref d.Bl)])):=hx;have rk:∀{ex:List Addr},d.Bl∈ex->∀y ∈ [d.x,d.Bl],Oth ex H H' y:=fun{ex} hm y hy=>by
  simp only[List.mem_cons,List.not_mem_nil,or_false] at hy;rcases hy with rfl|rfl
  ·exact .inr ⟨_,_,_,_,_,hx',by decide⟩
  ·exact .inl ⟨hm,_,hb'⟩
 refine⟨⟨dp,k _ _ (ZaP (Zdc hp hx' (by decide)) (ZdJ hp hb0 fun _ z=>nomatch z)) hp⟩,⟨ls',n+1,e,fun l hl' z=>?_⟩,h.r1.keep k (rk (List.mem_cons_self ..)),h.r2.keep k (rk (List.mem_cons_self ..)),k _ _ (ZaP (fun z=>by have:=h.ht;rw[z,hx] at this;cases this) (fun z=>h.n1 (by rw[z];exact List.mem_cons_self ..))) h.ht,h.n1,h.n2⟩
 rcases hf l hl' with g|g
 ·exact hl l g z
 ·have:∃o,H l=some o:=by
   simp only[List.mem_cons] at z;rcases z with rfl|rfl|rfl|rfl|rfl|z
   ·exact⟨_,hL1⟩
   ·exact⟨_,hT1⟩
   ·exact⟨_,hL2⟩
   ·exact⟨_,hT2⟩
   ·exact⟨_,h.ht⟩
   ·exact ho l z
  obtain⟨o,z⟩:=this;rw[g] at z;cases z
theorem PpAt.out{Y:List Addr}(h:PpAt CS CR CP H O d f1 f2 kn p1 bs s)(k:Zv Y H H')(hy:∀y∈Y,(y∈O/\∃ys,H' y=some (.lst ys))\/(y≠d.x/\y≠d.pp/\∃C dx n v fs,H y=some (.ins C dx ((n,v)::fs))/\n≠("form" : Str))):PpAt CS CR CP H' O d f1 f2 kn p1 bs s:=by
 obtain⟨ls,n,hs,hl⟩:=h.st;obtain⟨dp,hp⟩:=h.ho;obtain⟨dx,hx⟩:=hs.ho;obtain⟨mk,hk,_⟩:=hs.hk;obtain⟨zb,hb0,_⟩:=hs.hb;obtain⟨_,_,hB1⟩:=h.r1.lists;have hO:∀b∈O,∃xs,H b=some (.lst xs):=fun b hb=>(hB1 b (by simp[hb])).2.2;have no:∀{b:Addr}{o:HO},H b=some o->(∀xs,o ≠ .lst xs)->(∀C d fs,o ≠ .ins C d fs)->b∉Y:=fun{b o} e n1 n2 z=>by
  rcases hy b z with⟨z,_⟩|⟨_,_,_,_,_,_,_,z,_⟩
  ·obtain⟨xs,z⟩:=hO b z;rw[e] at z;injection z with z;exact n1 xs z
  ·rw[e] at z;injection z with z;exact n2 _ _ _ z
 have nl:∀{b:Addr}{xs:List V},H b=some (.lst xs)->b∉O->b∉Y:=fun{b xs} e n z=>by
  rcases hy b z with⟨z,_⟩|⟨_,_,_,_,_,_,_,z,_⟩
  ·exact n z
  ·rw[e] at z;cases z
 have ni:∀{b C dx:Addr}{fs:List (Str×V)},H b=some (.ins C dx fs)->(b=d.x\/b=d.pp)->b∉Y:=fun{b C dx fs} e hb z=>by
  rcases hy b z with⟨z,_⟩|⟨z1,z2,_⟩
  ·obtain⟨xs,z⟩:=hO b z;rw[e] at z;cases z
  ·rcases hb with hb|hb
   ·exact z1 hb
   ·exact z2 hb
 have oth:∀{ex:List Addr},(∀b∈O,b∈ex)->∀y∈Y,Oth ex H H' y:=fun{ex} hm y hY=>by
  rcases hy y hY with⟨z1,z2⟩|⟨_,_,z⟩
  ·exact .inl ⟨hm y z1,z2⟩
  ·exact .inr z
 refine⟨⟨dp,k _ _ (ni hp (.inr rfl)) hp⟩,⟨ls,n,Fg.StAt.keep hs k (fun b hb xs e=>no e (fun _ z=>nomatch z) (fun _ _ _ z=>nomatch z) hb) (ni hx (.inl rfl)) (no hk (fun _ z=>nomatch z) fun _ _ _ z=>nomatch z) (nl hb0 fun z=>h.n1 (List.mem_cons_of_mem _ z)) fun l hl'=>?_,hl⟩,h.r1.keep k (oth fun b hb=>by simp[hb]),h.r2.keep k (oth fun b hb=>by simp[hb]),k _ _ (nl h.ht h.n2) h.ht,h.n1,h.n2⟩
 obtain⟨xs,e⟩:=Fg.StAt.live hs l (List.mem_cons_of_mem _ hl');exact nl e fun z=>hl l hl' (by simp[z])
end
def Ini(f:FQ)(p:RS):Prop := ∃hs,ZiI hs/\(∀x,x∈hs↔x∈f.hs/\LvQ f x)/\p=([hs.map dup],[])
theorem Zhv{f:FQ}{p p':RS}(h:Ini f p)(h':Ini f p'):p=p':=by
 obtain⟨a,a1,a2,rfl⟩:=h;obtain⟨b,b1,b2,rfl⟩:=h';rw[ZgR a1 b1 fun x=>(a2 x).trans (b2 x).symm]
theorem ZiQ{K:PySem.W.Frag}{CR:Addr}{H:Hp}{y dy p:Addr}{f:FQ}{Q:VK}{E:XK}(hy:H y=none)(hdy:H dy=none)(hF:FmQ H p f)(ok:OkR f)
  (q:∀(H':Hp)(L T:Addr)(p':RS),Zk H H'->H L=none->H T=none->Ini f p'->(∀ex,(∀x∈ex,∃xs,H x=some (.lst xs))->RdE CR H' y L T ex f p')->Q .non H'):Zcn K CR [.ref y,.ref p] (upd (upd H dy (.own y)) y (.ins CR dy [])) Q E:=by
 have s1:Zk H (upd (upd H dy (.own y)) y (.ins CR dy [])):=(Zk.new hdy).upd_new hy;refine⟨y,p,dy,f,rfl,Zb,hF.same s1,ok,fun H' L T R hs kp hL hT r1 r2 h=>q H' L T _ (made hy hdy kp) (Zbo hL) (Zbo hT) ⟨hs,r1,r2,rfl⟩ fun ex hex=>⟨R,h ex fun x hx=>?_⟩⟩;obtain⟨xs,e⟩:=hex x hx;exact⟨xs,s1 _ _ e⟩
theorem ZkY{CS:Addr}{H:Hp}{y dy c:Addr}{rs:List (Int×Str×Pa)}{Q:VK}{E:XK}(hy:H y=none)(hdy:H dy=none)(hC:ChR H c rs)(hr:∀r∈rs,r.2.2.nk<=1/\∀x∈r.2.2.tags,PyData.strOk x=true)
  (q:∀(H':Hp)(dk Bl:Addr),Zk H H'->H dk=none->H Bl=none->StAt CS H' y dk Bl [] (ZeC rs) [] 0->Q .non H'):Zch CS [.ref y,.ref c] (upd (upd H dy (.own y)) y (.ins CS dy [])) Q E:=by
 have s1:Zk H (upd (upd H dy (.own y)) y (.ins CS dy [])):=(Zk.new hdy).upd_new hy;exact⟨y,c,dy,rs,rfl,Zb,hC.tk s1.tk,hr,fun H' dk Bl k h1 h2 h3=>q H' dk Bl (made hy hdy fun b o hb e=>k b o (fun z=>hb (List.mem_singleton.mp z)) e) (Zbo h1) (Zbo h2) h3⟩
def ZjY(CS CR CP:Addr):Sp:=fun vs H Q _=>∃(a c p1 p2 dx:Addr)(rs:List (Int×Str×Pa))(f1 f2:FQ),vs=[.ref a,.ref c,.ref p1,.ref p2]/\H a=some (.ins CP dx [])/\ChR H c rs/\(∀r∈rs,r.2.2.nk<=1/\∀x∈r.2.2.tags,PyData.strOk x=true)/\FmQ H p1 f1/\OkR f1/\FmQ H p2 f2/\OkR f2 /\
 ∀(H':Hp)(d:Pad)(q1 q2:RS),Zv [a] H H'->d.pp=a->(∀b ∈ [d.x,d.Bl,d.L1,d.T1,d.L2,d.T2,d.tl],H b=none)->Ini f1 q1->Ini f2 q2->PpAt CS CR CP H' [] d f1 f2 (ZeC rs) q1 [] (q2,none,[])->Q .non H'
theorem Zjz{H H':Hp}{p:Addr}{f:FQ}(h:FmQ H p f)(k:TK H H'):FmQ H' p f:=by
 obtain⟨h1,h2,h3,zs,a,b,c,d,e⟩:=h;exact⟨h1,h2,h3,zs,k _ _ a,k _ _ b,k _ _ c,k _ _ d,e.keep k⟩
set_option maxHeartbeats 2000000 in
theorem ZcU{CS CR C:Addr}(B:∀x∈ZbJ,mg x=none)(c_Stream:StC K CS)(c_Reader:RdC K CR)(c_Pipe:PpC K C)(g_Stream:HasC P w K mg base CS "Stream" ["self","changer"] 25 (Zch CS)) (g_Reader:HasC P w K mg base CR "Reader" ["self","form"] 2 (Zcn K CR)) (F:Fun K "__init__" "Pipe.__init__" ZD f fd):FnOk P w K mg base CX0 27 f fd ["self","changer","before","behind"] (ZjY CS CR C):=by
 refine F.ok ZcW (fun vs H Q E h=>?_) (fun cdv A outer s H vs Q E hr h=>?_)
 ·obtain⟨a,c,p1,p2,dx,rs,f1,f2,rfl,_⟩:=h;rfl
 obtain⟨a,c,p1,p2,dx,rs,f1,f2,rfl,hA,hC,hrs,hF1,ok1,hF2,ok2,q⟩:=h;refine Zq ((Ze ZD).drop 4) (Zj (Zbr (pv 0) ZbR rfl)) (fun u4 h4 e4=>?_);refine Zq ((Ze ZD).drop 3) (Zc (Zbr (pv 0) (ZaH Zf) rfl) h4) (fun u3 h3 e3=>?_);refine Zq ((Ze ZD).drop 2) (Zc (Zbr (pv 0) (Zcd g_Reader hr rfl (Za (pv 3) Zf)) rfl) h3) (fun u2 h2 e2=>?_);refine Zq ((Ze ZD).drop 1) (Zc (Zbr (pv 0) (Zcd g_Reader hr rfl (Za (pv 2) Zf)) rfl) h2) (fun u1 h1 e1=>?_);refine Zq ((Ze ZD).drop 0) (Zc (Zbr (pv 0) (Zcd g_Stream hr rfl (Za (pv 1) Zf)) rfl) h1) (fun u0 h0 e0=>?_);refine⟨u0,h0,?_⟩;refine Zo e0 ?_;have na:∀b xs,H b=some (.tup xs)->b≠a:=fun b xs e z=>by rw[z,hA] at e;cases e
 have kA:∀{H2:Hp}{o:HO},Zv [a] H H2->Zv [a] H (upd H2 a o):=fun{H2 o} k b u hb e=>by
  rw[Zd (fun z=>hb (List.mem_singleton.mpr z))];exact k b u hb e
 have kS:∀{H2 H3:Hp},Zv [a] H H2->Zk H2 H3->Zv [a] H H3:=fun{H2 H3} k s b u hb e=>s _ _ (k b u hb e);have kU:∀{H2:Hp}{o:HO},Zv [a] H2 (upd H2 a o):=fun{H2 o} b u hb e=>by
  rw[Zd (fun z=>hb (List.mem_singleton.mpr z))];exact e
 have kT:∀{H2:Hp},Zv [a] H H2->TK H H2:=fun{H2} k b xs e=>k b _ (fun z=>na b xs e (List.mem_singleton.mp z)) e;have fr:∀{H2:Hp}{b:Addr},Zv [a] H H2->H2 a≠none->H2 b=none->H b=none:=fun{H2 b} k hn e=>by
  cases z:H b with
  | none=>rfl
  | some o =>
   by_cases hb:b=a
   ·rw[hb] at e;exact absurd e hn
   ·rw[k b o (fun z=>hb (List.mem_singleton.mp z)) z] at e;cases e
 refine⟨_,rfl,fun x dx1 hx hdx _=>ZkY hx hdx hC hrs fun H2 dk Bl s2 hdk hBl hst=>⟨rfl,?_⟩⟩;have xa:x≠a:=fun z=>by rw[z,hA] at hx;cases hx
 have da:dk≠a:=fun z=>by rw[z,hA] at hdk;cases hdk
 have ba:Bl≠a:=fun z=>by rw[z,hA] at hBl;cases hBl
 obtain⟨zb,hzb,_⟩:=hst.hb;refine⟨_,rfl,a,C,dx,_,rfl,s2 _ _ hA,c_Pipe.cls,c_Pipe.n1,by decide,?_⟩;have stK:∀{H1 H2:Hp}{o:HO},H1 a=some o->(∀xs,o ≠ .tup xs)->Zv [a] H1 H2->StAt CS H1 x dk Bl [] (ZeC rs) [] 0->StAt CS H2 x dk Bl [] (ZeC rs) [] 0:=fun{H1 H2 o} e n k h=>Fg.StAt.keep h k (fun b hb xs z=>by
  rw[List.mem_singleton.mp hb,e] at z;injection z with z;exact n xs z) (fun z=>xa (List.mem_singleton.mp z)) (fun z=>da (List.mem_singleton.mp z)) (fun z=>ba (List.mem_singleton.mp z)) fun _ z=>nomatch z
 have k3:Zv [a] H (upd H2 a (.ins C dx (Zas "stream" (.ref x) []))):=kA (kS (fun _ _ _ e=>e) s2);have hs3:=stK (s2 _ _ hA) (fun _ z=>nomatch z) (kU (o:=.ins C dx (Zas "stream" (.ref x) []))) hst
 have hA3:(upd H2 a (.ins C dx (Zas "stream" (.ref x) []))) a=some (.ins C dx [("stream",.ref x)]):=Zb;generalize upd H2 a (.ins C dx (Zas "stream" (.ref x) []))=H3 at k3 hA3 hs3 ⊢;show u1 _ _ _;refine Zo e1 ?_;refine⟨_,rfl,fun y dy hy hdy _=>ZiQ hy hdy (Zjz hF1 (kT k3)) ok1 fun H5 L1 T1 q1 s5 hL1 hT1 hi1 hr1=>⟨rfl,?_⟩⟩;have hB3:∃xs,H3 Bl=some (.lst xs):=by
  obtain⟨zs,h,_⟩:=hs3.hb;exact⟨zs,h⟩
 have hr1:=hr1 [Bl] fun z hz=>by rw[List.mem_singleton.mp hz];exact hB3
 have k5:=kS k3 s5;refine⟨_,rfl,a,C,dx,_,rfl,s5 _ _ hA3,c_Pipe.cls,c_Pipe.n2,(show 1<1000 by decide),?_⟩;have k6:Zv [a] H (upd H5 a (.ins C dx (Zas "first" (.ref y) [("stream",.ref x)]))):=kA k5
 have hs6:=stK (s5 _ _ hA3) (fun _ z=>nomatch z) (kU (o:=.ins C dx (Zas "first" (.ref y) [("stream",.ref x)]))) (Fg.StAt.same hs3 s5)
 have hr6:=hr1.keep (kU (o:=.ins C dx (Zas "first" (.ref y) [("stream",.ref x)]))) fun z hz=>by rw[List.mem_singleton.mp hz];exact .inr ⟨_,_,_,_,_,s5 _ _ hA3,by decide⟩
 have hA6:(upd H5 a (.ins C dx (Zas "first" (.ref y) [("stream",.ref x)]))) a=some (.ins C dx [("stream",.ref x),("first",.ref y)]):=Zb
 generalize upd H5 a (.ins C dx (Zas "first" (.ref y) [("stream",.ref x)]))=H6 at k6 hA6 hs6 hr6 ⊢
 show u2 _ _ _;refine Zo e2 ?_;refine⟨_,rfl,fun z dz hz hdz _=>ZiQ hz hdz (Zjz hF2 (kT k6)) ok2 fun H8 L2 T2 q2 s8 hL2 hT2 hi2 hr2=>⟨rfl,?_⟩⟩;have hr2:=hr2 [Bl,L1,T1] fun z hz=>by
  obtain⟨l1,l2,l3⟩:=hr6.lists;simp only[List.mem_cons,List.not_mem_nil,or_false] at hz;rcases hz with rfl|rfl|rfl
  ·exact(l3 _ (List.mem_singleton.mpr rfl)).2.2
  ·exact l1
  ·exact l2
 have k8:=kS k6 s8;refine⟨_,rfl,a,C,dx,_,rfl,s8 _ _ hA6,c_Pipe.cls,c_Pipe.n3,(show 2<1000 by decide),?_⟩;obtain⟨l1,l2,_⟩:=hr2.lists;have hr8:RdE CR H8 y L1 T1 [Bl,L2,T2] f1 q1:=hr6.wide s8 fun b hb=>by
  simp only[List.mem_cons,List.not_mem_nil,or_false] at hb;rcases hb with rfl|rfl|rfl
  ·exact .inl (List.mem_singleton.mpr rfl)
  ·exact .inr ⟨hL2,l1⟩
  ·exact .inr ⟨hT2,l2⟩
 have oa:∀{ex:List Addr}{H':Hp},∀y ∈ [a],Oth ex H8 H' y:=fun{ex H'} y hy=>by rw[List.mem_singleton.mp hy];exact .inr ⟨_,_,_,_,_,s8 _ _ hA6,by decide⟩
 have k9:Zv [a] H (upd H8 a (.ins C dx (Zas "second" (.ref z) [("stream",.ref x),("first",.ref y)]))):=kA k8
 have hs9:=stK (s8 _ _ hA6) (fun _ z=>nomatch z) (kU (o:=.ins C dx (Zas "second" (.ref z) [("stream",.ref x),("first",.ref y)]))) (Fg.StAt.same hs6 s8)
 have hr9:=hr8.keep (kU (o:=.ins C dx (Zas "second" (.ref z) [("stream",.ref x),("first",.ref y)]))) oa
 have hr9':=hr2.keep (kU (o:=.ins C dx (Zas "second" (.ref z) [("stream",.ref x),("first",.ref y)]))) oa
 have hA9:(upd H8 a (.ins C dx (Zas "second" (.ref z) [("stream",.ref x),("first",.ref y)]))) a=some (.ins C dx [("stream",.ref x),("first",.ref y),("second",.ref z)]):=Zb
 generalize upd H8 a (.ins C dx (Zas "second" (.ref z) [("stream",.ref x),("first",.ref y)]))=H9 at k9 hA9 hs9 hr9 hr9' ⊢
 show u3 _ _ _;refine Zo e3 ?_;refine⟨by decide,fun tl htl=>?_⟩;have st:Zk H9 (upd H9 tl (.lst [])):=Zk.new htl;have ta:tl≠a:=fun z=>by rw[z,hA9] at htl;cases htl
 have hrt:=hr9.wide (ex':=[Bl,L2,T2,tl]) st fun b hb=>by
  simp only[List.mem_cons,List.not_mem_nil,or_false] at hb;rcases hb with rfl|rfl|rfl|rfl
  ·exact .inl (by simp)
  ·exact .inl (by simp)
  ·exact .inl (by simp)
  ·exact .inr ⟨htl,_,Zb⟩
 have hrt':=hr9'.wide (ex':=[Bl,L1,T1,tl]) st fun b hb=>by
  simp only[List.mem_cons,List.not_mem_nil,or_false] at hb;rcases hb with rfl|rfl|rfl|rfl
  ·exact .inl (by simp)
  ·exact .inl (by simp)
  ·exact .inl (by simp)
  ·exact .inr ⟨htl,_,Zb⟩
 have hst':=Fg.StAt.same hs9 st;have kt:=kS k9 st;have hAt:=st _ _ hA9;have htt:(upd H9 tl (.lst [])) tl=some (.lst []):=Zb;generalize upd H9 tl (.lst [])=H10 at hrt hrt' hst' kt hAt htt ⊢;refine⟨_,rfl,a,C,dx,_,rfl,hAt,c_Pipe.cls,c_Pipe.n4,(show 3<1000 by decide),?_⟩;show u4 _ _ _;refine Zo e4 ?_;refine⟨_,rfl,a,C,dx,[("stream",.ref x),("first",.ref y),("second",.ref z),("told",.ref tl)],rfl,Zb,c_Pipe.cls,c_Pipe.n5,(show 4<1000 by decide),?_⟩
 rw[Zh5];have oa:∀{ex:List Addr}{H':Hp},∀y ∈ [a],Oth ex H10 H' y:=fun{ex H'} y hy=>by rw[List.mem_singleton.mp hy];exact .inr ⟨_,_,_,_,_,hAt,by decide⟩
 have hBt:Bl≠tl:=fun z=>by
  obtain⟨zs,h,_⟩:=hs9.hb;rw[z,htl] at h;cases h
 refine q _ ⟨a,x,dk,Bl,y,L1,T1,z,L2,T2,tl⟩ q1 q2 (kA kt) rfl (fun b hb=>?_) hi1 hi2 ⟨⟨dx,Zb⟩,⟨[],0,stK hAt (fun _ z=>nomatch z) kU hst',fun _ h=>nomatch h⟩,hrt.keep kU oa,hrt'.keep kU oa,?_,fun z=>hBt (List.mem_singleton.mp z),fun z=>nomatch z⟩
 ·simp only[List.mem_cons,List.not_mem_nil,or_false] at hb;rcases hb with rfl|rfl|rfl|rfl|rfl|rfl|rfl
  ·exact hx
  ·exact hBl
  ·exact fr k3 (by rw[hA3];exact fun z=>nomatch z) hL1
  ·exact fr k3 (by rw[hA3];exact fun z=>nomatch z) hT1
  ·exact fr k6 (by rw[hA6];exact fun z=>nomatch z) hL2
  ·exact fr k6 (by rw[hA6];exact fun z=>nomatch z) hT2
  ·exact fr k9 (by rw[hA9];exact fun z=>nomatch z) htl
 ·rw[Zd ta];exact htt
theorem PpAt.outL{CS CR CP:Addr}{H:Hp}{O:List Addr}{d:Pad}{f1 f2:FQ}{kn:Kn}{p1:RS}{bs:Bg}{s:HS}(h:PpAt CS CR CP H O d f1 f2 kn p1 bs s):∀b∈d.L1::d.T1::d.L2::d.T2::d.tl::O,∃xs,H b=some (.lst xs):=fun b hb=>by
 obtain⟨a1,a2,a3⟩:=h.r1.lists;obtain⟨b1,b2,_⟩:=h.r2.lists;simp only[List.mem_cons] at hb;rcases hb with rfl|rfl|rfl|rfl|rfl|hb
 ·exact a1
 ·exact a2
 ·exact b1
 ·exact b2
 ·exact⟨_,h.ht⟩
 ·exact(a3 b (by simp[hb])).2.2
def ZkF(CS CR CP:Addr):Sp:=fun vs H Q _=>∃(O:List Addr)(d:Pad)(f1 f2:FQ)(kn:Kn)(p1:RS)(bs:Bg)(s:HS)(w:Str),vs=[.ref d.pp,.str w]/\PpAt CS CR CP H O d f1 f2 kn p1 bs s/\FT f1/\p1.2.length=bs.length/\bs.length<=800/\s.2.2.length+(Zbg kn bs w).1.length<=800/\s.1.2.length<=s.2.2.length /\
 (tkF f1 p1 w=none->∀H',Zk H H'->Q (.bl false) H')/\∀p',tkF f1 p1 w=some p'->∀H',Zv d.W H H'->PpAt CS CR CP H' O d f1 f2 kn p' (Zbg kn bs w).2 (hdL f2 s (Zbg kn bs w).1)->Q (.bl true) H'
set_option maxHeartbeats 4000000 in
theorem ZeP{CS CR C:Addr}(B:∀x∈ZbJ,mg x=none)(c_Stream:StC K CS)(c_Reader:RdC K CR)(c_Pipe:PpC K C)(g_Reader_take:HasM P w K mg base CR "take" ["self","word"] 3 (Zdz CR)) (g_Stream_take:HasM P w K mg base CS "take" ["self","word"] 25 (Zeq CS)) (F:Fun K "take" "Pipe.take" Zah f fd):FnOk P w K mg base CX0 26 f fd ["self","word"] (ZkF CS CR C):=by
 refine F.ok ZcR (fun vs H Q E h=>?_) (fun cdv A outer s H vs Q E hr h=>?_)
 ·obtain⟨O,d,f1,f2,kn,p1,bs,s,w,rfl,_⟩:=h;rfl
 obtain⟨O,d,f1,f2,kn,p1,bs,hs,w,rfl,hP,hft,hpb,hb8,hw8,hd8,q1,q2⟩:=h;refine Zq ((Ze Zah).drop 2) (Zj (ZC Zba)) (fun u2 h2 e2=>?_);refine Zq ((Zab ((Ze Zah).getD 1 (.Pass ⟨0,0,0,0⟩))).drop 1) (Zj (Zau (Zbp PySem.F.plainAttrs_list PySem.F.slot_list_append PySem.F.type_list_append ZR (Zaf (pv 0) rfl) (Za (pv 2) Zf)))) (fun u1_1 h1_1 e1_1=>?_);refine Zq ((Zab ((Ze Zah).getD 1 (.Pass ⟨0,0,0,0⟩))).drop 0) (Zc (ZaL (PW.pt (Zb5 (ZQ ZdH (Zaf (pv 0) rfl) ZbR (Z2 _)) (ZbA (Zbb (Z7 (Zbm g_Reader_take hr (Zaf (pv 0) rfl) c_Reader.cls (Za (pv 2) Zf)) (fun _=>rfl))))))
   (Zj (Zbr (pv 0) (ZF Z3 rfl (B "len" (by decide)) PySem.boot_len (Za (Zaf (pv 0) rfl) Zf)) rfl))
   ZM) h1_1) (fun u1_0 h1_0 e1_0=>?_)
 refine Zq ((Ze Zah).drop 1) (Zc (Zbc PassesOwn.never rfl (Zbt (Zbm g_Stream_take hr (Zaf (pv 0) rfl) c_Stream.cls (Za (pv 1) Zf))) (Zu (i:=2) ZcR.nd rfl (Or.inl rfl))
   h1_0) h2) (fun u1 h1 e1=>?_)
 refine Zq ((Ze Zah).drop 0) (Zc (ZaL (Zbb (Z7 (Zbm g_Reader_take hr (Zaf (pv 0) rfl) c_Reader.cls (Za (pv 1) Zf)) (fun _=>rfl)))
   (Zj (ZC Zba))
   ZM) h1) (fun u0 h0 e0=>?_)
 refine⟨u0,h0,?_⟩;refine Zo e0 ?_;obtain⟨dp,hp⟩:=hP.ho;obtain⟨dy,_,_,_,hy⟩:=hP.r1.obj;obtain⟨R1,lv1,l1,hR1,tn1,ts1,_⟩:=hP.r1.opn;refine⟨_,rfl,d.pp,C,dp,_,_,rfl,hp,c_Pipe.cls,c_Pipe.n2,rfl,d.y,dy,_,rfl,hy,rfl,_,rfl,d.y,d.L1,d.T1,_,f1,R1,lv1,l1,p1.2,w,rfl,hR1,by lia,(fun H1 s1 hn=>⟨false,rfl,Zci (q1 (tn1 w hn) H1 s1)⟩),fun H1 lv' tg' k1 hr1 hs1=>⟨true,rfl,Zbu ?_⟩⟩;have ht:=ts1 w lv' tg' hs1
 replace hr1:RdE CR H1 d.y d.L1 d.T1 _ f1 (lv',tg'):=⟨R1,hr1⟩
 generalize ((lv',tg'):RS)=p' at ht hr1;have hP1:=hP.fst k1 hr1;obtain⟨hgood,hlen⟩:=Zej hft ht;have hgood':(w=SL/\bs ≠ [])\/(ZdQ w/\w.length<=8):=hgood.imp (fun⟨a,b⟩=>⟨a,fun z=>b (List.eq_nil_of_length_eq_zero (by rw[hpb,z];rfl))⟩) id;show u1 _ _ _;refine Zo e1 ?_;obtain⟨dp1,hp1⟩:=hP1.ho;obtain⟨ls,n,hst,hls⟩:=hP1.st;obtain⟨dx,hx⟩:=hst.ho;have hO1:=hP1.outL;refine⟨_,rfl,d.pp,C,dp1,_,_,rfl,hp1,c_Pipe.cls,c_Pipe.n1,rfl,d.x,dx,_,rfl,hx,rfl,_,rfl,d.x,d.dk,d.Bl,ls,kn,bs,n,w,rfl,hst,by lia,hgood',fun r ls' H2 k2 hrf hlf hrn er hst2=>?_⟩;have hP2:=hP1.stm hst hls (fun b hb=>let ⟨xs,e⟩:=hO1 b (by simp[hb]);⟨_,e⟩) k2 hlf hst2;have rn:∀b∈d.L1::d.T1::d.L2::d.T2::d.tl::O,r≠b:=fun b hb z=>by
  rcases hrf with g|g
  ·obtain⟨xs,e⟩:=hO1 b hb;rw[<- z,g] at e;cases e
  ·exact hls r g (by rw[z];exact hb)
 have kW1:Zv d.W H H1:=k1.less fun b hb=>by
  simp only[List.mem_cons,List.not_mem_nil,or_false] at hb;rcases hb with rfl|rfl <;> simp[Pad.W]
 have kW2:Zv d.W H H2:=kW1.trans (k2.less fun b hb=>by
  simp only[List.mem_cons,List.not_mem_nil,or_false] at hb;rcases hb with rfl|rfl <;> simp[Pad.W])
 generalize hws:(Zbg kn bs w).1=ws at er hw8 ⊢;refine⟨r,rfl,⟨_,SqL.of er⟩,ZbU (K:=K) (a:=r) (xs:=ws.map V.str) (fun i σ H3=>∃v2:Option V,σ =[some (.ref d.pp),some (.str w),v2]/\Zv d.W H H3/\H3 r=some (.lst (ws.map V.str))/\PpAt CS CR C H3 O d f1 f2 kn p' (Zbg kn bs w).2 (hdL f2 hs (ws.take i)))
  ⟨none,rfl,kW2,er,hP2⟩ ?_ ?_ ?_⟩
 ·rintro i σ H3 _ ⟨v2,_,_,h,_⟩;exact SqL.of h
 ·rintro i x σ H3 hxi ⟨v2,rfl,k3,er3,hP3⟩;rw[List.getElem?_map] at hxi;obtain⟨wd,hwd,rfl⟩:=Option.map_eq_some_iff.mp hxi;have hil:=(List.getElem?_eq_some_iff.mp hwd).1;have hsn:hdL f2 hs (ws.take (i+1))=hdS f2 (hdL f2 hs (ws.take i)) wd:=by rw[Zz hwd,ZgA]
  obtain⟨hc1,hc2⟩:=Zc9 f2 (ws.take i) hs;rw[List.length_take] at hc2;generalize hdL f2 hs (ws.take i)=s3 at hP3 hsn hc1 hc2;have hl3:s3.2.2.length<=800:=by
   rw[hc1,List.length_append,List.length_take];lia
  obtain⟨dp3,hp3⟩:=hP3.ho;have hr2:=hP3.r2;have hrp:r≠d.pp:=fun z=>by rw[z,hp3] at er3;cases er3
  have fin:∀(D:Ends),(∀ σ H5,(∃v2:Option V,σ =[some (.ref d.pp),some (.str w),v2]/\Zv d.W H H5/\H5 r=some (.lst (ws.map V.str))/\PpAt CS CR C H5 O d f1 f2 kn p' (Zbg kn bs w).2 (hdL f2 hs (ws.take (i+1))))->D.nx σ H5)->∀(H4:Hp)(s4:RS×Option Nat),Zv d.W H H4->H4 r=some (.lst (ws.map V.str))->PpAt CS CR C H4 O d f1 f2 kn p' (Zbg kn bs w).2 (s4.1,s4.2,s3.2.2)->hdS f2 s3 wd=(s4.1,s4.2,s3.2.2 ++ [wd])->u1_1 D [some (.ref d.pp),some (.str w),some (.str wd)] H4:=fun D hD H4 s4 k4 er4 hP4 hs4=>by
   obtain⟨dp4,hp4⟩:=hP4.ho;refine Zo e1_1 ?_;refine⟨_,rfl,d.pp,C,dp4,_,_,rfl,hp4,c_Pipe.cls,c_Pipe.n4,rfl,.inl ⟨rfl,_,SqL.of hP4.ht⟩,_,rfl,d.tl,_,_,rfl,rfl,hP4.ht,Zn (by rw[List.length_map];show s3.2.2.length<=_;lia),?_⟩;have kt:Zv [d.L2,d.T2,d.pp,d.tl] H4 (upd H4 d.tl (.lst (s3.2.2.map V.str ++ [.str wd]))):=Zv.upd (fun _ _ _ e=>e) (by simp);refine hD _ _ ⟨_,rfl,k4.trans (kt.less fun b hb=>by
    simp only[List.mem_cons,List.not_mem_nil,or_false] at hb;rcases hb with rfl|rfl|rfl|rfl <;> simp[Pad.W]),?_,?_⟩
   ·rw[Zd (rn d.tl (by simp))];exact er4
   ·rw[hsn,hs4];refine hP4.on kt ⟨dp4,by rw[Zd (fun z=>by have:=hP4.ht;rw[<- z,hp4] at this;cases this)];exact hp4⟩ (hP4.r2.keep (Y:=[d.tl]) (Zv.upd (fun _ _ _ e=>e) (by simp)) fun y hy'=>?_) (by rw[Zb,List.map_append];rfl);rw[List.mem_singleton.mp hy'];exact .inl ⟨by simp,_,Zb⟩
  refine Zo e1_0 ?_;refine⟨_,rfl,d.pp,C,dp3,_,_,rfl,hp3,c_Pipe.cls,c_Pipe.n5,rfl,rfl,_,rfl,?_⟩;cases hb:s3.2.1 with
  | some m =>
   refine ZbX (fun c=>by have:=of_decide_eq_true c;cases this) fun _=>Zbu ?_;refine fin _ (fun _ _ h=>h) H3 (s3.1,some m) k3 er3 (by rw[<- hb];exact hP3) ?_;unfold hdS;rw[hb]
  | none =>
   refine ZbX (fun _=>?_) fun c=>absurd (decide_eq_true rfl) c;obtain⟨dz,_,_,_,hz⟩:=hr2.obj;obtain⟨R2,lv2,l2,hR2,tn2,ts2,_⟩:=hr2.opn;refine⟨_,rfl,d.pp,C,dp3,_,_,rfl,hp3,c_Pipe.cls,c_Pipe.n3,rfl,d.z,dz,_,rfl,hz,rfl,_,rfl,d.z,d.L2,d.T2,_,f2,R2,lv2,l2,s3.1.2,wd,rfl,hR2,by lia,(fun H4 s4 hn=>⟨false,rfl,Zci ?_⟩),fun H4 lv' tg' k4 hr4 hs4=>⟨true,rfl,Zbu ?_⟩⟩
   ·-- it breaks here
    replace hn:=tn2 wd hn
    have hp4:=s4 _ _ hp3;have ht4:=s4 _ _ hP3.ht;refine⟨_,rfl,d.pp,C,dp3,_,_,rfl,hp4,c_Pipe.cls,c_Pipe.n4,rfl,d.tl,_,rfl,.inl (SqL.of ht4),_,rfl,d.pp,C,dp3,_,rfl,hp4,c_Pipe.cls,c_Pipe.n5,(show 5<1000 by decide),?_⟩;show u1_1 _ _ _;have kp:Zv [d.L2,d.T2,d.pp,d.tl] H4 (upd H4 d.pp (.ins C dp3 (Zas "broken_at" (.int ((s3.2.2.map V.str).length:Nat)) (ppF d.x d.y d.z d.tl (brV s3.2.1))))):=Zv.upd (fun _ _ _ e=>e) (by simp);refine fin _ (fun _ _ h=>h) _ (s3.1,some s3.2.2.length) ((k3.trans (Zk.keepX s4)).trans (kp.less fun b hb=>by
     simp only[List.mem_cons,List.not_mem_nil,or_false] at hb;rcases hb with rfl|rfl|rfl|rfl <;> simp[Pad.W])) (by rw[Zd hrp];exact s4 _ _ er3) ?_ (by unfold hdS;rw[hb,hn])
    have hPs:=hP3.out (Y:=[]) (Zk.keepX s4) (fun _ h=>nomatch h)
    refine hPs.on kp ⟨dp3,?_⟩ (hPs.r2.keep (Y:=[d.pp]) (Zv.upd (fun _ _ _ e=>e) (by simp)) fun y hy'=>?_) (by rw[Zd (fun z=>by rw[z,hp4] at ht4;cases ht4)];exact ht4)
    ·rw[Zb,List.length_map];rfl
    ·rw[List.mem_singleton.mp hy'];exact .inr ⟨_,_,_,_,_,hp4,by decide⟩
   ·-- it is taken
    have ht4:=ts2 wd lv' tg' hs4
    replace hr4:RdE CR H4 d.z d.L2 d.T2 _ f2 (lv',tg'):=⟨R2,hr4⟩
    generalize ((lv',tg'):RS)=p4 at ht4 hr4;show u1_1 _ _ _;have k4':Zv [d.L2,d.T2,d.pp,d.tl] H3 H4:=k4.less fun b hb=>by
     simp only[List.mem_cons,List.not_mem_nil,or_false] at hb;rcases hb with rfl|rfl <;> simp
    have np:d.pp ∉ [d.L2,d.T2]:=by
     obtain⟨⟨x1,a1⟩,⟨x2,a2⟩,_⟩:=hr2.lists;exact ZaP (ZdJ hp3 a1 fun _ z=>nomatch z) (ZdJ hp3 a2 fun _ z=>nomatch z)
    have nt:=(hr2.lists.2.2 d.tl (by simp));refine fin _ (fun _ _ h=>h) H4 (p4,none) (k3.trans (k4.less fun b hb=>by
     simp only[List.mem_cons,List.not_mem_nil,or_false] at hb;rcases hb with rfl|rfl <;> simp[Pad.W])) (k4 _ _ (ZaP (rn d.L2 (by simp)) (rn d.T2 (by simp))) er3) ?_ (by unfold hdS;rw[hb,ht4])
    exact hP3.on k4' ⟨dp3,by rw[<- hb];exact k4 _ _ np hp3⟩ hr4 (k4 _ _ (ZaP nt.1 nt.2.1) hP3.ht)
 ·rintro σ H3 ⟨v2,rfl,k3,_,hP3⟩;rw[List.length_map,List.take_length] at hP3;show u2 _ _ _;refine Zo e2 ?_;exact q2 p' ht H3 k3 (by rw[hws];exact hP3)
def Zki(C:Addr):Sp:=fun vs H Q _=>∃(a dx tl:Addr)(x y z:Addr)(b:V)(ws:List Str),vs=[.ref a]/\H a=some (.ins C dx (ppF x y z tl b))/\H tl=some (.lst (ws.map V.str))/\∀(r:Addr),H r=none->Q (.ref r) (upd H r (.lst (ws.map V.str)))
theorem ZeX{C:Addr}(B:∀x∈ZbJ,mg x=none)(c_Pipe:PpC K C)(F:Fun K "came" "Pipe.came" Za2 f fd):FnOk P w K mg base CX0 1 f fd ["self"] (Zki C):=by
 refine F.ok Ze5 (fun vs H Q E h=>?_) (fun cdv A outer s H vs Q E hr h=>?_)
 ·obtain⟨a,dx,tl,x,y,z,b,ws,rfl,_⟩:=h;rfl
 obtain⟨a,dx,tl,x,y,z,b,ws,rfl,hA,hT,q⟩:=h;refine⟨_,(Zj (ZC (Zay ZcN rfl (B "list" (by decide)) Zf4 (Za (Zaf (pv 0) rfl) Zf)))),?_⟩;exact⟨_,rfl,a,C,dx,_,_,rfl,hA,c_Pipe.cls,c_Pipe.n4,rfl,tl,_,rfl,.inl (SqL.of hT),q⟩
def Zkj(C:Addr):Sp:=fun vs H Q _=>∃(a dx tl:Addr)(x y z:Addr)(b:V),vs=[.ref a]/\H a=some (.ins C dx (ppF x y z tl b))/\Q b H
theorem ZdX{C:Addr}(B:∀x∈ZbJ,mg x=none)(c_Pipe:PpC K C)(F:Fun K "broken" "Pipe.broken" ZaK f fd):FnOk P w K mg base CX0 1 f fd ["self"] (Zkj C):=by
 refine F.ok ZdM (fun vs H Q E h=>?_) (fun cdv A outer s H vs Q E hr h=>?_)
 ·obtain⟨a,dx,tl,x,y,z,b,rfl,_⟩:=h;rfl
 obtain⟨a,dx,tl,x,y,z,b,rfl,hA,q⟩:=h;refine⟨_,(Zj (ZC (Zaf (pv 0) rfl))),?_⟩;exact⟨_,rfl,a,C,dx,_,_,rfl,hA,c_Pipe.cls,c_Pipe.n5,rfl,q⟩
def WlS(f1 f2:FQ)(p1:RS)(s:HS)(b1 b2:Bool):Prop:=(b1=true↔WlF f1 p1)/\(b2=true↔s.2.1=none/\WlF f2 s.1)
theorem WlS.one{f1 f2:FQ}{p1:RS}{s:HS}{b1 b2 c1 c2:Bool}(h:WlS f1 f2 p1 s b1 b2)(h':WlS f1 f2 p1 s c1 c2):b1=c1/\b2=c2:=⟨Bool.eq_iff_iff.mpr (h.1.trans h'.1.symm),Bool.eq_iff_iff.mpr (h.2.trans h'.2.symm)⟩
def ZjW(CR C:Addr):Sp:=fun vs H Q _=>∃(a dx:Addr)(x y z tl L1 T1 L2 T2:Addr)(e1 e2:List Addr)(f1 f2:FQ)(p1:RS)(s:HS),vs=[.ref a]/\H a=some (.ins C dx (ppF x y z tl (brV s.2.1)))/\RdE CR H y L1 T1 e1 f1 p1/\RdE CR H z L2 T2 e2 f2 s.1/\∀(r:Addr)(b1 b2:Bool)(H':Hp),Zk H H'->H r=none->H' r=some (.tup [.bl b1,.bl b2])->WlS f1 f2 p1 s b1 b2->Q (.ref r) H'
theorem ZcB{CR C:Addr}(B:∀x∈ZbJ,mg x=none)(c_Reader:RdC K CR)(c_Pipe:PpC K C)(g_Reader_ends_well:HasM P w K mg base CR "ends_well" ["self"] 2 (Zeh CR)) (F:Fun K "ends_well" "Pipe.ends_well" Zan f fd):FnOk P w K mg base CX0 3 f fd ["self"] (ZjW CR C):=by
 refine F.ok ZcD (fun vs H Q E h=>?_) (fun cdv A outer s H vs Q E hr h=>?_)
 ·obtain⟨a,dx,x,y,z,tl,L1,T1,L2,T2,e1,e2,f1,f2,p1,s,rfl,_⟩:=h;rfl
 obtain⟨a,dx,x,y,z,tl,L1,T1,L2,T2,e1,e2,f1,f2,p1,hs,rfl,hA,h1,h2,q⟩:=h;refine⟨_,(Zj (ZC (Zax (Za (Za7 g_Reader_ends_well hr (Zaf (pv 0) rfl) c_Reader.cls) (Za (ZcS (ZbK ZdH (Zaf (pv 0) rfl) ZbR (Z2 _)) (Zd9 (Za7 g_Reader_ends_well hr (Zaf (pv 0) rfl) c_Reader.cls))) Zf))))),?_⟩;obtain⟨dy,_,_,_,hy⟩:=h1.obj;obtain⟨R1,lv1,l1,hR1,_,_,wl1⟩:=h1.opn;refine⟨_,rfl,a,C,dx,_,_,rfl,hA,c_Pipe.cls,c_Pipe.n2,rfl,y,dy,_,rfl,hy,rfl,y,L1,T1,_,f1,R1,lv1,l1,p1.2,rfl,hR1,fun b1 H1 s1 hb1=>?_⟩
 replace hb1:=hb1.trans wl1
 have fin:∀(b2:Bool)(H2:Hp),Zk H1 H2->(b2=true↔hs.2.1=none/\WlF f2 hs.1)->([V.bl b1,V.bl b2]:List V).length<=sizeLine/\∀p,H2 p=none->Q (.ref p) (upd H2 p (.tup [.bl b1,.bl b2])):=fun b2 H2 s2 hb2=>⟨by show(2:Nat)<=sizeLine;decide,fun p hp=>q p b1 b2 _ ((s1.trans s2).trans (Zk.new hp)) ((s1.trans s2).free hp) Zb ⟨hb1,hb2⟩⟩;refine⟨_,rfl,a,C,dx,_,_,rfl,s1 _ _ hA,c_Pipe.cls,c_Pipe.n5,rfl,rfl,_,rfl,?_⟩;cases hb:hs.2.1 with
 | some m =>
  refine ZbX (fun c=>by have:=of_decide_eq_true c;cases this) fun _=>?_;exact fin false H1 (Zk.refl _) ⟨fun z=>(nomatch z),fun z=>by rw[hb] at z;exact nomatch z.1⟩
 | none =>
  refine ZbX (fun _=>?_) fun c=>absurd (decide_eq_true rfl) c;have h2':=h2.same s1;obtain⟨dz,_,_,_,hz⟩:=h2'.obj;obtain⟨R2,lv2,l2,hR2,_,_,wl2⟩:=h2'.opn;exact⟨_,rfl,a,C,dx,_,_,rfl,s1 _ _ hA,c_Pipe.cls,c_Pipe.n3,rfl,z,dz,_,rfl,hz,rfl,z,L2,T2,_,f2,R2,lv2,l2,hs.1.2,rfl,hR2,fun b2 H2 s2 hb2=>fin b2 H2 s2 ((hb2.trans wl2).trans ⟨fun z=>⟨hb,z⟩,fun z=>z.2⟩)⟩
theorem Zf0{K:PySem.W.Frag}{H:Hp}{a b:Addr}{xs ys:List Str}{neg:Bool}{Q:VK}(hA:SqL K H a (xs.map V.str))(hB:SqL K H b (ys.map V.str))(o1:OkW xs)(o2:OkW ys)(q:Q (.bl (if neg then !decide (xs=ys) else decide (xs=ys))) H):Zk5 K neg (.ref a) (.ref b) H Q:=Zix (n:=200) hA hB o1 o2 (by decide) q
def Zh0(CR:Addr):Sp:=fun vs H Q _=>∃(a L T r cm:Addr)(ex:List Addr)(f:FQ)(s:HS)(ws:List Str),vs=[.ref a,.ref r,brV s.2.1,.ref cm]/\RdE CR H a L T ex f s.1/\H r=some (.lst (ws.map V.str))/\H cm=some (.lst (s.2.2.map V.str))/\cm∈ex/\r ∉ [L,T,cm]/\s.2.2.length+ws.length<=800/\s.1.2.length<=s.2.2.length /\
 ∀H',Zv [L,T,cm] H H'->RdE CR H' a L T ex f (hdL f s ws).1->H' cm=some (.lst ((hdL f s ws).2.2.map V.str))->Q (brV (hdL f s ws).2.1) H'
set_option maxHeartbeats 4000000 in
theorem ZfP{CR:Addr}(B:∀x∈ZbJ,mg x=none)(c_Reader:RdC K CR)(g_Reader_take:HasM P w K mg base CR "take" ["self","word"] 3 (Zdz CR)) (F:Fun K "_law_handed" "_law_handed" ZaD f fd):FnOk P w K mg base CX0 4 f fd ["_law_far","_law_words","_law_broke","_law_came"] (Zh0 CR):=by
 refine F.ok Zcc (fun vs H Q E h=>?_) (fun cdv A outer s H vs Q E hr h=>?_)
 ·obtain⟨a,L,T,r,cm,ex,f,s,ws,rfl,_⟩:=h;rfl
 obtain⟨a,L,T,r,cm,ex,f,hs,ws,rfl,hR,er,ec,hcx,hrn,hl8,hd8,q⟩:=h;refine Zq ((Ze ZaD).drop 1) (Zj (ZC (pv 2))) (fun u1 h1 e1=>?_);refine Zq ((Zab ((Ze ZaD).getD 0 (.Pass ⟨0,0,0,0⟩))).drop 1) (Zj (Zau (Zbp PySem.F.plainAttrs_list PySem.F.slot_list_append PySem.F.type_list_append ZR (pv 3) (Za (pv 4) Zf)))) (fun u0_1 h0_1 e0_1=>?_);refine Zq ((Zab ((Ze ZaD).getD 0 (.Pass ⟨0,0,0,0⟩))).drop 0) (Zc (ZaL (PW.pt (Zb5 (ZQ ZdH (pv 2) ZbR (Z2 _)) (ZbA (Zbb (Z7 (Zbm g_Reader_take hr (pv 0) c_Reader.cls (Za (pv 4) Zf)) (fun _=>rfl))))))
   (Zj (Zt (i:=2) Zcc.nd rfl (Or.inl rfl) (ZF Z3 rfl (B "len" (by decide)) PySem.boot_len (Za (pv 3) Zf))))
   ZM) h0_1) (fun u0_0 h0_0 e0_0=>?_)
 refine Zq ((Ze ZaD).drop 0) (Zc (Zbc PassesOwn.never rfl (Zbt (pv 1)) (Zu (i:=4) Zcc.nd rfl (Or.inl rfl))
   h0_0) h1) (fun u0 h0 e0=>?_)
 refine⟨u0,h0,?_⟩;refine Zo e0 ?_;have rn:r≠L/\r≠T/\r≠cm:=by
  simp only[List.mem_cons,List.not_mem_nil,or_false,not_or] at hrn;exact hrn
 refine⟨_,rfl,r,rfl,⟨_,SqL.of er⟩,ZbU (K:=K) (a:=r) (xs:=ws.map V.str) (fun i σ H3=>∃v4:Option V,σ =[some (.ref a),some (.ref r),some (brV (hdL f hs (ws.take i)).2.1),some (.ref cm),v4]/\Zv [L,T,cm] H H3/\H3 r=some (.lst (ws.map V.str))/\RdE CR H3 a L T ex f (hdL f hs (ws.take i)).1/\H3 cm=some (.lst ((hdL f hs (ws.take i)).2.2.map V.str)))
  ⟨none,rfl,fun _ _ _ e=>e,er,hR,ec⟩ ?_ ?_ ?_⟩
 ·rintro i σ H3 _ ⟨v4,_,_,h,_⟩;exact SqL.of h
 ·rintro i x σ H3 hxi ⟨v4,rfl,k3,er3,hR3,ec3⟩;rw[List.getElem?_map] at hxi;obtain⟨wd,hwd,rfl⟩:=Option.map_eq_some_iff.mp hxi;have hil:=(List.getElem?_eq_some_iff.mp hwd).1;have hsn:hdL f hs (ws.take (i+1))=hdS f (hdL f hs (ws.take i)) wd:=by rw[Zz hwd,ZgA]
  obtain⟨hc1,hc2⟩:=Zc9 f (ws.take i) hs;rw[List.length_take] at hc2;generalize hdL f hs (ws.take i)=s3 at hR3 ec3 hsn hc1 hc2 ⊢;have hl3:s3.2.2.length<=800:=by
   rw[hc1,List.length_append,List.length_take];lia
  have fin:∀(D:Ends),(∀ σ H5,(∃v4:Option V,σ =[some (.ref a),some (.ref r),some (brV (hdL f hs (ws.take (i+1))).2.1),some (.ref cm),v4]/\Zv [L,T,cm] H H5/\H5 r=some (.lst (ws.map V.str))/\RdE CR H5 a L T ex f (hdL f hs (ws.take (i+1))).1/\H5 cm=some (.lst ((hdL f hs (ws.take (i+1))).2.2.map V.str)))->D.nx σ H5)->∀(H4:Hp)(s4:RS×Option Nat),Zv [L,T,cm] H H4->H4 r=some (.lst (ws.map V.str))->RdE CR H4 a L T ex f s4.1->H4 cm=some (.lst (s3.2.2.map V.str))->hdS f s3 wd=(s4.1,s4.2,s3.2.2 ++ [wd])->u0_1 D [some (.ref a),some (.ref r),some (brV s4.2),some (.ref cm),some (.str wd)] H4:=fun D hD H4 s4 k4 er4 hR4 ec4 hs4=>by
   refine Zo e0_1 ?_;refine⟨_,rfl,.inl ⟨rfl,_,SqL.of ec4⟩,_,rfl,cm,_,_,rfl,rfl,ec4,Zn (by rw[List.length_map];lia),?_⟩;rw[hsn,hs4] at hD;refine hD _ _ ⟨_,rfl,k4.upd (by simp),by rw[Zd rn.2.2];exact er4,hR4.keep (Y:=[cm]) (Zv.upd (fun _ _ _ e=>e) (by simp)) fun y hy'=>?_,by rw[Zb,List.map_append];rfl⟩;rw[List.mem_singleton.mp hy'];exact .inl ⟨hcx,_,Zb⟩
  refine Zo e0_0 ?_;refine⟨_,rfl,rfl,_,rfl,?_⟩;cases hb:s3.2.1 with
  | some m =>
   refine ZbX (fun c=>by have:=of_decide_eq_true c;cases this) fun _=>Zbu ?_;refine fin _ (fun _ _ h=>h) H3 (s3.1,some m) k3 er3 hR3 ec3 ?_;unfold hdS;rw[hb]
  | none =>
   refine ZbX (fun _=>?_) fun c=>absurd (decide_eq_true rfl) c;obtain⟨dz,_,_,_,hz⟩:=hR3.obj;obtain⟨R2,lv2,l2,hR2,tn2,ts2,_⟩:=hR3.opn;refine⟨_,rfl,a,dz,_,rfl,hz,rfl,_,rfl,a,L,T,_,f,R2,lv2,l2,s3.1.2,wd,rfl,hR2,by lia,(fun H4 s4 hn=>⟨false,rfl,Zci ?_⟩),fun H4 lv' tg' k4 hr4 hs4=>⟨true,rfl,Zbu ?_⟩⟩
   ·replace hn:=tn2 wd hn
    refine⟨_,rfl,cm,_,rfl,.inl (SqL.of (s4 _ _ ec3)),?_⟩;show u0_1 _ [_,_,some (V.int (((s3.2.2.map V.str).length:Nat):Int)),_,_] _;rw[List.length_map];exact fin _ (fun _ _ h=>h) H4 (s3.1,some s3.2.2.length) (k3.trans (Zk.keepX s4)) (s4 _ _ er3) (hR3.same s4) (s4 _ _ ec3) (by unfold hdS;rw[hb,hn])
   ·have ht4:=ts2 wd lv' tg' hs4
    replace hr4:RdE CR H4 a L T _ f (lv',tg'):=⟨R2,hr4⟩
    generalize ((lv',tg'):RS)=p4 at ht4 hr4;have nc:=hR3.lists.2.2 cm hcx;refine fin _ (fun _ _ h=>h) H4 (p4,none) (k3.trans (k4.less fun b hb=>?_)) (k4 _ _ (ZaP rn.1 rn.2.1) er3) hr4 (k4 _ _ (ZaP nc.1 nc.2.1) ec3) (by unfold hdS;rw[hb,ht4]);simp only[List.mem_cons,List.not_mem_nil,or_false] at hb;rcases hb with rfl|rfl <;> simp
 ·rintro σ H3 ⟨v4,rfl,k3,_,hR3,ec3⟩;rw[List.length_map,List.take_length] at hR3 ec3;refine Zo e1 ?_;refine⟨_,rfl,?_⟩;rw[List.length_map,List.take_length];exact q H3 k3 hR3 ec3
def ZfD:Sp:=fun vs H Q _=>∃b:Option Nat,vs=[brV b,brV b]/\Q (.bl true) H
theorem ZfM(B:∀x∈ZbJ,mg x=none)(F:Fun K "_law_number" "_law_number" Zbi f fd):FnOk P w K mg base CX0 1 f fd ["_law_told","_law_due"] ZfD:=by
 refine F.ok ZfU (fun vs H Q E h=>?_) (fun cdv A outer s H vs Q E hr h=>?_)
 ·obtain⟨b,rfl,_⟩:=h;rfl
 obtain⟨b,rfl,q⟩:=h;refine⟨_,(Zc (ZaL (ZQ ZdH (pv 1) ZbR (Z2 _))
   (Zj (ZC (ZbK ZdH (pv 0) ZbR (Z2 _))))
   ZM)
  (Zj (ZC (ZcS (ZF ZaN rfl (B "isinstance" (by decide)) ZaB (Za (pv 0) (Za (Zf7 rfl (B "int" (by decide)) Zlf) Zf))) (ZcS (Zk8 (ZF ZaN rfl (B "isinstance" (by decide)) ZaB (Za (pv 0) (Za (Zf7 rfl (B "bool" (by decide)) ZeF) Zf)))) (Zd9 (ZbK Zb2 (pv 0) (pv 1) (Z2 _)))))))),?_⟩
 cases b with
 | none =>
  refine⟨_,rfl,rfl,_,rfl,ZbX (fun _=>⟨_,rfl,rfl,?_⟩) fun c=>absurd (decide_eq_true rfl) c⟩;show Q (.bl (decide (V.non=V.non))) H;rw[decide_eq_true rfl];exact q
 | some m =>
  refine⟨_,rfl,rfl,_,rfl,ZbX (fun c=>by have:=of_decide_eq_true c;cases this) fun _=>?_⟩;refine⟨_,rfl,.int m,"int",.type "int",true,rfl,.int m,rfl,true,rfl,Zci ?_⟩;refine⟨_,rfl,.int m,"bool",.type "int",false,rfl,.int m,rfl,false,rfl,true,rfl,Zci ?_⟩;refine⟨_,rfl,_,rfl,rfl,?_⟩;rw[decide_eq_true rfl];exact q
def ZfV:Sp:=fun vs H Q _=>∃(t u:Addr)(b1 b2:Bool),vs=[.ref t,.ref u]/\H t=some (.tup [.bl b1,.bl b2])/\H u=some (.tup [.bl b1,.bl b2])/\Q (.bl true) H
theorem ZfJ(B:∀x∈ZbJ,mg x=none)(F:Fun K "_law_truths" "_law_truths" Zbj f fd):FnOk P w K mg base CX0 1 f fd ["_law_told","_law_due"] ZfV:=by
 refine F.ok Zgc (fun vs H Q E h=>?_) (fun cdv A outer s H vs Q E hr h=>?_)
 ·obtain⟨t,u,b1,b2,rfl,_⟩:=h;rfl
 obtain⟨t,u,b1,b2,rfl,ht,hu',q⟩:=h;have hu:=Zcz hr;refine⟨_,(Zc (ZaL (PW.pt (Zjc (Zbb (Z7 (ZF ZaN rfl (B "isinstance" (by decide)) ZaB (Za (pv 0) (Za (Zf7 rfl (B "tuple" (by decide)) Zbs) Zf))) (fun _=>rfl))) (ZgU (ZQ Zll (ZF Z3 rfl (B "len" (by decide)) PySem.boot_len (Za (pv 0) Zf)) Zg (Z2 _)))))
   (Zj (ZC Zba))
   ZM)
  (Zj (ZC (ZcS (ZF ZaN rfl (B "isinstance" (by decide)) ZaB (Za (Zae ZaX (pv 0) Zg (fun _ _=>rfl)) (Za (Zf7 rfl (B "bool" (by decide)) ZeF) Zf))) (ZcS (ZF ZaN rfl (B "isinstance" (by decide)) ZaB (Za (Zae ZaX (pv 0) Zg (fun _ _=>rfl)) (Za (Zf7 rfl (B "bool" (by decide)) ZeF) Zf))) (Zd9 (ZbK (Zlo hu) (pv 0) (pv 1) (Z2 _)))))))),?_⟩
 refine⟨_,rfl,.ref t,"tuple",.type "tuple",true,rfl,.tup ht,rfl,true,rfl,Zbu ?_⟩;refine⟨_,rfl,t,_,rfl,.inr (SqT.of ht),rfl,_,rfl,ZbX (fun c=>absurd c (by show ¬ ((!decide (V.int ((2:Nat):Int)=V.int 2))=true);decide)) fun _=>?_⟩;refine⟨_,rfl,t,_,0,_,rfl,rfl,SqT.of ht,rfl,.bl b1,"bool",.type "bool",true,rfl,.bl b1,rfl,true,rfl,Zci ?_⟩;refine⟨_,rfl,t,_,1,_,rfl,rfl,SqT.of ht,rfl,.bl b2,"bool",.type "bool",true,rfl,.bl b2,rfl,true,rfl,Zci ?_⟩;exact⟨_,rfl,_,rfl,eq_data (d:=.tuple [.bool b1,.bool b2]) (.tup (SqT.of ht) (.cons (.bl _) (.cons (.bl _) .nil))) (.tup (SqT.of hu') (.cons (.bl _) (.cons (.bl _) .nil))) rfl (by show(1:Nat)<=200;decide) q⟩
def Zh8(CR C:Addr):Sp:=fun vs H Q _=>∃(a dx x y z tl L1 T1 L2 T2 cm du:Addr)(e1 e2:List Addr)(f1 f2:FQ)(p1:RS)(s:HS)(o:Int)(b1 b2:Bool),vs=[.ref a,.ref cm,brV s.2.1,.ref du,.int o]/\H a=some (.ins C dx (ppF x y z tl (brV s.2.1)))/\RdE CR H y L1 T1 e1 f1 p1/\RdE CR H z L2 T2 e2 f2 s.1/\H tl=some (.lst (s.2.2.map V.str))/\H cm=some (.lst (s.2.2.map V.str))/\OkW s.2.2/\H du=some (.tup [.bl b1,.bl b2])/\WlS f1 f2 p1 s b1 b2/\∀H',Zk H H'->Q (.bl true) H'
set_option maxHeartbeats 4000000 in
theorem Zfv{CR C:Addr}(B:∀x∈ZbJ,mg x=none)(c_Pipe:PpC K C)(g_Pipe_came:HasM P w K mg base C "came" ["self"] 1 (Zki C)) (g_l_number:Has P w K mg base "_law_number" ["_law_told","_law_due"] 1 ZfD) (g_Pipe_broken:HasM P w K mg base C "broken" ["self"] 1 (Zkj C)) (g_l_truths:Has P w K mg base "_law_truths" ["_law_told","_law_due"] 1 ZfV) (g_Pipe_ends_well:HasM P w K mg base C "ends_well" ["self"] 3 (ZjW CR C)) (F:Fun K "_law_looked" "_law_looked" Z0 f fd):FnOk P w K mg base CX0 4 f fd ["_law_pipe","_law_came","_law_broke","_law_due","_law_order"] (Zh8 CR C):=by
 refine F.ok ZbG (fun vs H Q E h=>?_) (fun cdv A outer s H vs Q E hr h=>?_)
 ·obtain⟨a,dx,x,y,z,tl,L1,T1,L2,T2,cm,du,e1,e2,f1,f2,p1,s,o,b1,b2,rfl,_⟩:=h;rfl
 obtain⟨a,dx,x,y,z,tl,L1,T1,L2,T2,cm,du,ex1,ex2,f1,f2,p1,hs,o,b1,b2,rfl,hA,hq1,hq2,ht,hc,okw,hd,wl,q⟩:=h;have hu:=Zcz hr;refine Zq ((Ze Z0).drop 1) (Zj (ZC Zba)) (fun u1 h1 e1=>?_);refine Zq ((Zab ((Ze Z0).getD 0 (.Pass ⟨0,0,0,0⟩))).drop 3) (Zj (ZaL (PW.pt (Zb5 (ZQ Zb2 (pv 6) Zg (Z2 _)) (ZbA (Zbb (Z7 (Z4 g_l_truths hr rfl (Za (Za7 g_Pipe_ends_well hr (pv 0) c_Pipe.cls) (Za (pv 3) Zf))) (fun _=>rfl))))))
   (Zj (ZC Zba))
   ZM)) (fun u0_3 h0_3 e0_3=>?_)
 refine Zq ((Zab ((Ze Z0).getD 0 (.Pass ⟨0,0,0,0⟩))).drop 2) (Zc (ZaL (PW.pt (Zb5 (ZQ Zb2 (pv 6) Zg (Z2 _)) (ZbA (Zbb (Z7 (Z4 g_l_number hr rfl (Za (Za7 g_Pipe_broken hr (pv 0) c_Pipe.cls) (Za (pv 2) Zf))) (fun _=>rfl))))))
   (Zj (ZC Zba))
   ZM) h0_3) (fun u0_2 h0_2 e0_2=>?_)
 refine Zq ((Zab ((Zab ((Ze Z0).getD 0 (.Pass ⟨0,0,0,0⟩))).getD 1 (.Pass ⟨0,0,0,0⟩))).drop 2) (Zj (Zau (ZcL PySem.F.plainAttrs_list PySem.F.slot_list_clear PySem.F.type_list_clear Zi6 (pv 7)))) (fun u0_1t2 h0_1t2 e0_1t2=>?_);refine Zq ((Zab ((Zab ((Ze Z0).getD 0 (.Pass ⟨0,0,0,0⟩))).getD 1 (.Pass ⟨0,0,0,0⟩))).drop 1) (Zc (ZaL (PW.pt (Zjc (Zbb (Z7 (ZF ZaN rfl (B "isinstance" (by decide)) ZaB (Za (pv 7) (Za (Zf7 rfl (B "list" (by decide)) Zf4) Zf))) (fun _=>rfl))) (ZgU (ZQ (Zk1 hu) (pv 7) (pv 1) (Z2 _)))))
   (Zj (ZC Zba))
   ZM) h0_1t2) (fun u0_1t1 h0_1t1 e0_1t1=>?_)
 refine Zq ((Zab ((Zab ((Ze Z0).getD 0 (.Pass ⟨0,0,0,0⟩))).getD 1 (.Pass ⟨0,0,0,0⟩))).drop 0) (Zc (Zt (i:=7) ZbG.nd rfl (Or.inl rfl) (Za7 g_Pipe_came hr (pv 0) c_Pipe.cls)) h0_1t1) (fun u0_1t0 h0_1t0 e0_1t0=>?_);refine Zq ((Zab ((Ze Z0).getD 0 (.Pass ⟨0,0,0,0⟩))).drop 1) (Zc (ZaL (ZQ Zb2 (pv 6) Zg (Z2 _))
   h0_1t0
   ZM) h0_2) (fun u0_1 h0_1 e0_1=>?_)
 refine Zq ((Zab ((Ze Z0).getD 0 (.Pass ⟨0,0,0,0⟩))).drop 0) (Zc (Zt (i:=6) ZbG.nd rfl (Or.inl rfl) (Zr ZV (Zr ZaZ (pv 5) (pv 4)) Zg)) h0_1) (fun u0_0 h0_0 e0_0=>?_);refine Zq ((Ze Z0).drop 0) (Zc (Zbc PassesOwn.never rfl (ZaW rfl (B "range" (by decide)) (Za Zg Zf)) (Zu (i:=5) ZbG.nd rfl (Or.inl rfl))
   h0_0) h1) (fun u0 h0 e0=>?_)
 refine⟨u0,h0,?_⟩;refine Zo e0 ?_;refine⟨3,rfl,by decide,by decide,Zbx (lo:=0) (n:=3) (fun i σ H1=>∃v5 v6 v7:Option V,σ =[some (.ref a),some (.ref cm),some (brV hs.2.1),some (.ref du),some (.int o),v5,v6,v7]/\Zk H H1)
  ⟨none,none,none,rfl,Zk.refl H⟩ ?_ ?_⟩
 ·rintro i σ H1 hi ⟨v5,v6,v7,rfl,s1⟩;refine Zo e0_0 ?_;refine⟨_,rfl,_,rfl,_,_,rfl,rfl,_,_,rfl,rfl,(by show(0:Int)<3;decide),?_⟩;generalize hwy:(0+(i:Int)+o) % 3=wy;show u0_1 _ [_,_,_,_,_,_,some (V.int ((0+(i:Int)+o) % 3)),_] _;rw[hwy];refine Zo e0_1 ?_;refine via (t:=u0_2) (R:=fun σ H3=>∃v7:Option V,σ =[some (.ref a),some (.ref cm),some (brV hs.2.1),some (.ref du),some (.int o),some (.int (0+(i:Int))),some (.int wy),v7]/\Zk H H3) ?_ fun fin=>?_
  ·rintro σ H3 ⟨v7,rfl,s3⟩;refine Zo e0_2 ?_;refine via (t:=u0_3) (R:=fun σ H4=>σ =[some (.ref a),some (.ref cm),some (brV hs.2.1),some (.ref du),some (.int o),some (.int (0+(i:Int))),some (.int wy),v7]/\H4=H3) ?_ fun fin=>?_
   ·rintro σ H4 ⟨rfl,rfl⟩;refine Zo e0_3 ?_;refine⟨_,rfl,rfl,_,rfl,ZbX (fun _=>?_) (fun _=>Zbu ⟨_,_,_,rfl,s3⟩)⟩;refine⟨_,rfl,a,dx,_,rfl,s3 _ _ hA,rfl,a,dx,x,y,z,tl,L1,T1,L2,T2,ex1,ex2,f1,f2,p1,hs,rfl,s3 _ _ hA,hq1.same s3,hq2.same s3,fun r c1 c2 H5 s5 _ er wl'=>?_⟩;obtain⟨rfl,rfl⟩:=wl'.one wl;refine⟨_,rfl,r,du,_,_,rfl,er,s5 _ _ (s3 _ _ hd),true,rfl,Zbu ⟨_,_,_,rfl,s3.trans s5⟩⟩
   ·refine⟨_,rfl,rfl,_,rfl,ZbX (fun _=>?_) (fun _=>Zbu (fin _ _ ⟨rfl,rfl⟩))⟩;exact⟨_,rfl,a,dx,_,rfl,s3 _ _ hA,rfl,a,dx,tl,x,y,z,_,rfl,s3 _ _ hA,_,rfl,hs.2.1,rfl,true,rfl,Zbu (fin _ _ ⟨rfl,rfl⟩)⟩
  ·refine⟨_,rfl,rfl,_,rfl,ZbX (fun _=>?_) (fun _=>fin _ _ ⟨_,rfl,s1⟩)⟩;refine Zo e0_1t0 ?_;refine⟨_,rfl,a,dx,_,rfl,s1 _ _ hA,rfl,a,dx,tl,x,y,z,_,hs.2.2,rfl,s1 _ _ hA,s1 _ _ ht,fun r hr2=>?_⟩;have s2:Zk H1 (upd H1 r (.lst (hs.2.2.map V.str))):=Zk.new hr2;have er:(upd H1 r (.lst (hs.2.2.map V.str))) r=some (.lst (hs.2.2.map V.str)):=Zb;refine Zo e0_1t1 ?_;refine⟨_,rfl,.ref r,"list",.type "list",true,rfl,.lst er,rfl,true,rfl,Zbu ?_⟩;refine⟨_,rfl,_,rfl,?_⟩;show Zk5 K true (.ref r) (.ref cm) _ _;refine Zf0 (SqL.of er) (SqL.of (s2 _ _ (s1 _ _ hc))) okw okw ?_;rw[if_pos rfl,decide_eq_true rfl];refine⟨_,rfl,Zbu ?_⟩;refine Zo e0_1t2 ?_;refine⟨_,rfl,.inl ⟨rfl,_,SqL.of er⟩,r,_,rfl,rfl,er,?_⟩;exact fin _ _ ⟨_,rfl,(s1.trans s2).upd_new (s1.free hr2)⟩
 ·rintro σ H1 ⟨v5,v6,v7,rfl,s1⟩;refine Zo e1 ?_;exact q H1 s1
theorem Zgy:∀l:List (Str ⊕ Int),(Zfe l).1.length+(Zfe l).2.2.length<=l.length
 | []=>Nat.le_refl _
 | .inl s::r=>by have:=Zgy r;simp only[Zfe,List.length_cons];lia
 | .inr m::r=>by
  have:=List.length_filterMap_le Sum.getLeft? r;simp only[Zfe,List.length_cons,List.length_nil];lia
theorem Zjq{kn:Kn}(ok:∀i t p,kn i t=some p->p.sz<=6)(m:Option Int)(t:Str):(rlS kn m t).1.length+(rlS kn m t).2.2.length<=13:=by
 cases m with
 | none=>exact Nat.zero_le _
 | some i =>
  show(match kn i t with|none=>([t],some i,[SL])|some p=>Zfe p.spl).1.length+(match kn i t with|none=>([t],some i,[SL])|some p=>Zfe p.spl).2.2.length<=13
  cases h:kn i t with
  | none=>show(2:Nat)<=13;decide
  | some p =>
   have h1:=Zgy p.spl;have h2:=p.Zb7;have h3:=ok _ _ _ h;show(Zfe p.spl).1.length+(Zfe p.spl).2.2.length<=13;lia
theorem ZdY(bs:Bg)(b:Option Int×List Str):ZfZ (bs ++ [b])=b.2++ZfZ bs:=by
 unfold ZfZ;simp
theorem ZeS{kn:Kn}(ok:∀i t p,kn i t=some p->p.sz<=6)(bs:Bg)(w:Str):(Zbg kn bs w).1.length+(ZfZ (Zbg kn bs w).2).length<=(ZfZ bs).length+13:=by
 unfold Zbg;by_cases c:w=SL
 ·rw[if_pos c];by_cases z:bs=[]
  ·subst z;exact Nat.zero_le _
  ·obtain⟨bs',b,rfl⟩:=ZdC z;rw[List.getLast?_concat,List.dropLast_concat,ZdY,List.length_append];show b.2.length+(ZfZ bs').length<=_;lia
 ·rw[if_neg c];have:=Zjq ok (ZcT bs) w;rw[ZdY,List.length_append];show(rlS kn (ZcT bs) w).1.length+((rlS kn (ZcT bs) w).2.2.length+_)<=_;lia
theorem Zle{kn:Kn}(ok:KnOk kn){m:Option Int}{t:Str}(ht:PyData.strOk t=true):(∀x∈(rlS kn m t).1,PyData.strOk x=true)/\∀x∈(rlS kn m t).2.2,PyData.strOk x=true:=by
 cases m with
 | none=>exact⟨fun _ h=>(nomatch h),fun _ h=>(nomatch h)⟩
 | some m =>
  obtain⟨r1,r2,r3,r4⟩:=ZgM ok (m:=m) ht;rw[r4];by_cases c:(paD kn m t).nk=0
  ·obtain⟨ts,e1,e2⟩:=(Zbn (paD kn m t)).1 c;rw[e1,ZeQ];exact⟨fun x hx=>ZcM r3 x (by rw[e1];exact List.mem_map.mpr ⟨x,hx,rfl⟩),fun _ h=>(nomatch h)⟩
  ·obtain⟨ta,tb,mk,e1,e2⟩:=(Zbn (paD kn m t)).2 (by lia);rw[e1,Zfl];exact⟨fun x hx=>ZcM r3 x (by rw[e1];exact List.mem_append_left _ (List.mem_map.mpr ⟨x,hx,rfl⟩)),fun x hx=>ZcM r3 x (by rw[e1];exact List.mem_append_right _ (List.mem_cons_of_mem _ (List.mem_map.mpr ⟨x,hx,rfl⟩)))⟩
theorem Zkl{kn:Kn}(ok:KnOk kn){bs:Bg}{t:Str}(ht:PyData.strOk t=true)(hb:∀b∈bs,∀x∈b.2,PyData.strOk x=true):(∀x∈(Zbg kn bs t).1,PyData.strOk x=true)/\∀b∈(Zbg kn bs t).2,∀x∈b.2,PyData.strOk x=true:=by
 unfold Zbg;by_cases c:t=SL
 ·rw[if_pos c];by_cases z:bs=[]
  ·subst z;exact⟨fun _ h=>(nomatch h),fun _ h=>(nomatch h)⟩
  ·obtain⟨bs',b,rfl⟩:=ZdC z;rw[List.getLast?_concat,List.dropLast_concat];exact⟨hb b (List.mem_append_right _ (List.mem_singleton.mpr rfl)),fun c hc=>hb c (List.mem_append_left _ hc)⟩
 ·rw[if_neg c];obtain⟨h1,h2⟩:=Zle ok (m:=ZcT bs) ht;refine⟨h1,fun b hb'=>?_⟩;rcases List.mem_append.mp hb' with h|h
  ·exact hb b h
  ·rw[List.mem_singleton.mp h];exact h2
theorem ZiZ(kn:Kn)(bs:Bg)(t:Str):(Zbg kn bs t).2.length=if t=SL then bs.length-1 else bs.length+1:=by
 unfold Zbg;by_cases c:t=SL
 ·rw[if_pos c,if_pos c];by_cases z:bs=[]
  ·subst z;rfl
  ·obtain⟨bs',b,rfl⟩:=ZdC z;rw[List.getLast?_concat,List.dropLast_concat,List.length_append];rfl
 ·rw[if_neg c,if_neg c,List.length_append];rfl
def Pad.D(d:Pad):List Addr:=[d.Bl,d.L1,d.T1,d.L2,d.T2,d.tl]
theorem PpAt.wide{CS CR CP:Addr}{H H':Hp}{O O':List Addr}{d:Pad}{f1 f2:FQ}{kn:Kn}{p1:RS}{bs:Bg}{s:HS}(h:PpAt CS CR CP H O d f1 f2 kn p1 bs s)(sm:Zk H H')(hb:∀b∈O',b∈O\/(H b=none/\∃ys,H' b=some (.lst ys))):PpAt CS CR CP H' O' d f1 f2 kn p1 bs s:=by
 obtain⟨ls,n,hs,hl⟩:=h.st;obtain⟨dp,hp⟩:=h.ho;obtain⟨zb,hzb,_⟩:=hs.hb;have nn:∀{b:Addr}{o:HO},H b=some o->b∉O->b∉O':=fun{b o} e n z=>(hb b z).elim n fun z=>by rw[z.1] at e;cases e
 have wd:∀{x1 x2 x3 x4:Addr},∀b∈x1::x2::x3::x4::O',b∈x1::x2::x3::x4::O\/(H b=none/\∃ys,H' b=some (.lst ys)):=fun{x1 x2 x3 x4} b z=>by
  simp only[List.mem_cons] at z ⊢;rcases z with z|z|z|z|z
  ·exact .inl (.inl z)
  ·exact .inl (.inr (.inl z))
  ·exact .inl (.inr (.inr (.inl z)))
  ·exact .inl (.inr (.inr (.inr (.inl z))))
  ·exact(hb b z).imp (fun z=>.inr (.inr (.inr (.inr z)))) id
 refine⟨⟨dp,sm _ _ hp⟩,⟨ls,n,Fg.StAt.same hs sm,fun l hl' z=>?_⟩,h.r1.wide sm wd,h.r2.wide sm wd,sm _ _ h.ht,fun z=>?_,nn h.ht h.n2⟩
 ·obtain⟨xs,e⟩:=Fg.StAt.live hs l (List.mem_cons_of_mem _ hl');have:=hl l hl';simp only[List.mem_cons,not_or] at z this;obtain⟨t1,t2,t3,t4,t5,t6⟩:=this;rcases z with z|z|z|z|z|z
  ·exact t1 z
  ·exact t2 z
  ·exact t3 z
  ·exact t4 z
  ·exact t5 z
  ·exact nn e t6 z
 ·have:=h.n1;simp only[List.mem_cons,not_or] at z this;rcases z with z|z
  ·exact this.1 z
  ·exact nn hzb this.2 z
structure Lad where
 an:Addr
 Ln:Addr
 Tn:Addr
 x:Addr
 dk:Addr
 B:Addr
 af:Addr
 Lf:Addr
 Tf:Addr
 cm:Addr
def Lad.O(l:Lad):List Addr:=[l.Ln,l.Tn,l.B,l.Lf,l.Tf,l.cm]
def Lad.M(l:Lad)(d:Pad):List Addr:=l.Ln::l.Tn::l.Lf::l.Tf::l.cm::d.D
structure LI(CS CR CP:Addr)(H4 H:Hp)(d:Pad)(l:Lad)(f1 f2:FQ)(kn:Kn)(pn p1:RS)(bn bs:Bg)(sn s:HS):Prop where
 sm:Zk H4 H
 pa:PpAt CS CR CP H l.O d f1 f2 kn p1 bs s
 nr:RdE CR H l.an l.Ln l.Tn (l.B::l.Lf::l.Tf::l.cm::d.D) f1 pn
 fr:RdE CR H l.af l.Lf l.Tf (l.B::l.Ln::l.Tn::l.cm::d.D) f2 sn.1
 st:∃ls n,StAt CS H l.x l.dk l.B ls kn bn n/\∀b∈ls,b∉l.M d
 hc:H l.cm=some (.lst (sn.2.2.map V.str))
 nx:l.x≠d.x
 nB:l.B∉l.M d
 fz:∀b∈l.x::l.B::d.x::d.pp::l.M d,H4 b=none
section
variable{CS CR CP:Addr}{H4 H H':Hp}{d:Pad}{l:Lad}{f1 f2:FQ}{kn:Kn}{pn p1:RS}{bn bs:Bg}{sn s:HS}
theorem LI.keep4{Y:List Addr}(h:LI CS CR CP H4 H d l f1 f2 kn pn p1 bn bs sn s)(k:Zv Y H H')(hy:∀y∈Y,y∈l.x::l.B::d.x::d.pp::l.M d):Zk H4 H':=fun b o e=>k b o (fun z=>by rw[h.fz b (hy b z)] at e;cases e) (h.sm b o e)
theorem LI.lst(h:LI CS CR CP H4 H d l f1 f2 kn pn p1 bn bs sn s):∀b∈l.M d,∃xs,H b=some (.lst xs):=fun b hb=>by
 obtain⟨a1,a2,a3⟩:=h.nr.lists;simp only[Lad.M,List.mem_cons] at hb;rcases hb with rfl|rfl|rfl|rfl|rfl|hb
 ·exact a1
 ·exact a2
 ·exact(a3 _ (by simp)).2.2
 ·exact(a3 _ (by simp)).2.2
 ·exact⟨_,h.hc⟩
 ·exact(a3 _ (by simp[hb])).2.2
theorem LI.stk{Y:List Addr}(h:LI CS CR CP H4 H d l f1 f2 kn pn p1 bn bs sn s)(k:Zv Y H H')(hy:∀y∈Y,y∈l.M d\/(y≠l.x/\∃C dx fs,H y=some (.ins C dx fs))):∃ls n,StAt CS H' l.x l.dk l.B ls kn bn n/\∀b∈ls,b∉l.M d:=by
 obtain⟨ls,n,hs,hl⟩:=h.st;obtain⟨dx,hx⟩:=hs.ho;obtain⟨mk,hk,_⟩:=hs.hk;obtain⟨zb,hb,_⟩:=hs.hb;have nl:∀{b:Addr}{xs:List V},H b=some (.lst xs)->b∉l.M d->b∉Y:=fun{b xs} e n z=>(hy b z).elim n fun⟨_,_,_,_,z⟩=>by rw[e] at z;cases z
 have no:∀{b:Addr}{o:HO},H b=some o->(∀xs,o ≠ .lst xs)->(∀C d fs,o ≠ .ins C d fs)->b∉Y:=fun{b o} e n1 n2 z=>by
  rcases hy b z with z|⟨_,_,_,_,z⟩
  ·obtain⟨xs,z⟩:=h.lst b z;rw[e] at z;injection z with z;exact n1 xs z
  ·rw[e] at z;injection z with z;exact n2 _ _ _ z
 refine⟨ls,n,Fg.StAt.keep hs k (fun b hb xs e=>no e (fun _ z=>nomatch z) (fun _ _ _ z=>nomatch z) hb) (fun z=>?_) (no hk (fun _ z=>nomatch z) fun _ _ _ z=>nomatch z) (nl hb h.nB) fun b hb'=>?_,hl⟩
 ·rcases hy _ z with z|⟨z,_⟩
  ·obtain⟨xs,z⟩:=h.lst _ z;rw[hx] at z;cases z
  ·exact z rfl
 ·obtain⟨xs,e⟩:=Fg.StAt.live hs b (List.mem_cons_of_mem _ hb');exact nl e (hl b hb')
theorem LI.same(h:LI CS CR CP H4 H d l f1 f2 kn pn p1 bn bs sn s)(z:Zk H H'):LI CS CR CP H4 H' d l f1 f2 kn pn p1 bn bs sn s :=
 ⟨h.sm.trans z,h.pa.out (Y:=[]) (Zk.keepX z) (fun _ h=>nomatch h),h.nr.same z,h.fr.same z,h.stk (Y:=[]) (Zk.keepX z) (fun _ h=>nomatch h),z _ _ h.hc,h.nx,h.nB,h.fz⟩
theorem LI.near{pn':RS}(h:LI CS CR CP H4 H d l f1 f2 kn pn p1 bn bs sn s)(k:Zv [l.Ln,l.Tn] H H')(e:RdE CR H' l.an l.Ln l.Tn (l.B::l.Lf::l.Tf::l.cm::d.D) f1 pn'):LI CS CR CP H4 H' d l f1 f2 kn pn' p1 bn bs sn s:=by
 obtain⟨y1,y2,_⟩:=e.lists;have y:∀y ∈ [l.Ln,l.Tn],(y=l.Ln\/y=l.Tn)/\∃ys,H' y=some (.lst ys):=fun y hy=>by
  simp only[List.mem_cons,List.not_mem_nil,or_false] at hy;rcases hy with rfl|rfl
  ·exact⟨.inl rfl,y1⟩
  ·exact⟨.inr rfl,y2⟩
 have nc:=h.nr.lists.2.2 l.cm (by simp);refine⟨h.keep4 k fun b hb=>?_,h.pa.out k fun b hb=>.inl ⟨?_,(y b hb).2⟩,e,h.fr.keep k fun b hb=>.inl ⟨?_,(y b hb).2⟩,h.stk k fun b hb=>.inl ?_,k _ _ (ZaP nc.1 nc.2.1) h.hc,h.nx,h.nB,h.fz⟩ <;> rcases(y b hb).1 with rfl|rfl <;> simp[Lad.O,Lad.M]
theorem LI.pipe{p':RS}{bs':Bg}{s':HS}(h:LI CS CR CP H4 H d l f1 f2 kn pn p1 bn bs sn s)(k:Zv d.W H H')(e:PpAt CS CR CP H' l.O d f1 f2 kn p' bs' s'):LI CS CR CP H4 H' d l f1 f2 kn pn p' bn bs' sn s':=by
 obtain⟨dp,hp⟩:=h.pa.ho;obtain⟨ls,n,hs,_⟩:=h.pa.st;obtain⟨dx,hx⟩:=hs.ho;obtain⟨ls',n',hs',_⟩:=e.st;obtain⟨zb,hzb,_⟩:=hs'.hb;have hx':H d.x=some (.ins CS dx (("known",.ref d.dk) :: [("taken",.int n),("begun",.ref d.Bl)])):=hx;have y:∀y∈d.W,(y∈d.D/\∃ys,H' y=some (.lst ys))\/y=d.x\/y=d.pp:=fun y hy=>by
  simp only[Pad.W,List.mem_cons,List.not_mem_nil,or_false] at hy;rcases hy with rfl|rfl|rfl|rfl|rfl|rfl|rfl|rfl
  ·exact .inl ⟨by simp[Pad.D],e.outL _ (by simp)⟩
  ·exact .inl ⟨by simp[Pad.D],e.outL _ (by simp)⟩
  ·exact .inr (.inl rfl)
  ·exact .inl ⟨by simp[Pad.D],_,hzb⟩
  ·exact .inl ⟨by simp[Pad.D],e.outL _ (by simp)⟩
  ·exact .inl ⟨by simp[Pad.D],e.outL _ (by simp)⟩
  ·exact .inr (.inr rfl)
  ·exact .inl ⟨by simp[Pad.D],e.outL _ (by simp)⟩
 have oth:∀{x1 x2 x3 x4:Addr},∀y∈d.W,Oth (x1::x2::x3::x4::d.D) H H' y:=fun{x1 x2 x3 x4} b hb=>by
  rcases y b hb with z|rfl|rfl
  ·exact .inl ⟨by simp[z.1],z.2⟩
  ·exact .inr ⟨_,_,_,_,_,hx',by decide⟩
  ·exact .inr ⟨_,_,_,_,_,hp,by decide⟩
 have cO:l.cm∈l.O:=by simp[Lad.O]
 have c1:=h.pa.r1.lists.2.2 l.cm (by simp[cO]);have c2:=h.pa.r2.lists.2.2 l.cm (by simp[cO]);have cW:l.cm∉d.W:=fun z=>by
  simp only[Pad.W,List.mem_cons,List.not_mem_nil,or_false] at z;rcases z with z|z|z|z|z|z|z|z
  ·exact c1.1 z
  ·exact c1.2.1 z
  ·have:=h.hc;rw[z,hx] at this;cases this
  ·exact h.pa.n1 (by rw[<- z];simp[cO])
  ·exact c2.1 z
  ·exact c2.2.1 z
  ·have:=h.hc;rw[z,hp] at this;cases this
  ·exact h.pa.n2 (by rw[<- z];exact cO)
 obtain⟨_,_,hs0,_⟩:=h.st;obtain⟨dx0,hx0⟩:=hs0.ho;refine⟨h.keep4 k fun b hb=>?_,e,h.nr.keep k oth,h.fr.keep k oth,h.stk k fun b hb=>?_,k _ _ cW h.hc,h.nx,h.nB,h.fz⟩
 ·rcases y b hb with z|rfl|rfl
  ·simp[Lad.M,z.1]
  ·simp
  ·simp
 ·rcases y b hb with z|rfl|rfl
  ·exact .inl (by simp[Lad.M,z.1])
  ·exact .inr ⟨h.nx.symm,_,_,_,hx⟩
  ·exact .inr ⟨Zdc hp hx0 (by decide),_,_,_,hp⟩
theorem LI.stm{bn':Bg}{ls ls':List Addr}{n:Int}(h:LI CS CR CP H4 H d l f1 f2 kn pn p1 bn bs sn s)(h0:StAt CS H l.x l.dk l.B ls kn bn n)(hl:∀b∈ls,b∉l.M d)(k:Zv [l.x,l.B] H H')(hf:∀b∈ls',b∈ls\/H b=none)(e:StAt CS H' l.x l.dk l.B ls' kn bn' (n+1)):LI CS CR CP H4 H' d l f1 f2 kn pn p1 bn' bs sn s:=by
 obtain⟨dp,hp⟩:=h.pa.ho;obtain⟨dx,hx⟩:=h0.ho;obtain⟨zb,hb0,_⟩:=h0.hb;obtain⟨zb',hb',_⟩:=e.hb;have hx':H l.x=some (.ins CS dx (("known",.ref l.dk) :: [("taken",.int n),("begun",.ref l.B)])):=hx;have rk:∀{ex:List Addr},∀y ∈ [l.x,l.B],Oth (l.B::ex) H H' y:=fun{ex} y hy=>by
  simp only[List.mem_cons,List.not_mem_nil,or_false] at hy;rcases hy with rfl|rfl
  ·exact .inr ⟨_,_,_,_,_,hx',by decide⟩
  ·exact .inl ⟨by simp,_,hb'⟩
 refine⟨h.keep4 k fun b hb=>?_,h.pa.out k fun y hy=>?_,h.nr.keep k rk,h.fr.keep k rk,⟨ls',n+1,e,fun b hb z=>?_⟩,k _ _ (ZaP (fun z=>by have:=h.hc;rw[z,hx] at this;cases this) (fun z=>h.nB (by rw[<- z];simp[Lad.M]))) h.hc,h.nx,h.nB,h.fz⟩
 ·simp only[List.mem_cons,List.not_mem_nil,or_false] at hb;rcases hb with rfl|rfl <;> simp
 ·simp only[List.mem_cons,List.not_mem_nil,or_false] at hy;rcases hy with rfl|rfl
  ·exact .inr ⟨h.nx,Zdc hx' hp (by decide),_,_,_,_,_,hx',by decide⟩
  ·exact .inl ⟨by simp[Lad.O],_,hb'⟩
 ·rcases hf b hb with g|g
  ·exact hl b g z
  ·obtain⟨xs,z⟩:=h.lst b z;rw[g] at z;cases z
theorem LI.hand{sn':HS}(h:LI CS CR CP H4 H d l f1 f2 kn pn p1 bn bs sn s)(k:Zv [l.Lf,l.Tf,l.cm] H H')(e:RdE CR H' l.af l.Lf l.Tf (l.B::l.Ln::l.Tn::l.cm::d.D) f2 sn'.1)(ec:H' l.cm=some (.lst (sn'.2.2.map V.str))):LI CS CR CP H4 H' d l f1 f2 kn pn p1 bn bs sn' s:=by
 obtain⟨y1,y2,_⟩:=e.lists;have y:∀y ∈ [l.Lf,l.Tf,l.cm],(y=l.Lf\/y=l.Tf\/y=l.cm)/\∃ys,H' y=some (.lst ys):=fun y hy=>by
  simp only[List.mem_cons,List.not_mem_nil,or_false] at hy;rcases hy with rfl|rfl|rfl
  ·exact⟨.inl rfl,y1⟩
  ·exact⟨.inr (.inl rfl),y2⟩
  ·exact⟨.inr (.inr rfl),_,ec⟩
 refine⟨h.keep4 k fun b hb=>?_,h.pa.out k fun b hb=>.inl ⟨?_,(y b hb).2⟩,h.nr.keep k fun b hb=>.inl ⟨?_,(y b hb).2⟩,e,h.stk k fun b hb=>.inl ?_,ec,h.nx,h.nB,h.fz⟩ <;> rcases(y b hb).1 with rfl|rfl|rfl <;> simp[Lad.O,Lad.M]
end
structure LB(kn:Kn)(p:RS)(bs:Bg)(s:HS)(i:Nat):Prop where
 pb:p.2.length=bs.length
 bi:bs.length<=i
 ln:s.2.2.length+(ZfZ bs).length<=13*i
 tl:s.1.2.length<=s.2.2.length
 ok:OkW s.2.2
theorem LB.more{kn:Kn}{p:RS}{bs:Bg}{s:HS}{i:Nat}(h:LB kn p bs s i):LB kn p bs s (i+1):=⟨h.pb,by have:=h.bi;lia,by have:=h.ln;lia,h.tl,h.ok⟩
theorem LB.next{kn:Kn}{f1 f2:FQ}{p p':RS}{bs:Bg}{s:HS}{i:Nat}{w:Str}(h:LB kn p bs s i)(hft:FT f1)(ok:KnOk kn)(ok6:∀i t p,kn i t=some p->p.sz<=6)(so:∀b∈bs,∀x∈b.2,PyData.strOk x=true)(ht:tkF f1 p w=some p'):LB kn p' (Zbg kn bs w).2 (hdL f2 s (Zbg kn bs w).1) (i+1):=by
 obtain⟨hg,hl⟩:=Zej hft ht;have h1:=ZiZ kn bs w;have h2:=ZeS ok6 bs w;have h3:=h.pb;have h4:=h.bi;have h5:=h.ln;obtain⟨c1,c2⟩:=Zc9 f2 (Zbg kn bs w).1 s;refine⟨by rw[hl,h1,h3],?_,?_,?_,?_⟩
 ·rw[h1]
  split <;> lia
 ·rw[c1,List.length_append];lia
 ·have:=h.tl;rw[c1,List.length_append];lia
 ·have hw:PyData.strOk w=true:=hg.elim (fun z=>by rw[z.1];exact Zlm) fun z=>z.1.let0.ok;rw[c1];intro x hx;rcases List.mem_append.mp hx with hx|hx
  ·exact h.ok x hx
  ·exact(Zkl ok hw so).1 x hx
set_option maxHeartbeats 8000000 in
theorem Zlj{CS CR CP:Addr}(B:∀x∈ZbJ,mg x=none)(c_Stream:StC K CS)(c_Reader:RdC K CR)(c_Pipe:PpC K CP)(g_l_tags:Has P w K mg base "_law_tags" ["_law_cell_here"] 1 ZfI) (g_l_cell:Has P w K mg base "_law_cell" ["_law_script","_law_k"] 1 (Zdv K)) (g_l_changer:Has P w K mg base "_law_changer" ["_law_script","_law_tags_here"] 2 (Zfx K)) (g_l_shape:Has P w K mg base "_law_shape" ["_law_script","_law_at","_law_tags_here"] 2 (Zdy K)) (g_Pipe:HasC P w K mg base CP "Pipe" ["self","changer","before","behind"] 27 (ZjY CS CR CP)) (g_Reader:HasC P w K mg base CR "Reader" ["self","form"] 2 (Zcn K CR)) (g_Stream:HasC P w K mg base CS "Stream" ["self","changer"] 25 (Zch CS)) (g_l_word:Has P w K mg base "_law_word" ["_law_cell_here","_law_tags_here"] 1 Zee) (g_Reader_take:HasM P w K mg base CR "take" ["self","word"] 3 (Zdz CR)) (g_Pipe_take:HasM P w K mg base CP "take" ["self","word"] 26 (ZkF CS CR CP)) (g_l_handed:Has P w K mg base "_law_handed" ["_law_far","_law_words","_law_broke","_law_came"] 4 (Zh0 CR)) (g_Stream_take:HasM P w K mg base CS "take" ["self","word"] 25 (Zeq CS)) (g_Reader_ends_well:HasM P w K mg base CR "ends_well" ["self"] 2 (Zeh CR)) (g_l_looked:Has P w K mg base "_law_looked" ["_law_pipe","_law_came","_law_broke","_law_due","_law_order"] 4 (Zh8 CR CP)) (F:Fun K "law" "law" ZaV f fd):FnOk P w K mg base CX0 29 f fd ["_law_script"] (Zi3 K):=by
 refine F.ok ZaY (fun vs H Q E h=>?_) (fun cdv A outer s H vs Q E hr h=>?_)
 ·obtain⟨a,ns,rfl,_⟩:=h;rfl
 obtain⟨a,ns,rfl,hS,h63,q⟩:=h;have hu:=Zcz hr;refine Zq ((Ze ZaV).drop 11) (Zj (ZC Zba)) (fun u11 h11 e11=>?_);refine Zq ((Zab ((Ze ZaV).getD 10 (.Pass ⟨0,0,0,0⟩))).drop 7) (Zj (ZaL (Zbb (Z7 (Z4 g_l_looked hr rfl (Za (pv 5) (Za (pv 9) (Za (pv 10) (Za (pv 16) (Za (Zr Zat (pv 12) Zg) Zf)))))) (fun _=>rfl)))
   (Zj (ZC Zba))
   ZM)) (fun u10_7 h10_7 e10_7=>?_)
 refine Zq ((Zab ((Ze ZaV).getD 10 (.Pass ⟨0,0,0,0⟩))).drop 6) (Zc (Zt (i:=16) ZaY.nd rfl (Or.inl rfl) (Zax (Za (Za7 g_Reader_ends_well hr (pv 6) c_Reader.cls) (Za (ZcS (ZbK ZdH (pv 10) ZbR (Z2 _)) (Zd9 (Za7 g_Reader_ends_well hr (pv 8) c_Reader.cls))) Zf)))) h10_7) (fun u10_6 h10_6 e10_6=>?_);refine Zq ((Zab ((Ze ZaV).getD 10 (.Pass ⟨0,0,0,0⟩))).drop 5) (Zc (ZaL (Z7 (pv 14) (fun _=>rfl))
   (Zj (Zt (i:=10) ZaY.nd rfl (Or.inl rfl) (Z4 g_l_handed hr rfl (Za (pv 8) (Za (Zbm g_Stream_take hr (pv 7) c_Stream.cls (Za (pv 13) Zf)) (Za (pv 10) (Za (pv 9) Zf)))))))
   ZM) h10_6) (fun u10_5 h10_5 e10_5=>?_)
 refine Zq ((Zab ((Ze ZaV).getD 10 (.Pass ⟨0,0,0,0⟩))).drop 4) (Zc (ZaL (PW.pt (Zjc (Zbb (Z7 (ZF ZaN rfl (B "isinstance" (by decide)) ZaB (Za (pv 15) (Za (Zf7 rfl (B "bool" (by decide)) ZeF) Zf))) (fun _=>rfl))) (ZgU (ZQ Zll (pv 15) (pv 14) (Z2 _)))))
   (Zj (ZC Zba))
   ZM) h10_5) (fun u10_4 h10_4 e10_4=>?_)
 refine Zq ((Zab ((Ze ZaV).getD 10 (.Pass ⟨0,0,0,0⟩))).drop 3) (Zc (Zt (i:=15) ZaY.nd rfl (Or.inl rfl) (Zbm g_Pipe_take hr (pv 5) c_Pipe.cls (Za (pv 13) Zf))) h10_4) (fun u10_3 h10_3 e10_3=>?_);refine Zq ((Zab ((Ze ZaV).getD 10 (.Pass ⟨0,0,0,0⟩))).drop 2) (Zc (Zt (i:=14) ZaY.nd rfl (Or.inl rfl) (Zbm g_Reader_take hr (pv 6) c_Reader.cls (Za (pv 13) Zf))) h10_3) (fun u10_2 h10_2 e10_2=>?_);refine Zq ((Zab ((Ze ZaV).getD 10 (.Pass ⟨0,0,0,0⟩))).drop 1) (Zc (Zt (i:=13) ZaY.nd rfl (Or.inl rfl) (Z4 g_l_word hr rfl (Za (pv 12) (Za (pv 1) Zf)))) h10_2) (fun u10_1 h10_1 e10_1=>?_);refine Zq ((Zab ((Ze ZaV).getD 10 (.Pass ⟨0,0,0,0⟩))).drop 0) (Zc (Zt (i:=12) ZaY.nd rfl (Or.inl rfl) (Zr ZV (Z4 g_l_cell hr rfl (Za (pv 0) (Za (Zr ZaZ Zg (pv 11)) Zf))) (Zr ZhW Zg Zg))) h10_1) (fun u10_0 h10_0 e10_0=>?_);refine Zq ((Ze ZaV).drop 10) (Zc (Zbc PassesOwn.never rfl (ZaW rfl (B "range" (by decide)) (Za Zg Zf)) (Zu (i:=11) ZaY.nd rfl (Or.inl rfl))
   h10_0) h11) (fun u10 h10 e10=>?_)
 refine Zq ((Ze ZaV).drop 9) (Zc (Zt (i:=10) ZaY.nd rfl (Or.inl rfl) ZbR) h10) (fun u9 h9 e9=>?_);refine Zq ((Ze ZaV).drop 8) (Zc (Zt (i:=9) ZaY.nd rfl (Or.inl rfl) (ZaH Zf)) h9) (fun u8 h8 e8=>?_);refine Zq ((Ze ZaV).drop 7) (Zc (Zt (i:=8) ZaY.nd rfl (Or.inl rfl) (Zcd g_Reader hr rfl (Za (pv 4) Zf))) h8) (fun u7 h7 e7=>?_);refine Zq ((Ze ZaV).drop 6) (Zc (Zt (i:=7) ZaY.nd rfl (Or.inl rfl) (Zcd g_Stream hr rfl (Za (pv 2) Zf))) h7) (fun u6 h6 e6=>?_);refine Zq ((Ze ZaV).drop 5) (Zc (Zt (i:=6) ZaY.nd rfl (Or.inl rfl) (Zcd g_Reader hr rfl (Za (pv 3) Zf))) h6) (fun u5 h5 e5=>?_);refine Zq ((Ze ZaV).drop 4) (Zc (Zt (i:=5) ZaY.nd rfl (Or.inl rfl) (Zcd g_Pipe hr rfl (Za (pv 2) (Za (pv 3) (Za (pv 4) Zf))))) h5) (fun u4 h4 e4=>?_);refine Zq ((Ze ZaV).drop 3) (Zc (Zt (i:=4) ZaY.nd rfl (Or.inl rfl) (Z4 g_l_shape hr rfl (Za (pv 0) (Za Zg (Za (pv 1) Zf))))) h4) (fun u3 h3 e3=>?_);refine Zq ((Ze ZaV).drop 2) (Zc (Zt (i:=3) ZaY.nd rfl (Or.inl rfl) (Z4 g_l_shape hr rfl (Za (pv 0) (Za Zg (Za (pv 1) Zf))))) h3) (fun u2 h2 e2=>?_);refine Zq ((Ze ZaV).drop 1) (Zc (Zt (i:=2) ZaY.nd rfl (Or.inl rfl) (Z4 g_l_changer hr rfl (Za (pv 0) (Za (pv 1) Zf)))) h2) (fun u1 h1 e1=>?_);refine Zq ((Ze ZaV).drop 0) (Zc (Zt (i:=1) ZaY.nd rfl (Or.inl rfl) (Z4 g_l_tags hr rfl (Za (Zr ZV (Z4 g_l_cell hr rfl (Za (pv 0) (Za Zg Zf))) (Zr ZhW Zg Zg)) Zf))) h1) (fun u0 h0 e0=>?_);refine⟨u0,h0,?_⟩;refine Zo e0 ?_;refine⟨_,rfl,a,ns,62,rfl,hS,h63,by decide,by decide,fun v1=>?_⟩;have w0:=Int.emod_nonneg v1 (by decide:((10:Int) ^ (9:Int).toNat)≠0);have w1:=Int.emod_lt_of_pos v1 (by decide:(0:Int)<((10:Int) ^ (9:Int).toNat));refine⟨_,_,rfl,rfl,⟨by decide,by decide,by decide⟩,_,_,rfl,rfl,(by show(0:Int)<10 ^ 9;decide),_,rfl,w0,w1,fun tg ts H1 s1 _ htg ht3 htt=>?_⟩;have tso:∀t∈ts,PyData.strOk t=true:=fun t ht=>(htt t ht).1.let0.ok;show u1 _ _ _;refine Zo e1 ?_;refine⟨_,rfl,_,rfl,a,tg,ns,ts,rfl,s1.seq hS,h63,htg,ht3,fun rc rp H2 s2 hrc hrp=>?_⟩;have s12:=s1.trans s2;show u2 _ _ _;refine Zo e2 ?_;refine⟨_,rfl,_,rfl,a,tg,ns,0,ts,rfl,s12.seq hS,h63,by decide,by decide,s2 _ _ htg,ht3,htt,fun o1 f1 H3 s3 hf1 ok1 ft1=>?_⟩;have s13:=s12.trans s3;show u3 _ _ _;refine Zo e3 ?_;refine⟨_,rfl,_,rfl,a,tg,ns,10,ts,rfl,s13.seq hS,h63,by decide,by decide,s3 _ _ (s2 _ _ htg),ht3,htt,fun o2 f2 H4 s4 hf2 ok2 _=>?_⟩;have s14:=s13.trans s4;have hS4:=s14.seq hS;have htg4:=s4 _ _ (s3 _ _ (s2 _ _ htg));have hrc4:=hrc.tk (s3.trans s4).tk;have hf14:=hf1.same s4;have hrp':∀r∈rp,r.2.2.nk<=1/\∀x∈r.2.2.tags,PyData.strOk x=true:=fun r hr1=>⟨(hrp r hr1).1,fun x hx=>tso x ((hrp r hr1).2.2 x hx)⟩;have kn6:∀i t p,ZeC rp i t=some p->p.sz<=6:=fun i t p e=>by
  obtain⟨r,hr1,_,_,rfl⟩:=Zel e;exact(hrp r hr1).2.1
 show u4 _ _ _;refine Zo e4 ?_;refine⟨_,rfl,_,rfl,_,rfl,fun pp dpp hpp hdpp _=>?_⟩;have sp:Zk H4 (upd (upd H4 dpp (.own pp)) pp (.ins CP dpp [])):=(Zk.new hdpp).upd_new hpp;refine⟨pp,rc,o1,o2,dpp,rp,f1,f2,rfl,Zb,hrc4.tk sp.tk,hrp',hf14.same sp,ok1,hf2.same sp,ok2,fun H5 d q1 q2 k5 hdp hdf hi1 hi2 hPa=>⟨rfl,?_⟩⟩;have s5:Zk H4 H5:=made hpp hdpp fun b o hb e=>k5 b o (fun z=>hb (List.mem_singleton.mp z)) e;have fzP:∀b ∈ [d.x,d.Bl,d.L1,d.T1,d.L2,d.T2,d.tl],H4 b=none:=fun b hb=>Zbo (hdf b hb);subst hdp;have hD5:∀b∈d.D,∃xs,H5 b=some (.lst xs):=fun b hb=>by
  simp only[Pad.D,List.mem_cons,List.not_mem_nil,or_false] at hb;rcases hb with rfl|rfl|rfl|rfl|rfl|rfl
  ·exact(hPa.r1.lists.2.2 _ (by simp)).2.2
  ·exact hPa.outL _ (by simp)
  ·exact hPa.outL _ (by simp)
  ·exact hPa.outL _ (by simp)
  ·exact hPa.outL _ (by simp)
  ·exact hPa.outL _ (by simp)
 clear k5 hdf sp;show u5 _ _ _;refine Zo e5 ?_;refine⟨_,rfl,fun an dan han hdan _=>ZiQ han hdan (hf14.same s5) ok1 fun H6 Ln Tn q1' s6 hLn hTn hin hnr=>⟨rfl,?_⟩⟩;obtain rfl:=Zhv hi1 hin
 replace hnr:=hnr d.D hD5
 have s56:=s5.trans s6;show u6 _ _ _;refine Zo e6 ?_;refine⟨_,rfl,fun sx dsx hsx hdsx _=>ZkY hsx hdsx (hrc4.tk s56.tk) hrp' fun H7 dk Bn s7 hdk hBn hst=>⟨rfl,?_⟩⟩;have s57:=s56.trans s7;have hB7:∃xs,H7 Bn=some (.lst xs):=by
  obtain⟨zs,z,_⟩:=hst.hb;exact⟨zs,z⟩
 have hnr7:RdE CR H7 an Ln Tn (Bn::d.D) f1 q1:=hnr.wide s7 fun b hb=>by
  rcases List.mem_cons.mp hb with rfl|hb
  ·exact .inr ⟨hBn,hB7⟩
  ·exact .inl hb
 have hL7:=hnr7.lists;show u7 _ _ _;refine Zo e7 ?_;refine⟨_,rfl,fun af daf haf hdaf _=>ZiQ haf hdaf (hf2.same s57) ok2 fun H8 Lf Tf q2' s8 hLf hTf hif hfr=>⟨rfl,?_⟩⟩;obtain rfl:=Zhv hi2 hif
 replace hfr:=hfr (Bn::Ln::Tn::d.D) fun b hb=>by
  simp only[List.mem_cons] at hb;rcases hb with rfl|rfl|rfl|hb
  ·exact hB7
  ·exact hL7.1
  ·exact hL7.2.1
  ·exact(hL7.2.2 b (List.mem_cons_of_mem _ hb)).2.2
 have s58:=s57.trans s8;show u8 _ _ _;refine Zo e8 ?_;refine⟨by decide,fun cm hcm=>?_⟩;have s9:Zk H8 (upd H8 cm (.lst [])):=Zk.new hcm;have ecm:(upd H8 cm (.lst [])) cm=some (.lst []):=Zb;generalize upd H8 cm (.lst [])=H9 at s9 ecm ⊢;have s59:=s58.trans s9;have hF8:=hfr.lists;have hLf9:∃ys,H9 Lf=some (.lst ys):=let ⟨ys,e⟩:=hF8.1;⟨ys,s9 _ _ e⟩;have hTf9:∃ys,H9 Tf=some (.lst ys):=let ⟨ys,e⟩:=hF8.2.1;⟨ys,s9 _ _ e⟩;have fz7:∀{b:Addr},H8 b=none->H7 b=none:=fun{b} e=>s8.free e;have I0:LI CS CR CP H4 H9 d ⟨an,Ln,Tn,sx,dk,Bn,af,Lf,Tf,cm⟩ f1 f2 (ZeC rp) q1 q1 [] [] (q2,none,[]) (q2,none,[]):=by
  refine⟨s59,hPa.wide (s6.trans (s7.trans (s8.trans s9))) fun b hb=>.inr ?_,hnr7.wide (s8.trans s9) fun b hb=>?_,hfr.wide s9 fun b hb=>?_,⟨[],0,Fg.StAt.same hst (s8.trans s9),fun _ h=>nomatch h⟩,ecm,fun z=>?_,fun z=>?_,fun b hb=>?_⟩
  ·simp only[Lad.O,List.mem_cons,List.not_mem_nil,or_false] at hb;rcases hb with rfl|rfl|rfl|rfl|rfl|rfl
   ·exact⟨hLn,let ⟨ys,e⟩:=hL7.1;⟨ys,s9 _ _ (s8 _ _ e)⟩⟩
   ·exact⟨hTn,let ⟨ys,e⟩:=hL7.2.1;⟨ys,s9 _ _ (s8 _ _ e)⟩⟩
   ·exact⟨s6.free hBn,let ⟨ys,e⟩:=hB7;⟨ys,s9 _ _ (s8 _ _ e)⟩⟩
   ·exact⟨s6.free (s7.free hLf),hLf9⟩
   ·exact⟨s6.free (s7.free hTf),hTf9⟩
   ·exact⟨s6.free (s7.free (fz7 hcm)),_,ecm⟩
  ·simp only[List.mem_cons] at hb;rcases hb with rfl|rfl|rfl|rfl|hb
   ·exact .inl (by simp)
   ·exact .inr ⟨hLf,hLf9⟩
   ·exact .inr ⟨hTf,hTf9⟩
   ·exact .inr ⟨fz7 hcm,_,ecm⟩
   ·exact .inl (by simp[hb])
  ·simp only[List.mem_cons] at hb;rcases hb with rfl|rfl|rfl|rfl|hb
   ·exact .inl (by simp)
   ·exact .inl (by simp)
   ·exact .inl (by simp)
   ·exact .inr ⟨hcm,_,ecm⟩
   ·exact .inl (by simp[hb])
  ·have z:sx=d.x:=z;obtain⟨_,_,hs',_⟩:=hPa.st;obtain⟨dx',hx'⟩:=hs'.ho;rw[z,s6 _ _ hx'] at hsx;cases hsx
  ·simp only[Lad.M,List.mem_cons] at z;obtain⟨zb,hzb⟩:=hB7;have nz:∀{b:Addr},H7 b=none->Bn≠b:=fun{b} e z=>by rw[z,e] at hzb;cases hzb
   have nz6:∀{b:Addr}{xs:List V},H6 b=some (.lst xs)->Bn≠b:=fun{b xs} e z=>by rw[z,e] at hBn;cases hBn
   obtain⟨⟨_,g1⟩,⟨_,g2⟩,g3⟩:=hnr.lists;rcases z with z|z|z|z|z|z
   ·exact nz6 g1 z
   ·exact nz6 g2 z
   ·exact nz hLf z
   ·exact nz hTf z
   ·exact nz (fz7 hcm) z
   ·obtain⟨_,_,_,g⟩:=g3 _ z;exact nz6 g rfl
  ·have f5:∀{b:Addr},H5 b=none->H4 b=none:=fun{b} e=>s5.free e;simp only[Lad.M,List.mem_cons] at hb;rcases hb with rfl|rfl|rfl|rfl|rfl|rfl|rfl|rfl|rfl|hb
   ·exact f5 (s6.free hsx)
   ·exact f5 (s6.free hBn)
   ·exact fzP _ (by simp)
   ·exact hpp
   ·exact f5 hLn
   ·exact f5 hTn
   ·exact f5 (s6.free (s7.free hLf))
   ·exact f5 (s6.free (s7.free hTf))
   ·exact f5 (s6.free (s7.free (fz7 hcm)))
   ·exact fzP _ (by simp only[Pad.D] at hb;simp only[List.mem_cons,List.not_mem_nil,or_false] at hb ⊢;exact .inr hb)
 generalize hl:(⟨an,Ln,Tn,sx,dk,Bn,af,Lf,Tf,cm⟩:Lad)=l at I0;have B0:LB (ZeC rp) q1 [] (q2,none,[]) 0:=by
  obtain⟨_,_,_,rfl⟩:=hi1;obtain⟨_,_,_,rfl⟩:=hi2;exact⟨rfl,Nat.le_refl _,Nat.le_refl _,Nat.le_refl _,fun _ h=>nomatch h⟩
 have ea:(⟨an,Ln,Tn,sx,dk,Bn,af,Lf,Tf,cm⟩:Lad).an=l.an/\(⟨an,Ln,Tn,sx,dk,Bn,af,Lf,Tf,cm⟩:Lad).x=l.x/\(⟨an,Ln,Tn,sx,dk,Bn,af,Lf,Tf,cm⟩:Lad).af=l.af/\(⟨an,Ln,Tn,sx,dk,Bn,af,Lf,Tf,cm⟩:Lad).cm=l.cm:=by rw[hl];exact⟨rfl,rfl,rfl,rfl⟩
 obtain⟨ea1,ea2,ea3,ea4⟩:=ea;have ea1:an=l.an:=ea1;have ea2:sx=l.x:=ea2;have ea3:af=l.af:=ea3;have ea4:cm=l.cm:=ea4;clear hl hnr hnr7 hfr hst ecm s9 hcm hL7 hF8 hLf9 hTf9 fz7 hB7 hi1 hi2 hin hif hD5 fzP hPa;show u9 _ _ _;refine Zo e9 ?_;show u10 _ _ _;refine Zo e10 ?_;refine⟨30,rfl,by decide,by decide,Zbx (lo:=0) (n:=30) (fun i σ HH=>∃(p:RS)(bs:Bg)(hs:HS)(v11 v12 v13 v14 v15 v16:Option V),σ =[some (.ref a),some (.ref tg),some (.ref rc),some (.ref o1),some (.ref o2),some (.ref d.pp),some (.ref l.an),some (.ref l.x),some (.ref l.af),some (.ref l.cm),some (brV hs.2.1),v11,v12,v13,v14,v15,v16]/\LI CS CR CP H4 HH d l f1 f2 (ZeC rp) p p bs bs hs hs/\LB (ZeC rp) p bs hs i)
  ⟨q1,[],(q2,none,[]),none,none,none,none,none,none,by rw[<- ea1,<- ea2,<- ea3,<- ea4];rfl,I0,B0⟩ ?_ ?_⟩
 ·rintro i σ HH hi ⟨p,bs,hs,v11,v12,v13,v14,v15,v16,rfl,I1,B1⟩;have hbi:=B1.bi;have hln:=B1.ln;have htl:=B1.tl;have hpb:=B1.pb;refine Zo e10_0 ?_;refine⟨_,rfl,_,rfl,_,_,rfl,rfl,a,ns,_,rfl,I1.sm.seq hS4,h63,by lia,by lia,fun v=>?_⟩;refine⟨_,_,rfl,rfl,⟨by decide,by decide,by decide⟩,_,_,rfl,rfl,(by show(0:Int)<10 ^ 9;decide),?_⟩;obtain⟨wv,hwv⟩:∃wv,v % (10:Int) ^ (9:Int).toNat=wv:=⟨_,rfl⟩;show u10_1 _ [_,_,_,_,_,_,_,_,_,_,_,_,some (V.int (v % (10:Int) ^ (9:Int).toNat)),_,_,_,_] _;rw[hwv];refine Zo e10_1 ?_;refine⟨_,rfl,_,rfl,_,tg,ts,rfl,I1.sm _ _ htg4,ht3,(fun t ht=>(htt t ht).2),fun wd HW sW=>?_⟩
  replace I1:=I1.same sW
  have tail:∀(D:Ends),(∀ σ H5,(∃(p:RS)(bs:Bg)(hs:HS)(v11 v12 v13 v14 v15 v16:Option V),σ =[some (.ref a),some (.ref tg),some (.ref rc),some (.ref o1),some (.ref o2),some (.ref d.pp),some (.ref l.an),some (.ref l.x),some (.ref l.af),some (.ref l.cm),some (brV hs.2.1),v11,v12,v13,v14,v15,v16]/\LI CS CR CP H4 H5 d l f1 f2 (ZeC rp) p p bs bs hs hs/\LB (ZeC rp) p bs hs (i+1))->D.nx σ H5)->∀(p:RS)(bs:Bg)(hs:HS)(H5:Hp)(v14 v15:Option V),LI CS CR CP H4 H5 d l f1 f2 (ZeC rp) p p bs bs hs hs->LB (ZeC rp) p bs hs (i+1)->u10_6 D [some (.ref a),some (.ref tg),some (.ref rc),some (.ref o1),some (.ref o2),some (.ref d.pp),some (.ref l.an),some (.ref l.x),some (.ref l.af),some (.ref l.cm),some (brV hs.2.1),some (.int (0+(i:Int))),some (.int wv),some (.str wd),v14,v15,v16] H5:=by
   intro D hD p bs hs H5 v14 v15 I5 B5;refine Zo e10_6 ?_;obtain⟨dy,_,_,_,hy⟩:=I5.nr.obj;obtain⟨R1,lv1,l1,hR1,_,_,wl1⟩:=I5.nr.opn;refine⟨_,rfl,l.an,dy,_,rfl,hy,rfl,l.an,l.Ln,l.Tn,_,f1,R1,lv1,l1,p.2,rfl,hR1,fun b1 H6 s6 hb1=>?_⟩
   replace hb1:=hb1.trans wl1
   have I6:=I5.same s6;have fin:∀(b2:Bool)(H7:Hp),Zk H6 H7->(b2=true↔hs.2.1=none/\WlF f2 hs.1)->([V.bl b1,V.bl b2]:List V).length<=sizeLine/\∀du,H7 du=none->u10_7 D [some (.ref a),some (.ref tg),some (.ref rc),some (.ref o1),some (.ref o2),some (.ref d.pp),some (.ref l.an),some (.ref l.x),some (.ref l.af),some (.ref l.cm),some (brV hs.2.1),some (.int (0+(i:Int))),some (.int wv),some (.str wd),v14,v15,some (.ref du)] (upd H7 du (.tup [.bl b1,.bl b2])):=fun b2 H7 s7 hb2=>⟨by show(2:Nat)<=sizeLine;decide,fun du hdu=>by
    have I7:=I6.same (s7.trans (Zk.new (o:=.tup [.bl b1,.bl b2]) hdu));have hd7:(upd H7 du (.tup [.bl b1,.bl b2])) du=some (.tup [.bl b1,.bl b2]):=Zb;generalize upd H7 du (.tup [.bl b1,.bl b2])=H8 at I7 hd7 ⊢;refine Zo e10_7 ?_;obtain⟨dp,hp⟩:=I7.pa.ho;refine⟨_,rfl,_,rfl,_,rfl,_,rfl,_,rfl,_,_,rfl,rfl,⟨by decide,by decide⟩,d.pp,dp,d.x,d.y,d.z,d.tl,d.L1,d.T1,d.L2,d.T2,l.cm,du,_,_,f1,f2,p,hs,_,b1,b2,rfl,hp,I7.pa.r1,I7.pa.r2,I7.pa.ht,I7.hc,B5.ok,hd7,⟨hb1,hb2⟩,fun H9 s9=>⟨true,rfl,Zbu (hD _ _ ⟨p,bs,hs,_,_,_,_,_,_,rfl,I7.same s9,B5⟩)⟩⟩⟩
   refine⟨_,rfl,rfl,_,rfl,?_⟩;cases hb:hs.2.1 with
   | some m =>
    refine ZbX (fun c=>by have:=of_decide_eq_true c;cases this) fun _=>?_;have:=fin false H6 (Zk.refl _) ⟨fun z=>(nomatch z),fun z=>by rw[hb] at z;exact nomatch z.1⟩
    rw[hb] at this;exact this
   | none =>
    refine ZbX (fun _=>?_) fun c=>absurd (decide_eq_true rfl) c;obtain⟨dz,_,_,_,hz⟩:=I6.fr.obj;obtain⟨R2,lv2,l2,hR2,_,_,wl2⟩:=I6.fr.opn;refine⟨_,rfl,l.af,dz,_,rfl,hz,rfl,l.af,l.Lf,l.Tf,_,f2,R2,lv2,l2,hs.1.2,rfl,hR2,fun b2 H7 s7 hb2=>?_⟩;have:=fin b2 H7 s7 ((hb2.trans wl2).trans ⟨fun z=>⟨hb,z⟩,fun z=>z.2⟩);rw[hb] at this;exact this
  show u10_2 _ _ _;refine Zo e10_2 ?_;obtain⟨dy,_,_,_,hy⟩:=I1.nr.obj;obtain⟨R1,lv1,l1,hR1,tn1,ts1,_⟩:=I1.nr.opn;have hstl:=ZeS kn6 bs wd;refine⟨_,rfl,l.an,dy,_,rfl,hy,rfl,_,rfl,l.an,l.Ln,l.Tn,_,f1,R1,lv1,l1,p.2,wd,rfl,hR1,by lia,fun H5 s5 hn=>?_,fun H5 lv' tg' k5 hr5 hs5=>?_⟩
  ·-- not taken
   replace hn:=tn1 wd hn
   have I5:=I1.same s5;show u10_3 _ _ _;refine Zo e10_3 ?_;obtain⟨dp,hp⟩:=I5.pa.ho;refine⟨_,rfl,d.pp,dp,_,rfl,hp,rfl,_,rfl,l.O,d,f1,f2,ZeC rp,p,bs,hs,wd,rfl,I5.pa,ft1,hpb,by lia,by lia,htl,(fun _ H6 s6=>?_),fun p' z=>by rw[hn] at z;cases z⟩;show u10_4 _ _ _;refine Zo e10_4 ?_;refine⟨_,rfl,.bl false,"bool",.type "bool",true,rfl,.bl false,rfl,true,rfl,Zbu ?_⟩;refine⟨_,rfl,_,rfl,rfl,_,rfl,ZbX (fun c=>absurd c (by decide)) fun _=>?_⟩;show u10_5 _ _ _;refine Zo e10_5 ?_;refine⟨_,rfl,false,rfl,Zbu ?_⟩;show u10_6 _ _ _;refine tail _ ?_ p bs hs H6 _ _ (I5.same s6) B1.more;exact fun _ _ h=>h
  ·-- taken
   have ht:=ts1 wd lv' tg' hs5;have hr5':RdE CR H5 l.an l.Ln l.Tn _ f1 (lv',tg'):=⟨R1,hr5⟩;generalize ((lv',tg'):RS)=p' at ht hr5';have I5:=I1.near k5 hr5';obtain⟨hgood,_⟩:=Zej ft1 ht;have hgood':(wd=SL/\bs ≠ [])\/(ZdQ wd/\wd.length<=8):=hgood.imp (fun⟨a,b⟩=>⟨a,fun z=>b (List.eq_nil_of_length_eq_zero (by rw[hpb,z];rfl))⟩) id;show u10_3 _ _ _;refine Zo e10_3 ?_;obtain⟨dp,hp⟩:=I5.pa.ho;refine⟨_,rfl,d.pp,dp,_,rfl,hp,rfl,_,rfl,l.O,d,f1,f2,ZeC rp,p,bs,hs,wd,rfl,I5.pa,ft1,hpb,by lia,by lia,htl,(fun z=>by rw[ht] at z;cases z),fun p2 z H6 k6 hP6=>?_⟩;obtain rfl:p'=p2:=by
    rw[ht] at z;injection z
   have I6:=I5.pipe k6 hP6;show u10_4 _ _ _;refine Zo e10_4 ?_;refine⟨_,rfl,.bl true,"bool",.type "bool",true,rfl,.bl true,rfl,true,rfl,Zbu ?_⟩;refine⟨_,rfl,_,rfl,rfl,_,rfl,ZbX (fun c=>absurd c (by decide)) fun _=>?_⟩;show u10_5 _ _ _;refine Zo e10_5 ?_;refine⟨_,rfl,true,rfl,Zci ?_⟩;obtain⟨ls,n,hst,hls⟩:=I6.st;obtain⟨dx,hx⟩:=hst.ho;refine⟨_,rfl,_,rfl,l.x,dx,_,rfl,hx,rfl,_,rfl,l.x,l.dk,l.B,ls,ZeC rp,bs,n,wd,rfl,hst,by lia,hgood',fun r ls' H7 k7 hrf hlf hrn er hst7=>?_⟩;have I7:=I6.stm hst hls k7 hlf hst7;have hr3:r ∉ [l.Lf,l.Tf,l.cm]:=fun z=>by
    have zM:r∈l.M d:=by
     simp only[List.mem_cons,List.not_mem_nil,or_false] at z;rcases z with rfl|rfl|rfl <;> simp[Lad.M]
    rcases hrf with g|g
    ·obtain⟨xs,e⟩:=I6.lst r zM;rw[g] at e;cases e
    ·exact hls r g zM
   refine⟨_,rfl,_,rfl,l.af,l.Lf,l.Tf,r,l.cm,_,f2,hs,_,rfl,I7.fr,er,I7.hc,by simp,hr3,by lia,htl,fun H8 k8 hr8 ec8=>?_⟩;show u10_6 _ _ _;refine tail _ ?_ p' _ _ H8 _ _ (I7.hand k8 hr8 ec8) (B1.next ft1 hst.ok kn6 hst.so ht)
   exact fun _ _ h=>h
 ·rintro σ HH ⟨p,bs,hs,v11,v12,v13,v14,v15,v16,rfl,I1,B1⟩;show u11 _ _ _;refine Zo e11 ?_;exact q HH
end
theorem ZkP{l:PySem.W.OpenLaw}{w:World}{K:PySem.W.Frag}{h:Heap}{mg:Str->Option Value}{fa f1 f2 f3 f4 f5 f6 f7 f8 f9 f10 f11 f12 f13 f14 f15 f16 f17 f18 f19 f20 f21 f22 f23 f24 f25 f26 f27 f28 f29 f30 f31 f32 f33 f34 f35:Addr}(X:K.In h)(G:h.Ns mainGlobals mg)(hfa:mg "law" = some (.ref fa))
  {od1 an1 od2 an2 od3 an3 od4 an4 od5 an5 od6 an6 od7 an7 od8 an8 od9 an9 od10 an10 od11 an11 od12 an12 od13 an13 od14 an14 od15 an15 od16 an16 od17 an17 od18 an18 od19 an19 od20 an20 od21 an21 od22 an22 od23 an23 od24 an24 od25 an25 od26 an26 od27 an27 od28 an28 od29 an29 od30 an30 od31 an31 od32 an32 od33 an33 od34 an34 od35 an35:Option Addr} {sl1 sl2 sl3 sl4 sl5 sl6 sl7 sl8 sl9 sl10 sl11 sl12 sl13 sl14 sl15 sl16 sl17 sl18 sl19 sl20 sl21 sl22 sl23 sl24 sl25 sl26 sl27 sl28 sl29 sl30 sl31 sl32 sl33 sl34 sl35:Array (Option Value)} {oc1 kV1 dc1 pm1 cd1 ct1 oc2 kV2 dc2 pm2 cd2 ct2 oc3 kV3 dc3 pm3 cd3 ct3 oc4 kV4 dc4 pm4 cd4 ct4 oc5 kV5 dc5 pm5 cd5 ct5 oc6 kV6 dc6 pm6 cd6 ct6 oc7 kV7 dc7 pm7 cd7 ct7 oc8 kV8 dc8 pm8 cd8 ct8 oc9 kV9 dc9 pm9 cd9 ct9 oc10 kV10 dc10 pm10 cd10 ct10 oc11 kV11 dc11 pm11 cd11 ct11 oc12 kV12 dc12 pm12 cd12 ct12 oc13 kV13 dc13 pm13 cd13 ct13 oc14 kV14 dc14 pm14 cd14 ct14 oc15 kV15 dc15 pm15 cd15 ct15 oc16 kV16 dc16 pm16 cd16 ct16 oc17 kV17 dc17 pm17 cd17 ct17 oc18 kV18 dc18 pm18 cd18 ct18 oc19 kV19 dc19 pm19 cd19 ct19 oc20 kV20 dc20 pm20 cd20 ct20 oc21 kV21 dc21 pm21 cd21 ct21 oc22 kV22 dc22 pm22 cd22 ct22 oc23 kV23 dc23 pm23 cd23 ct23 oc24 kV24 dc24 pm24 cd24 ct24 oc25 kV25 dc25 pm25 cd25 ct25 oc26 kV26 dc26 pm26 cd26 ct26 oc27 kV27 dc27 pm27 cd27 ct27 oc28 kV28 dc28 pm28 cd28 ct28 oc29 kV29 dc29 pm29 cd29 ct29 oc30 kV30 dc30 pm30 cd30 ct30 oc31 kV31 dc31 pm31 cd31 ct31 oc32 kV32 dc32 pm32 cd32 ct32 oc33 kV33 dc33 pm33 cd33 ct33 oc34 kV34 dc34 pm34 cd34 ct34 oc35 kV35 dc35 pm35 cd35 ct35:Value}
  {C_Stream C_Reader C_Pipe:Addr}
  (cn1:PySem.W.nsIn K mainGlobals "Stream" = some (some (.ref C_Stream))) (cp1:PySem.W.plainGet K C_Stream Str.empty=true) (ch1:PySem.W.hasDictIn K C_Stream=true) (cq1:PySem.W.plainOver K C_Stream=true) (cs1:PySem.W.findIn K (.ref C_Stream) "__setattr__" = some (some (.builtin "object.__setattr__"))) (cm1:PySem.W.makesIn K C_Stream=true) (ck1:PySem.W.keepIn K (.ref C_Stream)=true)
  (cx1_0:PySem.W.findIn K (.ref C_Stream) "known" = some none)
  (cx1_1:PySem.W.findIn K (.ref C_Stream) "taken" = some none)
  (cx1_2:PySem.W.findIn K (.ref C_Stream) "begun" = some none)
  (cn2:PySem.W.nsIn K mainGlobals "Reader" = some (some (.ref C_Reader))) (cp2:PySem.W.plainGet K C_Reader Str.empty=true) (ch2:PySem.W.hasDictIn K C_Reader=true) (cq2:PySem.W.plainOver K C_Reader=true) (cs2:PySem.W.findIn K (.ref C_Reader) "__setattr__" = some (some (.builtin "object.__setattr__"))) (cm2:PySem.W.makesIn K C_Reader=true) (ck2:PySem.W.keepIn K (.ref C_Reader)=true)
  (cx2_0:PySem.W.findIn K (.ref C_Reader) "form" = some none)
  (cx2_1:PySem.W.findIn K (.ref C_Reader) "final" = some none)
  (cx2_2:PySem.W.findIn K (.ref C_Reader) "ways" = some none)
  (cx2_3:PySem.W.findIn K (.ref C_Reader) "levels" = some none)
  (cx2_4:PySem.W.findIn K (.ref C_Reader) "tags" = some none)
  (cn3:PySem.W.nsIn K mainGlobals "Pipe" = some (some (.ref C_Pipe))) (cp3:PySem.W.plainGet K C_Pipe Str.empty=true) (ch3:PySem.W.hasDictIn K C_Pipe=true) (cq3:PySem.W.plainOver K C_Pipe=true) (cs3:PySem.W.findIn K (.ref C_Pipe) "__setattr__" = some (some (.builtin "object.__setattr__"))) (cm3:PySem.W.makesIn K C_Pipe=true) (ck3:PySem.W.keepIn K (.ref C_Pipe)=true)
  (cx3_0:PySem.W.findIn K (.ref C_Pipe) "stream" = some none)
  (cx3_1:PySem.W.findIn K (.ref C_Pipe) "first" = some none)
  (cx3_2:PySem.W.findIn K (.ref C_Pipe) "second" = some none)
  (cx3_3:PySem.W.findIn K (.ref C_Pipe) "told" = some none)
  (cx3_4:PySem.W.findIn K (.ref C_Pipe) "broken_at" = some none)
  (a1:PySem.W.nsIn K mainGlobals "_law_tags" = some (some (.ref f1))) (l1:K.lookup f1=some ⟨oc1,od1,.func (PySem.W.fnOf "_law_tags" "_law_tags" (Zx Zal) (Ze Zal) (Zh Zal) .none kV1 dc1 pm1 an1 cd1 ct1),sl1⟩) (c1:PySem.W.codeIn K cd1 "_law_tags" = true) (k1:PySem.W.keepIn K (.ref f1)=true)
  (a2:PySem.W.nsIn K mainGlobals "_law_cell" = some (some (.ref f2))) (l2:K.lookup f2=some ⟨oc2,od2,.func (PySem.W.fnOf "_law_cell" "_law_cell" (Zx ZbV) (Ze ZbV) (Zh ZbV) .none kV2 dc2 pm2 an2 cd2 ct2),sl2⟩) (c2:PySem.W.codeIn K cd2 "_law_cell" = true) (k2:PySem.W.keepIn K (.ref f2)=true)
  (a3:PySem.W.nsIn K mainGlobals "_law_parts" = some (some (.ref f3))) (l3:K.lookup f3=some ⟨oc3,od3,.func (PySem.W.fnOf "_law_parts" "_law_parts" (Zx Zy) (Ze Zy) (Zh Zy) .none kV3 dc3 pm3 an3 cd3 ct3),sl3⟩) (c3:PySem.W.codeIn K cd3 "_law_parts" = true) (k3:PySem.W.keepIn K (.ref f3)=true)
  (a4:PySem.W.nsIn K mainGlobals "_law_changer" = some (some (.ref f4))) (l4:K.lookup f4=some ⟨oc4,od4,.func (PySem.W.fnOf "_law_changer" "_law_changer" (Zx ZX) (Ze ZX) (Zh ZX) .none kV4 dc4 pm4 an4 cd4 ct4),sl4⟩) (c4:PySem.W.codeIn K cd4 "_law_changer" = true) (k4:PySem.W.keepIn K (.ref f4)=true)
  (a5:PySem.W.nsIn K mainGlobals "_law_pick" = some (some (.ref f5))) (l5:K.lookup f5=some ⟨oc5,od5,.func (PySem.W.fnOf "_law_pick" "_law_pick" (Zx ZbW) (Ze ZbW) (Zh ZbW) .none kV5 dc5 pm5 an5 cd5 ct5),sl5⟩) (c5:PySem.W.codeIn K cd5 "_law_pick" = true) (k5:PySem.W.keepIn K (.ref f5)=true)
  (a6:PySem.W.nsIn K mainGlobals "_law_shape" = some (some (.ref f6))) (l6:K.lookup f6=some ⟨oc6,od6,.func (PySem.W.fnOf "_law_shape" "_law_shape" (Zx ZS) (Ze ZS) (Zh ZS) .none kV6 dc6 pm6 an6 cd6 ct6),sl6⟩) (c6:PySem.W.codeIn K cd6 "_law_shape" = true) (k6:PySem.W.keepIn K (.ref f6)=true)
  (a7:PySem.W.nsIn K mainGlobals "all_parts" = some (some (.ref f7))) (l7:K.lookup f7=some ⟨oc7,od7,.func (PySem.W.fnOf "all_parts" "all_parts" (Zx Za3) (Ze Za3) (Zh Za3) .none kV7 dc7 pm7 an7 cd7 ct7),sl7⟩) (c7:PySem.W.codeIn K cd7 "all_parts" = true) (k7:PySem.W.keepIn K (.ref f7)=true)
  (a8:PySem.W.nsIn K mainGlobals "kids_in" = some (some (.ref f8))) (l8:K.lookup f8=some ⟨oc8,od8,.func (PySem.W.fnOf "kids_in" "kids_in" (Zx Zbz) (Ze Zbz) (Zh Zbz) .none kV8 dc8 pm8 an8 cd8 ct8),sl8⟩) (c8:PySem.W.codeIn K cd8 "kids_in" = true) (k8:PySem.W.keepIn K (.ref f8)=true)
  (a9:PySem.W.nsIn K mainGlobals "straight" = some (some (.ref f9))) (l9:K.lookup f9=some ⟨oc9,od9,.func (PySem.W.fnOf "straight" "straight" (Zx Zbk) (Ze Zbk) (Zh Zbk) .none kV9 dc9 pm9 an9 cd9 ct9),sl9⟩) (c9:PySem.W.codeIn K cd9 "straight" = true) (k9:PySem.W.keepIn K (.ref f9)=true)
  (a10:PySem.W.nsIn K mainGlobals "parts_by_rule" = some (some (.ref f10))) (l10:K.lookup f10=some ⟨oc10,od10,.func (PySem.W.fnOf "parts_by_rule" "parts_by_rule" (Zx Zai) (Ze Zai) (Zh Zai) .none kV10 dc10 pm10 an10 cd10 ct10),sl10⟩) (c10:PySem.W.codeIn K cd10 "parts_by_rule" = true) (k10:PySem.W.keepIn K (.ref f10)=true)
  (a11:PySem.W.findIn K (.ref C_Stream) "__init__" = some (some (.ref f11))) (l11:K.lookup f11=some ⟨oc11,od11,.func (PySem.W.fnOf "__init__" "Stream.__init__" (Zx Zag) (Ze Zag) (Zh Zag) .none kV11 dc11 pm11 an11 cd11 ct11),sl11⟩) (c11:PySem.W.codeIn K cd11 "Stream.__init__" = true) (k11:PySem.W.keepIn K (.ref f11)=true) (n11:PySem.W.isFn K (.ref f11)=true)
  (a12:PySem.W.nsIn K mainGlobals "live_kinds" = some (some (.ref f12))) (l12:K.lookup f12=some ⟨oc12,od12,.func (PySem.W.fnOf "live_kinds" "live_kinds" (Zx ZaG) (Ze ZaG) (Zh ZaG) .none kV12 dc12 pm12 an12 cd12 ct12),sl12⟩) (c12:PySem.W.codeIn K cd12 "live_kinds" = true) (k12:PySem.W.keepIn K (.ref f12)=true)
  (a13:PySem.W.findIn K (.ref C_Reader) "__init__" = some (some (.ref f13))) (l13:K.lookup f13=some ⟨oc13,od13,.func (PySem.W.fnOf "__init__" "Reader.__init__" (Zx Z1) (Ze Z1) (Zh Z1) .none kV13 dc13 pm13 an13 cd13 ct13),sl13⟩) (c13:PySem.W.codeIn K cd13 "Reader.__init__" = true) (k13:PySem.W.keepIn K (.ref f13)=true) (n13:PySem.W.isFn K (.ref f13)=true)
  (a14:PySem.W.findIn K (.ref C_Pipe) "__init__" = some (some (.ref f14))) (l14:K.lookup f14=some ⟨oc14,od14,.func (PySem.W.fnOf "__init__" "Pipe.__init__" (Zx ZD) (Ze ZD) (Zh ZD) .none kV14 dc14 pm14 an14 cd14 ct14),sl14⟩) (c14:PySem.W.codeIn K cd14 "Pipe.__init__" = true) (k14:PySem.W.keepIn K (.ref f14)=true) (n14:PySem.W.isFn K (.ref f14)=true)
  (a15:PySem.W.nsIn K mainGlobals "_law_word" = some (some (.ref f15))) (l15:K.lookup f15=some ⟨oc15,od15,.func (PySem.W.fnOf "_law_word" "_law_word" (Zx ZbY) (Ze ZbY) (Zh ZbY) .none kV15 dc15 pm15 an15 cd15 ct15),sl15⟩) (c15:PySem.W.codeIn K cd15 "_law_word" = true) (k15:PySem.W.keepIn K (.ref f15)=true)
  (a16:PySem.W.findIn K (.ref C_Reader) "ended" = some (some (.ref f16))) (l16:K.lookup f16=some ⟨oc16,od16,.func (PySem.W.fnOf "ended" "Reader.ended" (Zx Zap) (Ze Zap) (Zh Zap) .none kV16 dc16 pm16 an16 cd16 ct16),sl16⟩) (c16:PySem.W.codeIn K cd16 "Reader.ended" = true) (k16:PySem.W.keepIn K (.ref f16)=true) (n16:PySem.W.isFn K (.ref f16)=true)
  (a17:PySem.W.findIn K (.ref C_Reader) "ways_from" = some (some (.ref f17))) (l17:K.lookup f17=some ⟨oc17,od17,.func (PySem.W.fnOf "ways_from" "Reader.ways_from" (Zx ZP) (Ze ZP) (Zh ZP) .none kV17 dc17 pm17 an17 cd17 ct17),sl17⟩) (c17:PySem.W.codeIn K cd17 "Reader.ways_from" = true) (k17:PySem.W.keepIn K (.ref f17)=true) (n17:PySem.W.isFn K (.ref f17)=true)
  (a18:PySem.W.findIn K (.ref C_Reader) "take_end" = some (some (.ref f18))) (l18:K.lookup f18=some ⟨oc18,od18,.func (PySem.W.fnOf "take_end" "Reader.take_end" (Zx ZZ) (Ze ZZ) (Zh ZZ) .none kV18 dc18 pm18 an18 cd18 ct18),sl18⟩) (c18:PySem.W.codeIn K cd18 "Reader.take_end" = true) (k18:PySem.W.keepIn K (.ref f18)=true) (n18:PySem.W.isFn K (.ref f18)=true)
  (a19:PySem.W.findIn K (.ref C_Reader) "take_tag" = some (some (.ref f19))) (l19:K.lookup f19=some ⟨oc19,od19,.func (PySem.W.fnOf "take_tag" "Reader.take_tag" (Zx ZW) (Ze ZW) (Zh ZW) .none kV19 dc19 pm19 an19 cd19 ct19),sl19⟩) (c19:PySem.W.codeIn K cd19 "Reader.take_tag" = true) (k19:PySem.W.keepIn K (.ref f19)=true) (n19:PySem.W.isFn K (.ref f19)=true)
  (a20:PySem.W.findIn K (.ref C_Reader) "take" = some (some (.ref f20))) (l20:K.lookup f20=some ⟨oc20,od20,.func (PySem.W.fnOf "take" "Reader.take" (Zx ZaJ) (Ze ZaJ) (Zh ZaJ) .none kV20 dc20 pm20 an20 cd20 ct20),sl20⟩) (c20:PySem.W.codeIn K cd20 "Reader.take" = true) (k20:PySem.W.keepIn K (.ref f20)=true) (n20:PySem.W.isFn K (.ref f20)=true)
  (a21:PySem.W.nsIn K mainGlobals "is_tag" = some (some (.ref f21))) (l21:K.lookup f21=some ⟨oc21,od21,.func (PySem.W.fnOf "is_tag" "is_tag" (Zx ZbS) (Ze ZbS) (Zh ZbS) .none kV21 dc21 pm21 an21 cd21 ct21),sl21⟩) (c21:PySem.W.codeIn K cd21 "is_tag" = true) (k21:PySem.W.keepIn K (.ref f21)=true)
  (a22:PySem.W.nsIn K mainGlobals "parts_for" = some (some (.ref f22))) (l22:K.lookup f22=some ⟨oc22,od22,.func (PySem.W.fnOf "parts_for" "parts_for" (Zx ZaM) (Ze ZaM) (Zh ZaM) .none kV22 dc22 pm22 an22 cd22 ct22),sl22⟩) (c22:PySem.W.codeIn K cd22 "parts_for" = true) (k22:PySem.W.keepIn K (.ref f22)=true)
  (a23:PySem.W.nsIn K mainGlobals "words_of_parts" = some (some (.ref f23))) (l23:K.lookup f23=some ⟨oc23,od23,.func (PySem.W.fnOf "words_of_parts" "words_of_parts" (Zx Zam) (Ze Zam) (Zh Zam) .none kV23 dc23 pm23 an23 cd23 ct23),sl23⟩) (c23:PySem.W.codeIn K cd23 "words_of_parts" = true) (k23:PySem.W.keepIn K (.ref f23)=true)
  (a24:PySem.W.findIn K (.ref C_Stream) "take_begin" = some (some (.ref f24))) (l24:K.lookup f24=some ⟨oc24,od24,.func (PySem.W.fnOf "take_begin" "Stream.take_begin" (Zx ZK) (Ze ZK) (Zh ZK) .none kV24 dc24 pm24 an24 cd24 ct24),sl24⟩) (c24:PySem.W.codeIn K cd24 "Stream.take_begin" = true) (k24:PySem.W.keepIn K (.ref f24)=true) (n24:PySem.W.isFn K (.ref f24)=true)
  (a25:PySem.W.findIn K (.ref C_Stream) "take" = some (some (.ref f25))) (l25:K.lookup f25=some ⟨oc25,od25,.func (PySem.W.fnOf "take" "Stream.take" (Zx ZaI) (Ze ZaI) (Zh ZaI) .none kV25 dc25 pm25 an25 cd25 ct25),sl25⟩) (c25:PySem.W.codeIn K cd25 "Stream.take" = true) (k25:PySem.W.keepIn K (.ref f25)=true) (n25:PySem.W.isFn K (.ref f25)=true)
  (a26:PySem.W.findIn K (.ref C_Pipe) "take" = some (some (.ref f26))) (l26:K.lookup f26=some ⟨oc26,od26,.func (PySem.W.fnOf "take" "Pipe.take" (Zx Zah) (Ze Zah) (Zh Zah) .none kV26 dc26 pm26 an26 cd26 ct26),sl26⟩) (c26:PySem.W.codeIn K cd26 "Pipe.take" = true) (k26:PySem.W.keepIn K (.ref f26)=true) (n26:PySem.W.isFn K (.ref f26)=true)
  (a27:PySem.W.nsIn K mainGlobals "_law_handed" = some (some (.ref f27))) (l27:K.lookup f27=some ⟨oc27,od27,.func (PySem.W.fnOf "_law_handed" "_law_handed" (Zx ZaD) (Ze ZaD) (Zh ZaD) .none kV27 dc27 pm27 an27 cd27 ct27),sl27⟩) (c27:PySem.W.codeIn K cd27 "_law_handed" = true) (k27:PySem.W.keepIn K (.ref f27)=true)
  (a28:PySem.W.findIn K (.ref C_Reader) "ends_well" = some (some (.ref f28))) (l28:K.lookup f28=some ⟨oc28,od28,.func (PySem.W.fnOf "ends_well" "Reader.ends_well" (Zx Z8) (Ze Z8) (Zh Z8) .none kV28 dc28 pm28 an28 cd28 ct28),sl28⟩) (c28:PySem.W.codeIn K cd28 "Reader.ends_well" = true) (k28:PySem.W.keepIn K (.ref f28)=true) (n28:PySem.W.isFn K (.ref f28)=true)
  (a29:PySem.W.findIn K (.ref C_Pipe) "came" = some (some (.ref f29))) (l29:K.lookup f29=some ⟨oc29,od29,.func (PySem.W.fnOf "came" "Pipe.came" (Zx Za2) (Ze Za2) (Zh Za2) .none kV29 dc29 pm29 an29 cd29 ct29),sl29⟩) (c29:PySem.W.codeIn K cd29 "Pipe.came" = true) (k29:PySem.W.keepIn K (.ref f29)=true) (n29:PySem.W.isFn K (.ref f29)=true)
  (a30:PySem.W.nsIn K mainGlobals "_law_number" = some (some (.ref f30))) (l30:K.lookup f30=some ⟨oc30,od30,.func (PySem.W.fnOf "_law_number" "_law_number" (Zx Zbi) (Ze Zbi) (Zh Zbi) .none kV30 dc30 pm30 an30 cd30 ct30),sl30⟩) (c30:PySem.W.codeIn K cd30 "_law_number" = true) (k30:PySem.W.keepIn K (.ref f30)=true)
  (a31:PySem.W.findIn K (.ref C_Pipe) "broken" = some (some (.ref f31))) (l31:K.lookup f31=some ⟨oc31,od31,.func (PySem.W.fnOf "broken" "Pipe.broken" (Zx ZaK) (Ze ZaK) (Zh ZaK) .none kV31 dc31 pm31 an31 cd31 ct31),sl31⟩) (c31:PySem.W.codeIn K cd31 "Pipe.broken" = true) (k31:PySem.W.keepIn K (.ref f31)=true) (n31:PySem.W.isFn K (.ref f31)=true)
  (a32:PySem.W.nsIn K mainGlobals "_law_truths" = some (some (.ref f32))) (l32:K.lookup f32=some ⟨oc32,od32,.func (PySem.W.fnOf "_law_truths" "_law_truths" (Zx Zbj) (Ze Zbj) (Zh Zbj) .none kV32 dc32 pm32 an32 cd32 ct32),sl32⟩) (c32:PySem.W.codeIn K cd32 "_law_truths" = true) (k32:PySem.W.keepIn K (.ref f32)=true)
  (a33:PySem.W.findIn K (.ref C_Pipe) "ends_well" = some (some (.ref f33))) (l33:K.lookup f33=some ⟨oc33,od33,.func (PySem.W.fnOf "ends_well" "Pipe.ends_well" (Zx Zan) (Ze Zan) (Zh Zan) .none kV33 dc33 pm33 an33 cd33 ct33),sl33⟩) (c33:PySem.W.codeIn K cd33 "Pipe.ends_well" = true) (k33:PySem.W.keepIn K (.ref f33)=true) (n33:PySem.W.isFn K (.ref f33)=true)
  (a34:PySem.W.nsIn K mainGlobals "_law_looked" = some (some (.ref f34))) (l34:K.lookup f34=some ⟨oc34,od34,.func (PySem.W.fnOf "_law_looked" "_law_looked" (Zx Z0) (Ze Z0) (Zh Z0) .none kV34 dc34 pm34 an34 cd34 ct34),sl34⟩) (c34:PySem.W.codeIn K cd34 "_law_looked" = true) (k34:PySem.W.keepIn K (.ref f34)=true)
  (a35:PySem.W.nsIn K mainGlobals "law" = some (some (.ref f35))) (l35:K.lookup f35=some ⟨oc35,od35,.func (PySem.W.fnOf "law" "law" (Zx ZaV) (Ze ZaV) (Zh ZaV) .none kV35 dc35 pm35 an35 cd35 ct35),sl35⟩) (c35:PySem.W.codeIn K cd35 "law" = true) (k35:PySem.W.keepIn K (.ref f35)=true)
  {tk0:Tok} (y0:PySem.W.nsIn K mainGlobals "LONGEST_TAG" = some (some (.int 8 tk0)))
  (z0:PySem.W.nsIn K mainGlobals "all" = some none) (z1:PySem.W.nsIn K mainGlobals "bool" = some none) (z2:PySem.W.nsIn K mainGlobals "dict" = some none) (z3:PySem.W.nsIn K mainGlobals "int" = some none) (z4:PySem.W.nsIn K mainGlobals "isinstance" = some none) (z5:PySem.W.nsIn K mainGlobals "len" = some none) (z6:PySem.W.nsIn K mainGlobals "list" = some none) (z7:PySem.W.nsIn K mainGlobals "range" = some none) (z8:PySem.W.nsIn K mainGlobals "sorted" = some none) (z9:PySem.W.nsIn K mainGlobals "tuple" = some none) :
  ∃fd:FuncData,(∀(s:Shared)(v:Value),BindsTo s fd ⟨[v],[]⟩ [("_law_script",v)])/\∀base:Heap,K.In base->base.Ns mainGlobals mg->FnOk l.prog w K mg base CX0 29 fa fd ["_law_script"] (Fg.Zi3 K):=by
 have e:=hfa.symm.trans (PySem.W.mg_of X G a35);cases e;have B:∀x∈ZbJ,mg x=none:=List.forall_mem_cons.mpr ⟨PySem.W.mg_none_of X G z0,List.forall_mem_cons.mpr ⟨PySem.W.mg_none_of X G z1,List.forall_mem_cons.mpr ⟨PySem.W.mg_none_of X G z2,List.forall_mem_cons.mpr ⟨PySem.W.mg_none_of X G z3,List.forall_mem_cons.mpr ⟨PySem.W.mg_none_of X G z4,List.forall_mem_cons.mpr ⟨PySem.W.mg_none_of X G z5,List.forall_mem_cons.mpr ⟨PySem.W.mg_none_of X G z6,List.forall_mem_cons.mpr ⟨PySem.W.mg_none_of X G z7,List.forall_mem_cons.mpr ⟨PySem.W.mg_none_of X G z8,List.forall_mem_cons.mpr ⟨PySem.W.mg_none_of X G z9,List.forall_mem_nil _⟩⟩⟩⟩⟩⟩⟩⟩⟩⟩;have Cc_LONGEST_TAG:∃t:Tok,mg "LONGEST_TAG" = some (.int 8 t):=⟨_,PySem.W.mg_of X G y0⟩;have F1:=Z5 (st:=Zal) l1 c1 k1;have b1:=F1.binds (ps:=["_law_cell_here"]) fun _ _ _ _ _ _ us hl=>by obtain⟨_,rfl⟩:=Zf6 hl;rfl
 have F2:=Z5 (st:=ZbV) l2 c2 k2;have b2:=F2.binds (ps:=["_law_script","_law_k"]) fun _ _ _ _ _ _ us hl=>by obtain⟨_,_,rfl⟩:=Zhl hl;rfl
 have F3:=Z5 (st:=Zy) l3 c3 k3;have b3:=F3.binds (ps:=["_law_cell_here","_law_tags_here","_law_modes"]) fun _ _ _ _ _ _ us hl=>by obtain⟨_,_,_,rfl⟩:=ZkG hl;rfl
 have F4:=Z5 (st:=ZX) l4 c4 k4;have b4:=F4.binds (ps:=["_law_script","_law_tags_here"]) fun _ _ _ _ _ _ us hl=>by obtain⟨_,_,rfl⟩:=Zhl hl;rfl
 have F5:=Z5 (st:=ZbW) l5 c5 k5;have b5:=F5.binds (ps:=["_law_cell_here","_law_prime","_law_many"]) fun _ _ _ _ _ _ us hl=>by obtain⟨_,_,_,rfl⟩:=ZkG hl;rfl
 have F6:=Z5 (st:=ZS) l6 c6 k6;have b6:=F6.binds (ps:=["_law_script","_law_at","_law_tags_here"]) fun _ _ _ _ _ _ us hl=>by obtain⟨_,_,_,rfl⟩:=ZkG hl;rfl
 have F7:=Z5 (st:=Za3) l7 c7 k7;have b7:=F7.binds (ps:=["parts"]) fun _ _ _ _ _ _ us hl=>by obtain⟨_,rfl⟩:=Zf6 hl;rfl
 have F8:=Z5 (st:=Zbz) l8 c8 k8;have b8:=F8.binds (ps:=["parts"]) fun _ _ _ _ _ _ us hl=>by obtain⟨_,rfl⟩:=Zf6 hl;rfl
 have F9:=Z5 (st:=Zbk) l9 c9 k9;have b9:=F9.binds (ps:=["changer"]) fun _ _ _ _ _ _ us hl=>by obtain⟨_,rfl⟩:=Zf6 hl;rfl
 have F10:=Z5 (st:=Zai) l10 c10 k10;have b10:=F10.binds (ps:=["changer"]) fun _ _ _ _ _ _ us hl=>by obtain⟨_,rfl⟩:=Zf6 hl;rfl
 have F11:=Z5 (st:=Zag) l11 c11 k11;have b11:=F11.binds (ps:=["self","changer"]) fun _ _ _ _ _ _ us hl=>by obtain⟨_,_,rfl⟩:=Zhl hl;rfl
 have F12:=Z5 (st:=ZaG) l12 c12 k12;have b12:=F12.binds (ps:=["form"]) fun _ _ _ _ _ _ us hl=>by obtain⟨_,rfl⟩:=Zf6 hl;rfl
 have F13:=Z5 (st:=Z1) l13 c13 k13;have b13:=F13.binds (ps:=["self","form"]) fun _ _ _ _ _ _ us hl=>by obtain⟨_,_,rfl⟩:=Zhl hl;rfl
 have F14:=Z5 (st:=ZD) l14 c14 k14;have b14:=F14.binds (ps:=["self","changer","before","behind"]) fun _ _ _ _ _ _ us hl=>by obtain⟨_,_,_,_,rfl⟩:=ZlI hl;rfl
 have F15:=Z5 (st:=ZbY) l15 c15 k15;have b15:=F15.binds (ps:=["_law_cell_here","_law_tags_here"]) fun _ _ _ _ _ _ us hl=>by obtain⟨_,_,rfl⟩:=Zhl hl;rfl
 have F16:=Z5 (st:=Zap) l16 c16 k16;have b16:=F16.binds (ps:=["self"]) fun _ _ _ _ _ _ us hl=>by obtain⟨_,rfl⟩:=Zf6 hl;rfl
 have F17:=Z5 (st:=ZP) l17 c17 k17;have b17:=F17.binds (ps:=["self","kind","tag"]) fun _ _ _ _ _ _ us hl=>by obtain⟨_,_,_,rfl⟩:=ZkG hl;rfl
 have F18:=Z5 (st:=ZZ) l18 c18 k18;have b18:=F18.binds (ps:=["self"]) fun _ _ _ _ _ _ us hl=>by obtain⟨_,rfl⟩:=Zf6 hl;rfl
 have F19:=Z5 (st:=ZW) l19 c19 k19;have b19:=F19.binds (ps:=["self","tag"]) fun _ _ _ _ _ _ us hl=>by obtain⟨_,_,rfl⟩:=Zhl hl;rfl
 have F20:=Z5 (st:=ZaJ) l20 c20 k20;have b20:=F20.binds (ps:=["self","word"]) fun _ _ _ _ _ _ us hl=>by obtain⟨_,_,rfl⟩:=Zhl hl;rfl
 have F21:=Z5 (st:=ZbS) l21 c21 k21;have b21:=F21.binds (ps:=["text"]) fun _ _ _ _ _ _ us hl=>by obtain⟨_,rfl⟩:=Zf6 hl;rfl
 have F22:=Z5 (st:=ZaM) l22 c22 k22;have b22:=F22.binds (ps:=["known","mode","tag"]) fun _ _ _ _ _ _ us hl=>by obtain⟨_,_,_,rfl⟩:=ZkG hl;rfl
 have F23:=Z5 (st:=Zam) l23 c23 k23;have b23:=F23.binds (ps:=["parts"]) fun _ _ _ _ _ _ us hl=>by obtain⟨_,rfl⟩:=Zf6 hl;rfl
 have F24:=Z5 (st:=ZK) l24 c24 k24;have b24:=F24.binds (ps:=["self","mode","tag"]) fun _ _ _ _ _ _ us hl=>by obtain⟨_,_,_,rfl⟩:=ZkG hl;rfl
 have F25:=Z5 (st:=ZaI) l25 c25 k25;have b25:=F25.binds (ps:=["self","word"]) fun _ _ _ _ _ _ us hl=>by obtain⟨_,_,rfl⟩:=Zhl hl;rfl
 have F26:=Z5 (st:=Zah) l26 c26 k26;have b26:=F26.binds (ps:=["self","word"]) fun _ _ _ _ _ _ us hl=>by obtain⟨_,_,rfl⟩:=Zhl hl;rfl
 have F27:=Z5 (st:=ZaD) l27 c27 k27;have b27:=F27.binds (ps:=["_law_far","_law_words","_law_broke","_law_came"]) fun _ _ _ _ _ _ us hl=>by obtain⟨_,_,_,_,rfl⟩:=ZlI hl;rfl
 have F28:=Z5 (st:=Z8) l28 c28 k28;have b28:=F28.binds (ps:=["self"]) fun _ _ _ _ _ _ us hl=>by obtain⟨_,rfl⟩:=Zf6 hl;rfl
 have F29:=Z5 (st:=Za2) l29 c29 k29;have b29:=F29.binds (ps:=["self"]) fun _ _ _ _ _ _ us hl=>by obtain⟨_,rfl⟩:=Zf6 hl;rfl
 have F30:=Z5 (st:=Zbi) l30 c30 k30;have b30:=F30.binds (ps:=["_law_told","_law_due"]) fun _ _ _ _ _ _ us hl=>by obtain⟨_,_,rfl⟩:=Zhl hl;rfl
 have F31:=Z5 (st:=ZaK) l31 c31 k31;have b31:=F31.binds (ps:=["self"]) fun _ _ _ _ _ _ us hl=>by obtain⟨_,rfl⟩:=Zf6 hl;rfl
 have F32:=Z5 (st:=Zbj) l32 c32 k32;have b32:=F32.binds (ps:=["_law_told","_law_due"]) fun _ _ _ _ _ _ us hl=>by obtain⟨_,_,rfl⟩:=Zhl hl;rfl
 have F33:=Z5 (st:=Zan) l33 c33 k33;have b33:=F33.binds (ps:=["self"]) fun _ _ _ _ _ _ us hl=>by obtain⟨_,rfl⟩:=Zf6 hl;rfl
 have F34:=Z5 (st:=Z0) l34 c34 k34;have b34:=F34.binds (ps:=["_law_pipe","_law_came","_law_broke","_law_due","_law_order"]) fun _ _ _ _ _ _ us hl=>by obtain⟨_,_,_,_,_,rfl⟩:=Zmi hl;rfl
 have F35:=Z5 (st:=ZaV) l35 c35 k35;refine⟨PySem.W.fnOf "law" "law" (Zx ZaV) (Ze ZaV) (Zh ZaV) .none kV35 dc35 pm35 an35 cd35 ct35,fun s v=>.of_eq rfl,fun base _ _=>?_⟩;have c_Stream:Fg.StC K C_Stream:=⟨⟨cp1,ch1,cq1,cs1⟩,cx1_0,cx1_1,cx1_2⟩;have c_Reader:Fg.RdC K C_Reader:=⟨⟨cp2,ch2,cq2,cs2⟩,cx2_0,cx2_1,cx2_2,cx2_3,cx2_4⟩;have c_Pipe:K95.PpC K C_Pipe:=⟨⟨cp3,ch3,cq3,cs3⟩,cx3_0,cx3_1,cx3_2,cx3_3,cx3_4⟩;have g_l_tags:Has l.prog w K mg base "_law_tags" ["_law_cell_here"] 1 (K95.ZfI):=⟨⟨f1,_,Zik B  F1,b1,k1,PySem.W.mg_of X G a1⟩⟩;have g_l_cell:Has l.prog w K mg base "_law_cell" ["_law_script","_law_k"] 1 (K95.Zdv K):=⟨⟨f2,_,Zh2 B  F2,b2,k2,PySem.W.mg_of X G a2⟩⟩;have g_l_parts:Has l.prog w K mg base "_law_parts" ["_law_cell_here","_law_tags_here","_law_modes"] 1 (K95.ZeM):=⟨⟨f3,_,Zg7 B  F3,b3,k3,PySem.W.mg_of X G a3⟩⟩;have g_l_changer:Has l.prog w K mg base "_law_changer" ["_law_script","_law_tags_here"] 2 (K95.Zfx K):=⟨⟨f4,_,Ze8 B g_l_cell g_l_parts F4,b4,k4,PySem.W.mg_of X G a4⟩⟩;have g_l_pick:Has l.prog w K mg base "_law_pick" ["_law_cell_here","_law_prime","_law_many"] 1 (K95.Zif):=⟨⟨f5,_,Zir B  F5,b5,k5,PySem.W.mg_of X G a5⟩⟩;have g_l_shape:Has l.prog w K mg base "_law_shape" ["_law_script","_law_at","_law_tags_here"] 2 (K95.Zdy K):=⟨⟨f6,_,Zhb B g_l_cell g_l_pick F6,b6,k6,PySem.W.mg_of X G a6⟩⟩;have r_all_parts:∀d:Nat,Has l.prog w K mg base "all_parts" ["parts"] d (K95.Zgq d):=by
  intro d
  induction d with
  | zero=>exact⟨⟨f7,_,FnOk.none (fun vs H Q E z=>by obtain⟨_,_,_,_,_,_,hd,_⟩:=z;exact absurd hd (Nat.not_lt_zero _)),b7,k7,PySem.W.mg_of X G a7⟩⟩
  | succ d ih=>exact⟨⟨f7,_,ZeZ d B ih F7,b7,k7,PySem.W.mg_of X G a7⟩⟩
 have g_all_parts:=r_all_parts 22;have g_kids_in:Has l.prog w K mg base "kids_in" ["parts"] 23 (K95.Zdb 22):=⟨⟨f8,_,Zhe B g_all_parts F8,b8,k8,PySem.W.mg_of X G a8⟩⟩;have g_straight:Has l.prog w K mg base "straight" ["changer"] 24 (K95.Zcx):=⟨⟨f9,_,Zf1 B g_kids_in F9,b9,k9,PySem.W.mg_of X G a9⟩⟩;have g_parts_by_rule:Has l.prog w K mg base "parts_by_rule" ["changer"] 1 (K95.Zeo):=⟨⟨f10,_,ZcV B  F10,b10,k10,PySem.W.mg_of X G a10⟩⟩;have g_Stream:HasC l.prog w K mg base C_Stream "Stream" ["self","changer"] 25 (K95.Zch C_Stream):=⟨⟨f11,_,Zcm B c_Stream g_straight g_parts_by_rule F11,b11,⟨cm1,a11,n11,ck1⟩,PySem.W.mg_of X G cn1⟩⟩;have g_live_kinds:Has l.prog w K mg base "live_kinds" ["form"] 1 (Fg.Zgd K):=⟨⟨f12,_,Zer B  F12,b12,k12,PySem.W.mg_of X G a12⟩⟩;have g_Reader:HasC l.prog w K mg base C_Reader "Reader" ["self","form"] 2 (K95.Zcn K C_Reader):=⟨⟨f13,_,Zcl B c_Reader g_live_kinds F13,b13,⟨cm2,a13,n13,ck2⟩,PySem.W.mg_of X G cn2⟩⟩;have g_Pipe:HasC l.prog w K mg base C_Pipe "Pipe" ["self","changer","before","behind"] 27 (K95.ZjY C_Stream C_Reader C_Pipe):=⟨⟨f14,_,ZcU B c_Stream c_Reader c_Pipe g_Stream g_Reader F14,b14,⟨cm3,a14,n14,ck3⟩,PySem.W.mg_of X G cn3⟩⟩;have g_l_word:Has l.prog w K mg base "_law_word" ["_law_cell_here","_law_tags_here"] 1 (K95.Zee):=⟨⟨f15,_,Zh4 B  F15,b15,k15,PySem.W.mg_of X G a15⟩⟩;have g_Reader_ended:HasM l.prog w K mg base C_Reader "ended" ["self"] 1 (Fg.Zc0 C_Reader):=⟨⟨f16,_,Zdl B c_Reader  F16,b16,⟨a16,n16,k16⟩⟩⟩;have g_Reader_ways_from:HasM l.prog w K mg base C_Reader "ways_from" ["self","kind","tag"] 1 (Fg.ZeG C_Reader):=⟨⟨f17,_,Zb8 B c_Reader  F17,b17,⟨a17,n17,k17⟩⟩⟩;have g_Reader_take_end:HasM l.prog w K mg base C_Reader "take_end" ["self"] 2 (Fg.Zio C_Reader):=⟨⟨f18,_,Zcr B c_Reader g_Reader_ended g_Reader_ways_from F18,b18,⟨a18,n18,k18⟩⟩⟩;have g_Reader_take_tag:HasM l.prog w K mg base C_Reader "take_tag" ["self","tag"] 2 (Fg.Zhq C_Reader):=⟨⟨f19,_,Zcq B c_Reader g_Reader_ways_from F19,b19,⟨a19,n19,k19⟩⟩⟩;have g_Reader_take:HasM l.prog w K mg base C_Reader "take" ["self","word"] 3 (Fg.Zdz C_Reader):=⟨⟨f20,_,ZdR B c_Reader g_Reader_take_end g_Reader_take_tag F20,b20,⟨a20,n20,k20⟩⟩⟩;have g_is_tag:Has l.prog w K mg base "is_tag" ["text"] 1 (Fg.ZfW):=⟨⟨f21,_,Zic B Cc_LONGEST_TAG  F21,b21,k21,PySem.W.mg_of X G a21⟩⟩;have g_parts_for:Has l.prog w K mg base "parts_for" ["known","mode","tag"] 1 (K95.ZcF):=⟨⟨f22,_,Ze6 B  F22,b22,k22,PySem.W.mg_of X G a22⟩⟩;have r_words_of_parts:∀d:Nat,Has l.prog w K mg base "words_of_parts" ["parts"] d (K95.Zc1 d):=by
  intro d
  induction d with
  | zero=>exact⟨⟨f23,_,FnOk.none (fun vs H Q E z=>by obtain⟨_,_,_,_,_,_,hd,_⟩:=z;exact absurd hd (Nat.not_lt_zero _)),b23,k23,PySem.W.mg_of X G a23⟩⟩
  | succ d ih=>exact⟨⟨f23,_,Zcy d B ih F23,b23,k23,PySem.W.mg_of X G a23⟩⟩
 have g_words_of_parts:=r_words_of_parts 22;have g_Stream_take_begin:HasM l.prog w K mg base C_Stream "take_begin" ["self","mode","tag"] 24 (K95.ZfK C_Stream):=⟨⟨f24,_,Zb1 B c_Stream g_parts_for g_words_of_parts g_kids_in F24,b24,⟨a24,n24,k24⟩⟩⟩;have g_Stream_take:HasM l.prog w K mg base C_Stream "take" ["self","word"] 25 (K95.Zeq C_Stream):=⟨⟨f25,_,ZdS B c_Stream g_is_tag g_Stream_take_begin F25,b25,⟨a25,n25,k25⟩⟩⟩;have g_Pipe_take:HasM l.prog w K mg base C_Pipe "take" ["self","word"] 26 (K95.ZkF C_Stream C_Reader C_Pipe):=⟨⟨f26,_,ZeP B c_Stream c_Reader c_Pipe g_Reader_take g_Stream_take F26,b26,⟨a26,n26,k26⟩⟩⟩;have g_l_handed:Has l.prog w K mg base "_law_handed" ["_law_far","_law_words","_law_broke","_law_came"] 4 (K95.Zh0 C_Reader):=⟨⟨f27,_,ZfP B c_Reader g_Reader_take F27,b27,k27,PySem.W.mg_of X G a27⟩⟩;have g_Reader_ends_well:HasM l.prog w K mg base C_Reader "ends_well" ["self"] 2 (Fg.Zeh C_Reader):=⟨⟨f28,_,Zcf B c_Reader g_Reader_ended F28,b28,⟨a28,n28,k28⟩⟩⟩;have g_Pipe_came:HasM l.prog w K mg base C_Pipe "came" ["self"] 1 (K95.Zki C_Pipe):=⟨⟨f29,_,ZeX B c_Pipe  F29,b29,⟨a29,n29,k29⟩⟩⟩;have g_l_number:Has l.prog w K mg base "_law_number" ["_law_told","_law_due"] 1 (K95.ZfD):=⟨⟨f30,_,ZfM B  F30,b30,k30,PySem.W.mg_of X G a30⟩⟩;have g_Pipe_broken:HasM l.prog w K mg base C_Pipe "broken" ["self"] 1 (K95.Zkj C_Pipe):=⟨⟨f31,_,ZdX B c_Pipe  F31,b31,⟨a31,n31,k31⟩⟩⟩;have g_l_truths:Has l.prog w K mg base "_law_truths" ["_law_told","_law_due"] 1 (K95.ZfV):=⟨⟨f32,_,ZfJ B  F32,b32,k32,PySem.W.mg_of X G a32⟩⟩;have g_Pipe_ends_well:HasM l.prog w K mg base C_Pipe "ends_well" ["self"] 3 (K95.ZjW C_Reader C_Pipe):=⟨⟨f33,_,ZcB B c_Reader c_Pipe g_Reader_ends_well F33,b33,⟨a33,n33,k33⟩⟩⟩;have g_l_looked:Has l.prog w K mg base "_law_looked" ["_law_pipe","_law_came","_law_broke","_law_due","_law_order"] 4 (K95.Zh8 C_Reader C_Pipe):=⟨⟨f34,_,Zfv B c_Pipe g_Pipe_came g_l_number g_Pipe_broken g_l_truths g_Pipe_ends_well F34,b34,k34,PySem.W.mg_of X G a34⟩⟩;exact Zlj B c_Stream c_Reader c_Pipe g_l_tags g_l_cell g_l_changer g_l_shape g_Pipe g_Reader g_Stream g_l_word g_Reader_take g_Pipe_take g_l_handed g_Stream_take g_Reader_ends_well g_l_looked F35
theorem walk{l:PySem.W.OpenLaw}{q:Program}{loose:List Str}{XP:(Str->Option Value)->Heap->Prop}{YP:World->Heap->Prop}{d:DefRec}{K:Params->PySem.W.Frag}(hn:l.most=some 63)(hdf:d.params.defaults=[])
  (hY:∀(w:World)(h:Heap),YP w h->(K w.params).In h)
  (F:∀(w:World)(mg:Str->Option Value)(fa:Addr)(h:Heap),(K w.params).In h->h.Ns mainGlobals mg->mg d.name=some (.ref fa) ->
   ∃fd:FuncData,(∀(s:Shared)(u:Value),BindsTo s fd ⟨[u],[]⟩ [("_law_script",u)])/\∀base:Heap,(K w.params).In base->base.Ns mainGlobals mg->FnOk l.prog w (K w.params) mg base CX0 29 fa fd ["_law_script"] (Fg.Zi3 (K w.params))) :
  PySem.W.WalkO q loose XP YP l.row.toRowW d [] (fun f vs=>PySem.call f vs) :=
 L2.Zii (n:=63) (k:=29) (x := "_law_script") (CX:=fun _=>CX0) (sp:=fun w=>Fg.Zi3 (K w.params)) hn (by decide) hdf ⟨rfl,by decide,by decide,rfl⟩ hY F (fun _ _ a ns hl _ hS=>⟨a,ns,rfl,hS,hl,fun _=>rfl⟩) fun _ _ _ _ _ z=>z
end K95
namespace PySem.W.Fast
def tw2918492348550813523:=0
def tw6552894387914040264:=0
def tw16803315341606397872:=0
def tw17090516218742715675:=0
def tw13315378668556613091:=0
def tw9892484548828029812:=0
def tw5104012532013673487:=0
def tw12045794091783755208:=0
def tw13136348379264201196:=0
def tw14613147178913788758:=0
def tw5662048872583228032:=0
def tw745989660768582701:=0
def tw14131732092520986268:=0
def tw4120204654043609579:=0
def tw10803994493635598688:=0
def tw12536709567428538383:=0
def tw8781047790690782405:=0
def tw520076328125878856:=0
def tw9340429865798886005:=0
def tw16311191313263913755:=0
def tw3295222960573667208:=0
def tw926120398255414506:=0
def tw10421917906361058562:=0
def tw1670996865675306987:=0
def tw9926119581117515545:=0
def tw9914462521290856109:=0
def tw7858400284358039356:=0
def tw6010634853833470494:=0
def tw413876084897712174:=0
def tw13841668600880283972:=0
def tw18082498523621127773:=0
def tw14613997133105657343:=0
def tw5040392153450884234:=0
def tw6105378733979003301:=0
def tw17571793708675063403:=0
def tw7294980904082791425:=0
def tw15339081296396903606:=0
def tw13035292330866974536:=0
def tw1273359407633728363:=0
def tw12198099277486457652:=0
def tw17985799610229051545:=0
def tw9133208364818265915:=0
def tw5298419621505776054:=0
def tw4469841860718628576:=0
def tw15283709612794273537:=0
def tw17871037506006890204:=0
def tw4738744959460888549:=0
def tw12051497749200113053:=0
def tw10195969948781910443:=0
def tw9153210374979288308:=0
def tw1312022398775809588:=0
def tw1736349748931809382:=0
def tw14258144902388742844:=0
def tw12738292463072102197:=0
def tw1975825944835936299:=0
def tw89434087102314633:=0
def tw10368573613526033733:=0
def tw7006076786668170172:=0
def tw9575867566959070392:=0
def tw2147607588891855569:=0
def tw17859803978843306974:=0
def tw5761022117615698004:=0
def tw16115650241082349955:=0
def tw5203861104424996858:=0
def tw1485912132725468331:=0
def tw10900636634743110552:=0
def tw6207163444255498148:=0
def tw9336156407308633661:=0
def tw5233924306534878255:=0
def tw2164671048316734212:=0
def tw14128964123191373350:=0
def tw14855884363726063603:=0
def tw17095032576472964124:=0
def tw11925179175700935372:=0
def tw10634620677621380088:=0
def tw11614932284225297487:=0
def tw16009969582744434110:=0
def tw2622536390192527200:=0
def tw10825155580171435797:=0
def tw218974476559289396:=0
def tw15559401580587102397:=0
def tw13435299359286698789:=0
def tw16981158130210115707:=0
def tw1826395249702842629:=0
def tw5080859915396237392:=0
def tw5983350147061395819:=0
def tw7529185037336610549:=0
def tw13859776819685369322:=0
def tw4053050579422941190:=0
def tw12253952457437598077:=0
def tw5102683466232375679:=0
def tw9373893707226988568:=0
def tw11756056707134842782:=0
def tw5935862669777451829:=0
def tw12758222757711867768:=0
def tw15841052283770520317:=0
def tw3730941986797260422:=0
def tw10612787086124591482:=0
def tw8155048642611780842:=0
def tw5343132522489571029:=0
def tw3463646843644340439:=0
def tw16371676509772677664:=0
def tw10435727907135203831:=0
def tw5044003929022778831:=0
def tw160320078951162872:=0
def tw3655990360108712064:=0
def tw12943567130723014992:=0
def tw4623716184288545988:=0
def tw5247102880565645360:=0
def tw4051900662967876093:=0
def tw13081364593218072333:=0
def tw17188705608822245936:=0
def tw12754660696963609205:=0
def tw11673352830111440522:=0
def tw4441540562065579974:=0
def tw2553212154629369701:=0
def tw16074069918540780553:=0
def tw17945689837091772182:=0
def tw2885138656881697573:=0
def tw12522014552190071808:=0
def tw5280575214553073972:=0
def tw15672928640812743483:=0
def tw1047657809946780758:=0
def tw10675255221947102153:=0
def tw9297716180859772834:=0
def tw13865171665478354637:=0
def tw10917748676116744819:=0
def tw2567017290013150297:=0
def tw11865175255953173679:=0
def tw1799111616664306426:=0
def tw16863428040754280539:=0
def tw11756946187348099486:=0
def tw122230111387848579:=0
def tw9803311792233538967:=0
def tw13312004837389400907:=0
def tw4306583003245913409:=0
def tw9442697627853454840:=0
def tw3748752518281496675:=0
def tw5862841424445415953:=0
def tw7292239944586931642:=0
def tw6673357622935380702:=0
def tw13404819625693270746:=0
def tw14631933240219520097:=0
def tw16957485636172060465:=0
def tw6910834131487605284:=0
def tw9577013302230435506:=0
def tw18079762062875569137:=0
def tw3726587490192751828:=0
def tw1577395560000296379:=0
def tw7342887250394503303:=0
def tw10256278863169954694:=0
def tw17297378416036002310:=0
def tw10260830579954084211:=0
def tw16060905713688364072:=0
def tw7336792637640389047:=0
def tw8034521870320580155:=0
def tw8853349108912655088:=0
def tw3081998543822430083:=0
def tw778867490618396864:=0
def tw1765353294021175505:=0
def tw8182256178478695941:=0
def tw6867854122130314705:=0
def tw10829905524608554023:=0
def tw6777557489799056351:=0
def tw12629074500554809062:=0
def tw15631782081538771550:=0
def tw4140424366030206246:=0
def tw548221588247711059:=0
def tw7348361875003432684:=0
def tw15010576846433210197:=0
def tw3463025958503085352:=0
def tw5377582813162435033:=0
def tw3287888438413277247:=0
def tw16121783107657094011:=0
def tw18081978457129782298:=0
def tw8032489650005271474:=0
def tw17888698310767642675:=0
def tw3127463280106926029:=0
def tw9103662403940101979:=0
def tw6129705044186119023:=0
def tw4959507551896834594:=0
def tw16898169753348101077:=0
def tw17747490936873667138:=0
def tw18214468484452376636:=0
def tw14690256309178283474:=0
def tw7627433828702363633:=0
def tw9870763285141206935:=0
def tw12485739721338047343:=0
def tw12294829891987264600:=0
def tw11345346439708866552:=0
def tw313929321986393318:=0
def tw10886350307650358252:=0
def tw11924976839733368215:=0
def tw4227575316042736190:=0
def tw3980520490486476023:=0
def tw8765452103567244102:=0
def tw12139367909638817537:=0
def tw9073558955986030301:=0
def tw4433391997699651581:=0
def tw17794451427277225466:=0
def tw7153335621459829156:=0
def tw11930546582955723759:=0
def tw1078857335016390239:=0
def tw12156402022309696764:=0
def tw1961924899570827012:=0
def tw9046724388598245012:=0
def tw6446542193689379770:=0
def tw11838071988564455005:=0
def tw1740530585161902178:=0
def tw13779766042572657742:=0
def tw10641779211905435044:=0
def tw255271389383713262:=0
def tw8825329807175381510:=0
def tw6045895041766394496:=0
def tw11095036384904237245:=0
def tw183549479094491723:=0
def tw4081541492343487505:=0
def tw9132358121899723613:=0
def tw5895766440729201514:=0
def tw12853781175641548934:=0
def tw12013624243487381565:=0
def tw15612493234150749070:=0
def tw16512990863256024786:=0
def tw16900540045011206018:=0
def tw10777633429707979485:=0
def tw3856961389856731870:=0
def tw8449888987195588559:=0
def tw7723701181146127298:=0
def tw438095774579426948:=0
def tw5646546942326008572:=0
def tw10203609150860717736:=0
def tw10616912277430659378:=0
def tw16729194652282832276:=0
def tw7856440516918820591:=0
def tw5938252648235583828:=0
def tw9478082191741890431:=0
def tw1051233237905878461:=0
def tw10123459798158821415:=0
def tw13710944520391031243:=0
def tw11485143776537489908:=0
def tw5473872679234135704:=0
def tw6672812277852058993:=0
def tw11716871700306369323:=0
def tw17656616015171389868:=0
def tw2806658627742767307:=0
def tw11934834606746072287:=0
def tw1089458838031269041:=0
def tw15254247759044103708:=0
def tw13953159823900342248:=0
def tw1878397694391844982:=0
def tw12947319108695285529:=0
def tw251483985746090243:=0
def tw16224873720009682804:=0
def tw17301988169722728957:=0
def tw4450925781411193607:=0
def tw14548843720048249699:=0
def tw1035569933536856506:=0
def tw4540525558228074034:=0
def tw16400393787113708620:=0
def tw6990684977522549090:=0
def tw6752852659694241911:=0
def tw8444716432945266232:=0
def tw10775436105032775921:=0
def tw1308898377971675006:=0
def tw3918629190902353494:=0
def tw277936339564934640:=0
def tw3169107078755837860:=0
def tw12060677032490420469:=0
def tw2383097954050559069:=0
def tw40806703395405661:=0
def tw7902118388803843607:=0
def tw13667667306661248707:=0
def tw5114119025306232579:=0
def tw8877755143505837565:=0
def tw7599410288038992985:=0
def tw3318958890879851987:=0
def tw4581502031895756424:=0
def tw2693390686608860582:=0
def tw15718850844941296932:=0
def tw17070594866726218748:=0
def tw521972098931644316:=0
def tw14213228916933251947:=0
def tw14019474646903879244:=0
def tw5854253501452716971:=0
def tw8468473170794605159:=0
def tw11264592205616622860:=0
def tw10564349542901568506:=0
def tw5049866617237012837:=0
def tw3456559675750939758:=0
def tw3374199505059387224:=0
def tw11259526928907913201:=0
def tw8984748872909181151:=0
def tw4907739767917261116:=0
def tw8527258075986489670:=0
def tw8682695854093745649:=0
def tw4148098568461044223:=0
def tw6875282243299234489:=0
def tw490692122810588168:=0
def tw9060890817875455304:=0
def tw67615457566201261:=0
def tw11140472707287556900:=0
def tw7255568354705964623:=0
def tw3327237829508361942:=0
def tw14684166037890293035:=0
def tw9347726899393939572:=0
def tw6150755291185390764:=0
def tw5238418700572379505:=0
def tw18364788049502597231:=0
def tw15014580805071402540:=0
def tw3825771719540937452:=0
def tw3190268071492797675:=0
def tw9829218319372010366:=0
def tw12524438237689316535:=0
def tw9851997905589011679:=0
def tw475839538570517941:=0
def tw2577512901625066765:=0
def tw17542729552350495668:=0
def tw13075167438665798205:=0
def tw13840725857656269358:=0
def tw5882274292397462124:=0
def tw2610930985230667393:=0
def tw9535909097030512835:=0
def tw12917306415160493884:=0
def tw4163545284276091968:=0
def tw6548797812543049998:=0
def tw2612604656298871515:=0
def tw6757741191919241069:=0
def tw17303016783265784422:=0
def tw643757179315099941:=0
def tw4770304579943459427:=0
def tw16981673868902932964:=0
def tw4451160251223847076:=0
def tw1033157362163696725:=0
def tw14326676189521437596:=0
def tw13727567423018630210:=0
def tw6712693443980089361:=0
def tw14207772536815632975:=0
def tw17856613018439934498:=0
def tw849294518902650436:=0
def tw1239080787832477753:=0
def tw16591024242120769991:=0
def tw14279112338735287491:=0
def tw12880533429924739808:=0
def tw15830483037767102224:=0
def tw5519402278709171725:=0
def tw4165683244472187169:=0
def tw10558139878946913849:=0
def tw5287832182096737243:=0
def tw7405535027469960134:=0
def tw12147888848142561003:=0
def tw7323310841341530192:=0
def tw7393213873656454121:=0
def tw4418038099041701986:=0
def tw14681397408781546044:=0
def tw14785738030480701809:=0
def tw17781334254611232787:=0
def tw17188668007667323179:=0
def tw11763600126429776393:=0
def tw6619011245068388748:=0
def tw14161872001173671688:=0
def tw14457733033677476698:=0
def tw4058549245833324330:=0
def tw5233909930750756495:=0
def tw2503489684086054789:=0
def tw898353846121467163:=0
def tw15371583630620625489:=0
def tw5084167884330687080:=0
def tw6338488885270302021:=0
def tw18437085253811773725:=0
def tw17046553414326609602:=0
def tw2435974593209822918:=0
def tw9276081566965110071:=0
def tw16462568044117333738:=0
def tw14028420078327163141:=0
def tw7372143436151932963:=0
def tw4977047958032133405:=0
def tw12429620898741457541:=0
def tw5485772732517957224:=0
def tw3103845416664433492:=0
def tw18072498885573617632:=0
def tw8068466272169406685:=0
def tw3893158444696418309:=0
def tw7771703436078578197:=0
def tw15291758364303091053:=0
def tw15791292005549561722:=0
def tw5043910630550556686:=0
def tw14125020459543334173:=0
def tw10052296813085434112:=0
def tw14229089389737580319:=0
def tw5609702618443846728:=0
def tw10341329428885528368:=0
def tw9709129966548534449:=0
def tw7326538022298976345:=0
def tw17153788325998308346:=0
def tw2743496656400324744:=0
def tw9724572774847943966:=0
def tw586857525288190691:=0
def tw14109707941167254411:=0
def tw9556075054277546433:=0
def tw11210699436407800594:=0
def tw238462110142077052:=0
def tw15225973175596797930:=0
def tw9128822215043075326:=0
def tw10046408460513880623:=0
def tw15137336179145034573:=0
def tw6317334741888060164:=0
def tw7435379945395633390:=0
def tw10311154782560603878:=0
def tw2615945941441205005:=0
end PySem.W.Fast
open PySem PySem.W PyProof.Rows
set_option maxRecDepth 100000 in
set_option maxHeartbeats 0 in
theorem PySem.Challenge.cw_formgrove_k95_a_pipe_is_its_parts_holds : PySem.Challenge.rw_formgrove_k95_a_pipe_is_its_parts.Holds := by
 w_on;o_law;k_head;(case hw=>w_witness2)
 k_fill
 refine K95.walk (l:=PySem.Challenge.rw_formgrove_k95_a_pipe_is_its_parts) rfl rfl (fun w h Y=>PySem.W.kIn_of Y) ?F
 case F =>
  intro w mg fa h KX G hmg;refine' K95.ZkP KX G hmg ?cn1 ?cp1 ?ch1 ?cq1 ?cs1 ?cm1 ?ck1 ?cx1_0 ?cx1_1 ?cx1_2 ?cn2 ?cp2 ?ch2 ?cq2 ?cs2 ?cm2 ?ck2 ?cx2_0 ?cx2_1 ?cx2_2 ?cx2_3 ?cx2_4 ?cn3 ?cp3 ?ch3 ?cq3 ?cs3 ?cm3 ?ck3 ?cx3_0 ?cx3_1 ?cx3_2 ?cx3_3 ?cx3_4 ?a1 ?l1 ?c1 ?k1 ?a2 ?l2 ?c2 ?k2 ?a3 ?l3 ?c3 ?k3 ?a4 ?l4 ?c4 ?k4 ?a5 ?l5 ?c5 ?k5 ?a6 ?l6 ?c6 ?k6 ?a7 ?l7 ?c7 ?k7 ?a8 ?l8 ?c8 ?k8 ?a9 ?l9 ?c9 ?k9 ?a10 ?l10 ?c10 ?k10 ?a11 ?l11 ?c11 ?k11 ?n11 ?a12 ?l12 ?c12 ?k12 ?a13 ?l13 ?c13 ?k13 ?n13 ?a14 ?l14 ?c14 ?k14 ?n14 ?a15 ?l15 ?c15 ?k15 ?a16 ?l16 ?c16 ?k16 ?n16 ?a17 ?l17 ?c17 ?k17 ?n17 ?a18 ?l18 ?c18 ?k18 ?n18 ?a19 ?l19 ?c19 ?k19 ?n19 ?a20 ?l20 ?c20 ?k20 ?n20 ?a21 ?l21 ?c21 ?k21 ?a22 ?l22 ?c22 ?k22 ?a23 ?l23 ?c23 ?k23 ?a24 ?l24 ?c24 ?k24 ?n24 ?a25 ?l25 ?c25 ?k25 ?n25 ?a26 ?l26 ?c26 ?k26 ?n26 ?a27 ?l27 ?c27 ?k27 ?a28 ?l28 ?c28 ?k28 ?n28 ?a29 ?l29 ?c29 ?k29 ?n29 ?a30 ?l30 ?c30 ?k30 ?a31 ?l31 ?c31 ?k31 ?n31 ?a32 ?l32 ?c32 ?k32 ?a33 ?l33 ?c33 ?k33 ?n33 ?a34 ?l34 ?c34 ?k34 ?a35 ?l35 ?c35 ?k35 ?y0 ?z0 ?z1 ?z2 ?z3 ?z4 ?z5 ?z6 ?z7 ?z8 ?z9
  (case cn1=>k_is)
  (case cp1=>k_is)
  (case ch1=>k_is)
  (case cq1=>k_is)
  (case cs1=>k_is)
  (case cm1=>k_is)
  (case ck1=>k_is)
  (case cx1_0=>k_is)
  (case cx1_1=>k_is)
  (case cx1_2=>k_is)
  (case cn2=>k_is)
  (case cp2=>k_is)
  (case ch2=>k_is)
  (case cq2=>k_is)
  (case cs2=>k_is)
  (case cm2=>k_is)
  (case ck2=>k_is)
  (case cx2_0=>k_is)
  (case cx2_1=>k_is)
  (case cx2_2=>k_is)
  (case cx2_3=>k_is)
  (case cx2_4=>k_is)
  (case cn3=>k_is)
  (case cp3=>k_is)
  (case ch3=>k_is)
  (case cq3=>k_is)
  (case cs3=>k_is)
  (case cm3=>k_is)
  (case ck3=>k_is)
  (case cx3_0=>k_is)
  (case cx3_1=>k_is)
  (case cx3_2=>k_is)
  (case cx3_3=>k_is)
  (case cx3_4=>k_is)
  (case a1=>k_is)
  (case l1=>k_is)
  (case c1=>k_is)
  (case k1=>k_is)
  (case a2=>k_is)
  (case l2=>k_is)
  (case c2=>k_is)
  (case k2=>k_is)
  (case a3=>k_is)
  (case l3=>k_is)
  (case c3=>k_is)
  (case k3=>k_is)
  (case a4=>k_is)
  (case l4=>k_is)
  (case c4=>k_is)
  (case k4=>k_is)
  (case a5=>k_is)
  (case l5=>k_is)
  (case c5=>k_is)
  (case k5=>k_is)
  (case a6=>k_is)
  (case l6=>k_is)
  (case c6=>k_is)
  (case k6=>k_is)
  (case a7=>k_is)
  (case l7=>k_is)
  (case c7=>k_is)
  (case k7=>k_is)
  (case a8=>k_is)
  (case l8=>k_is)
  (case c8=>k_is)
  (case k8=>k_is)
  (case a9=>k_is)
  (case l9=>k_is)
  (case c9=>k_is)
  (case k9=>k_is)
  (case a10=>k_is)
  (case l10=>k_is)
  (case c10=>k_is)
  (case k10=>k_is)
  (case a11=>k_is)
  (case l11=>k_is)
  (case c11=>k_is)
  (case k11=>k_is)
  (case n11=>k_is)
  (case a12=>k_is)
  (case l12=>k_is)
  (case c12=>k_is)
  (case k12=>k_is)
  (case a13=>k_is)
  (case l13=>k_is)
  (case c13=>k_is)
  (case k13=>k_is)
  (case n13=>k_is)
  (case a14=>k_is)
  (case l14=>k_is)
  (case c14=>k_is)
  (case k14=>k_is)
  (case n14=>k_is)
  (case a15=>k_is)
  (case l15=>k_is)
  (case c15=>k_is)
  (case k15=>k_is)
  (case a16=>k_is)
  (case l16=>k_is)
  (case c16=>k_is)
  (case k16=>k_is)
  (case n16=>k_is)
  (case a17=>k_is)
  (case l17=>k_is)
  (case c17=>k_is)
  (case k17=>k_is)
  (case n17=>k_is)
  (case a18=>k_is)
  (case l18=>k_is)
  (case c18=>k_is)
  (case k18=>k_is)
  (case n18=>k_is)
  (case a19=>k_is)
  (case l19=>k_is)
  (case c19=>k_is)
  (case k19=>k_is)
  (case n19=>k_is)
  (case a20=>k_is)
  (case l20=>k_is)
  (case c20=>k_is)
  (case k20=>k_is)
  (case n20=>k_is)
  (case a21=>k_is)
  (case l21=>k_is)
  (case c21=>k_is)
  (case k21=>k_is)
  (case a22=>k_is)
  (case l22=>k_is)
  (case c22=>k_is)
  (case k22=>k_is)
  (case a23=>k_is)
  (case l23=>k_is)
  (case c23=>k_is)
  (case k23=>k_is)
  (case a24=>k_is)
  (case l24=>k_is)
  (case c24=>k_is)
  (case k24=>k_is)
  (case n24=>k_is)
  (case a25=>k_is)
  (case l25=>k_is)
  (case c25=>k_is)
  (case k25=>k_is)
  (case n25=>k_is)
  (case a26=>k_is)
  (case l26=>k_is)
  (case c26=>k_is)
  (case k26=>k_is)
  (case n26=>k_is)
  (case a27=>k_is)
  (case l27=>k_is)
  (case c27=>k_is)
  (case k27=>k_is)
  (case a28=>k_is)
  (case l28=>k_is)
  (case c28=>k_is)
  (case k28=>k_is)
  (case n28=>k_is)
  (case a29=>k_is)
  (case l29=>k_is)
  (case c29=>k_is)
  (case k29=>k_is)
  (case n29=>k_is)
  (case a30=>k_is)
  (case l30=>k_is)
  (case c30=>k_is)
  (case k30=>k_is)
  (case a31=>k_is)
  (case l31=>k_is)
  (case c31=>k_is)
  (case k31=>k_is)
  (case n31=>k_is)
  (case a32=>k_is)
  (case l32=>k_is)
  (case c32=>k_is)
  (case k32=>k_is)
  (case a33=>k_is)
  (case l33=>k_is)
  (case c33=>k_is)
  (case k33=>k_is)
  (case n33=>k_is)
  (case a34=>k_is)
  (case l34=>k_is)
  (case c34=>k_is)
  (case k34=>k_is)
  (case a35=>k_is)
  (case l35=>k_is)
  (case c35=>k_is)
  (case k35=>k_is)
  (case y0=>k_is)
  (case z0=>k_is)
  (case z1=>k_is)
  (case z2=>k_is)
  (case z3=>k_is)
  (case z4=>k_is)
  (case z5=>k_is)
  (case z6=>k_is)
  (case z7=>k_is)
  (case z8=>k_is)
  (case z9=>k_is)
