import PyProof.Rows.All
import Wide.All
import OpenK.AllK
import Wide.FinOn
import Lean
import PyProof.EqAt
import PyProof.EqKinds
import PyProof.TupleCall
import PySem.Challenge.RW_formgrove_k27_joints
namespace FgM
end FgM
namespace Stg
end Stg
set_option Elab.async false
set_option linter.all false
set_option maxRecDepth 100000
namespace L2
open PySem PySem.Spec PyProof.Rows
abbrev Key:=Sum Int Str
def Zgu:Key->Value->Bool
 | .inl k,v=>Value.isInt k v
 | .inr x,v=>Value.isStrOf x v
def Zmy(w:World):Key->Int
 | .inl k=>hashInt k
 | .inr x=>hashStr w x
theorem Zau:∀{k:Key}{v:Value},Zgu k v=true->(∃i t,k=Sum.inl i/\v=Value.int i t)\/(∃x t,k=Sum.inr x/\v=Value.str x t)
 | .inl i,v,h=>by
  obtain⟨t,e⟩:=Value.isInt_shape (k:=i) (v:=v) h;exact .inl ⟨i,t,rfl,e⟩
 | .inr x,v,h=>by
  obtain⟨t,e⟩:=Value.isStrOf_shape (x:=x) (v:=v) h;exact .inr ⟨x,t,rfl,e⟩
theorem Zh4(i:Int)(t:Tok):Zgu (.inl i) (.int i t)=true:=by simp[Zgu,Value.isInt]
theorem ZhC(x:Str)(t:Tok):Zgu (.inr x) (.str x t)=true:=by simp[Zgu,Value.isStrOf]
theorem Zk7(a b:Int):decide ((Sum.inl a:Key)=Sum.inl b)=(a == b):=by
 by_cases e:a=b
 ·subst e;simp
 ·have h : ¬ (Sum.inl a:Key)=Sum.inl b:=fun q=>e (Sum.inl.inj q);rw[decide_eq_false h];exact(beq_eq_false_iff_ne.mpr e).symm
theorem Zli(a b:Str):decide ((Sum.inr a:Key)=Sum.inr b)=decide (a=b):=by
 by_cases e:a=b
 ·subst e;simp
 ·have h : ¬ (Sum.inr a:Key)=Sum.inr b:=fun q=>e (Sum.inr.inj q);rw[decide_eq_false h,decide_eq_false e]
theorem Zkw(a:Int)(b:Str):decide ((Sum.inl a:Key)=Sum.inr b)=false:=decide_eq_false (fun q=>nomatch q)
theorem ZkQ(a:Str)(b:Int):decide ((Sum.inr a:Key)=Sum.inl b)=false:=decide_eq_false (fun q=>nomatch q)
def ZaB(prog:Program)(w:World):PySem.KeyKind prog w Key where
 is:=Zgu
 hash:=Zmy w
 inj:=fun v a b ha hb=>by
  rcases Zau ha with⟨i,t,rfl,rfl⟩|⟨x,t,rfl,rfl⟩
  ·rcases Zau hb with⟨j,u,rfl,e⟩|⟨y,u,rfl,e⟩
   ·injection e with e1 _;rw[e1]
   ·exact nomatch e
  ·rcases Zau hb with⟨j,u,rfl,e⟩|⟨y,u,rfl,e⟩
   ·exact nomatch e
   ·injection e with e1 _;rw[e1]
 byValue:=fun k v h=>by
  rcases Zau h with⟨i,t,rfl,rfl⟩|⟨x,t,rfl,rfl⟩ <;> rfl
 pyHash:=fun hv h=>by
  rcases Zau hv with⟨i,t,rfl,rfl⟩|⟨x,t,rfl,rfl⟩
  ·exact wpAny_pyHash_int h
  ·exact wpAny_pyHash_str h
 eqBool:=fun hu hv h=>by
  rcases Zau hu with⟨i,t,rfl,rfl⟩|⟨x,t,rfl,rfl⟩
  ·rcases Zau hv with⟨j,u,rfl,rfl⟩|⟨y,u,rfl,rfl⟩
   ·rw[Zk7] at h;exact wpAny_eqBool_int h
   ·rw[Zkw] at h;exact SeqAt.EqAt.int_str i t y u _ _ _ _ h
  ·rcases Zau hv with⟨j,u,rfl,rfl⟩|⟨y,u,rfl,rfl⟩
   ·rw[ZkQ] at h;exact SeqAt.EqAt.str_int x t j u _ _ _ _ h
   ·rw[Zli] at h;exact wpAny_eqBool_str h
 «strs» := fun k x t v h=>by
  rcases Zau h with⟨i,u,rfl,e⟩|⟨y,u,rfl,e⟩
  ·exact nomatch e
  ·injection e with e1 _;subst e1;cases v <;> rfl
theorem Zfg(prog:Program)(w:World)(i:Int)(t:Tok):(ZaB prog w).is (.inl i) (.int i t)=true:=Zh4 i t
theorem Zfm(prog:Program)(w:World)(x:Str)(t:Tok):(ZaB prog w).is (.inr x) (.str x t)=true:=ZhC x t
inductive V where
 | non|bl (b:Bool)|int (i:Int)|str (x:Str)|byt (b:Array UInt8)|flt (b:UInt64)|ref (a:Addr)|ty (n:String)
 deriving DecidableEq
def RelV:V->Value->Prop
 | .non,u=>u=Value.none
 | .bl b,u=>u=Value.bool b
 | .int i,u=>∃t,u=Value.int i t
 | .str x,u=>∃t,u=Value.str x t
 | .byt b,u=>∃t,u=Value.bytes b t
 | .flt b,u=>∃t,u=Value.float b t
 | .ref a,u=>u=Value.ref a
 | .ty n,u=>u=Value.type n
abbrev Vals:List V->List Value->Prop:=Paired RelV
theorem Vals.length{xs:List V}{us:List Value}(r:Vals xs us):xs.length=us.length:=Paired.length r
theorem Vals.get:∀{xs:List V}{us:List Value}{i:Nat}{x:V},Vals xs us->xs[i]?= some x->∃u,us[i]?= some u/\RelV x u
 | _,_,_,_,.nil,e=>by simp at e
 | _,_,0,_,.cons r _,e=>by simp at e;subst e;exact⟨_,rfl,r⟩
 | _,_,i+1,x,.cons _ t,e=>by
  obtain⟨u,h1,h2⟩:=Vals.get (i:=i) (x:=x) t (by simpa using e);exact⟨u,by simpa using h1,h2⟩
theorem Vals.set{x:V}{u:Value}(r:RelV x u):∀{xs:List V}{us:List Value}(i:Nat),Vals xs us->Vals (xs.set i x) (us.set i u)
 | _,_,_,.nil=>.nil
 | _,_,0,.cons _ t=>.cons r t
 | _,_,i+1,.cons q t=>.cons q (Vals.set r i t)
theorem Vals.append:∀{xs ys:List V}{us ws:List Value},Vals xs us->Vals ys ws->Vals (xs++ys) (us++ws)
 | _,_,_,_,.nil,s=>s
 | _,_,_,_,.cons r t,s=>.cons r (Vals.append t s)
theorem Vals.take:∀{xs:List V}{us:List Value}(n:Nat),Vals xs us->Vals (xs.take n) (us.take n)
 | _,_,0,_=>.nil
 | _,_,_+1,.nil=>.nil
 | _,_,n+1,.cons r t=>.cons r (Vals.take n t)
theorem Vals.drop:∀{xs:List V}{us:List Value}(n:Nat),Vals xs us->Vals (xs.drop n) (us.drop n)
 | _,_,0,r=>r
 | _,_,_+1,.nil=>.nil
 | _,_,n+1,.cons _ t=>Vals.drop n t
def Zfa:Option V->Option Value->Prop
 | some v,some u=>RelV v u
 | none,none=>True
 | _,_=>False
def KV{κ : Type}:List (κ × V)->List (κ × Value)->Prop:=Paired fun(p : κ × V)(q : κ × Value)=>p.1=q.1/\RelV p.2 q.2
def kV:Key->V
 | .inl i=>.int i
 | .inr x=>.str x
inductive HO where
 | lst (xs:List V)
 | tup (xs:List V)
 | dK (kvs:List (Key×V))|dT (kvs:List (List Key×V))
 | set (S:Int->Bool) (n:Nat)
 | ins (C dx:Addr) (fs:List (Str×V))
 | own (x:Addr)
 | xd (fs:List (Str×V))
 | met (f x:Addr)
 | rng (lo hi:Int)
 | frz (o:Obj) (u:HO)
 | tbl (ps:Array Value)
 | ext (φ : Heap->Prop)
abbrev Hp:=Addr->Option HO
def upd(H:Hp)(a:Addr)(o:HO):Hp:=fun b=>if b=a then some o else H b
theorem Zb{H:Hp}{a:Addr}{o:HO}:upd H a o a=some o:=by unfold upd;rw[if_pos rfl]
theorem Zu{H:Hp}{a b:Addr}{o:HO}(h:b≠a):upd H a o b=H b:=by unfold upd;rw[if_neg h]
theorem Zl5{H:Hp}{a b:Addr}{o u:HO}(h:H a=some o)(h':H b=some u)(d:o≠u):a≠b:=by
 intro e;subst e;rw[h] at h';exact d (Option.some.inj h')
theorem Zq{H:Hp}{a b:Addr}{o:HO}(h:H a=some o)(h':H b=none):a≠b:=by
 intro e;subst e;rw[h] at h';cases h'
section
variable(P:Program)(w:World)
def ZaA(H:Hp)(h:Heap)(a:Addr):HO->Prop
 | .lst xs=>xs.length<=sizeLine/\∃(its:List Value)(n:Nat),Vals xs its/\h.get? a=some { cls:=.type "list",data:=.seq its.toArray n }
 | .tup xs=>xs.length<=sizeLine/\∃its:List Value,Vals xs its/\IsTup h a its.toArray
 | .dK kvs=>kvs.length<=sizeLine/\(a == sysModules)=false/\∃vs,KV kvs vs/\h.DictOf (ZaB P w) a vs
 | .dT kvs=>kvs.length<=sizeLine/\(a == sysModules)=false/\∃xs:List (List Key×Addr×Value),
   Paired (fun(p:List Key×V)(q:List Key×Addr×Value)=>p.1=q.1/\H q.2.1=some (.tup (p.1.map kV))/\RelV p.2 q.2.2) kvs xs /\
   ∃o es ep,h.get? a=some o/\o.ExactDict/\o.data=.dict es ep/\es.toList=xs.map (entryOfKey (tupleKind (ZaB P w)))/\(xs.map (·.1)).Nodup
 | .set S n=>h.SetOf (intKind P w) a S n
 | .ins C dx fs=>H dx=some (.own a)/\fs.length<=1000/\dx≠a/\h.get? a=some (PySem.W.instObj C dx) /\
   ∃mA,h.Ns1 dx mA/\(∀f,Zfa (fs.lookup f) (mA f))/\PySem.Within mA (fs.map (·.1))
 | .own _=>∃o,h.get? a=some o
 | .xd fs=>∃mA,h.Ns1 a mA/\∀f,Zfa (fs.lookup f) (mA f)
 | .rng lo hi=>∃t u v,h.get? a=some { cls:=.type "range",data:=.fields #[.int lo t,.int hi u,.int 1 v] }
 | .frz o u=>h.get? a=some o/\ZaA H h a u
 | .tbl ps=>h.get? a=some { cls:=.none,data:=.fields ps }
 | .met f x=>h.get? a=some (PySem.W.methodObj (.ref f) (.ref x))
 | .ext φ=>φ h/\(∃o,h.get? a=some o)/\∀h1 h2:Heap,φ h1->(∀o,h1.get? a=some o->h2.get? a=some o) -> φ h2
def HOk(H:Hp)(h:Heap):Prop := ∀a o,H a=some o->ZaA P w H h a o
end
section
variable{P:Program}{w:World}{H H':Hp}{h h':Heap}{a:Addr}{o:HO}
theorem ZaA.lt(x:ZaA P w H h a o):a<h.objs.size:=by
 cases o with
 | lst xs=>obtain⟨_,_,_,_,e⟩:=x;exact Heap.lt_size e
 | tup xs=>obtain⟨_,_,_,p⟩:=x;exact p.lt
 | dK kvs=>obtain⟨_,_,_,_,o,_,_,e,_⟩:=x;exact Heap.lt_size e
 | dT kvs=>obtain⟨_,_,_,_,o,_,_,e,_⟩:=x;exact Heap.lt_size e
 | set S n=>obtain⟨o,_,_,_,e,_⟩:=x;exact Heap.lt_size e
 | ins C dx fs=>obtain⟨_,_,_,e,_⟩:=x;exact Heap.lt_size e
 | own y=>obtain⟨_,e⟩:=x;exact Heap.lt_size e
 | xd fs=>obtain⟨_,⟨_,_,_,e,_⟩,_⟩:=x;exact Heap.lt_size e
 | rng lo hi=>obtain⟨_,_,_,e⟩:=x;exact Heap.lt_size e
 | frz ob u=>obtain⟨e,_⟩:=x;exact Heap.lt_size e
 | tbl ps=>exact Heap.lt_size (show h.get? a=some _ from x)
 | met f y=>exact Heap.lt_size (show h.get? a=some _ from x)
 | ext φ=>obtain⟨_,⟨_,e⟩,_⟩:=x;exact Heap.lt_size e
theorem Paired.mapP{α β : Type}{F G : α -> β -> Prop}:∀{l₁ : List α}{l₂ : List β},Paired F l₁ l₂ -> (∀a b,F a b->G a b)->Paired G l₁ l₂
 | _,_,.nil,_=>.nil
 | _,_,.cons r t,f=>.cons (f _ _ r) (Paired.mapP t f)
theorem ZaA.stay(x:ZaA P w H h a o)(k:∀b u,(b=a\/H b=some (.own a))->h.get? b=some u->h'.get? b=some u)
  (ho:∀b,H b=some (.own a)->H' b=some (.own a)) (ht:∀b xs,H b=some (.tup xs)->H' b=some (.tup xs)):ZaA P w H' h' a o:=by
 induction o with
 | lst xs=>obtain⟨z,its,n,r,e⟩:=x;exact⟨z,its,n,r,k _ _ (.inl rfl) e⟩
 | tup xs=>obtain⟨z,its,r,ob,e,c⟩:=x;exact⟨z,its,r,ob,k _ _ (.inl rfl) e,c⟩
 | dK kvs=>obtain⟨z,y,vs,r,ob,es,ep,e,c⟩:=x;exact⟨z,y,vs,r,ob,es,ep,k _ _ (.inl rfl) e,c⟩
 | dT kvs =>
  obtain⟨z,y,xs,r,ob,es,ep,e,c⟩:=x;exact⟨z,y,xs,Paired.mapP r fun p q z=>⟨z.1,ht _ _ z.2.1,z.2.2⟩,ob,es,ep,k _ _ (.inl rfl) e,c⟩
 | set S n=>obtain⟨ob,es,ep,t,e,c⟩:=x;exact⟨ob,es,ep,t,k _ _ (.inl rfl) e,c⟩
 | ins C dx fs =>
  obtain⟨d,z,ne,e,mA,⟨od,es,ep,e2,c⟩,r⟩:=x;exact⟨ho _ d,z,ne,k _ _ (.inl rfl) e,mA,⟨od,es,ep,k _ _ (.inr d) e2,c⟩,r⟩
 | own y=>obtain⟨ob,e⟩:=x;exact⟨ob,k _ _ (.inl rfl) e⟩
 | xd fs=>obtain⟨mA,⟨od,es,ep,e,c⟩,r⟩:=x;exact⟨mA,⟨od,es,ep,k _ _ (.inl rfl) e,c⟩,r⟩
 | rng lo hi=>obtain⟨t,u,v,e⟩:=x;exact⟨t,u,v,k _ _ (.inl rfl) e⟩
 | frz ob u ih=>obtain⟨e,q⟩:=x;exact⟨k _ _ (.inl rfl) e,ih q⟩
 | tbl ps =>
  have e:h.get? a=some { cls:=.none,data:=.fields ps }:=x;show h'.get? a=some { cls:=.none,data:=.fields ps };exact k a _ (.inl rfl) e
 | met f y =>
  have e:h.get? a=some (PySem.W.methodObj (.ref f) (.ref y)):=x;show h'.get? a=some (PySem.W.methodObj (.ref f) (.ref y));exact k a _ (.inl rfl) e
 | ext φ=>obtain⟨p,⟨o,e⟩,st⟩:=x;exact⟨st _ _ p fun o q=>k _ _ (.inl rfl) q,⟨o,k _ _ (.inl rfl) e⟩,st⟩
theorem HOk.lt(x:HOk P w H h)(e:H a=some o):a<h.objs.size:=(x a o e).lt
theorem HOk.fresh(x:HOk P w H h)(e:h.objs.size<=a):H a=none:=by
 cases q:H a with
 | none=>rfl
 | some u=>exact absurd (Nat.lt_of_lt_of_le (x.lt q) e) (Nat.lt_irrefl _)
theorem HOk.kept(x:HOk P w H h)(k:∀b u,h.get? b=some u->h'.get? b=some u):HOk P w H h':=fun a o e =>
 (x a o e).stay (fun b u _ q=>k b u q) (fun _ q=>q) fun _ _ q=>q
theorem HOk.laid(x:HOk P w H h)(k:∀b u,h.get? b=some u->h'.get? b=some u)(hp:h.objs.size<=a)(new:ZaA P w (upd H a o) h' a o):HOk P w (upd H a o) h':=fun b u e=>by
 have hn:=x.fresh hp;by_cases hb:b=a
 ·subst hb;rw[Zb] at e;cases e;exact new
 ·rw[Zu hb] at e;exact(x b u e).stay (fun c v _ q=>k c v q) (fun c q=>by rw[Zu (Zq q hn)];exact q) fun c xs q=>by rw[Zu (Zq q hn)];exact q
end
def Rd(H:Hp)(a:Addr)(u:HO):Prop:=H a=some u\/∃o,H a=some (.frz o u)
theorem Rd.ok{P:Program}{w:World}{H:Hp}{h:Heap}{a:Addr}{u:HO}(r:Rd H a u)(x:HOk P w H h):ZaA P w H h a u:=by
 rcases r with r|⟨o,r⟩
 ·exact x a u r
 ·obtain⟨_,q⟩:=x a _ r;exact q
def Mut:Option HO->Prop
 | some (.lst _)=>True
 | some (.dK _)=>True
 | some (.dT _)=>True
 | some (.set _ _)=>True
 | some (.ins _ _ _)=>True
 | some (.ext _)=>True
 | _=>False
section
variable{P:Program}{w:World}{H:Hp}{h h':Heap}{x e:Addr}{o':HO}
theorem HOk.write(ok:HOk P w H h)(mu:Mut (H x))(he:e=x\/H e=some (.own x))(k:∀b u,b≠e->h.get? b=some u->h'.get? b=some u)(heo:∃u,h'.get? e=some u)
  (new:ZaA P w (upd H x o') h' x o'):HOk P w (upd H x o') h':=fun b u q=>by
 have nown:∀c y,H c=some (.own y)->c≠x:=fun c y r z=>by subst z;rw[r] at mu;exact mu
 have ntup:∀c xs,H c=some (.tup xs)->c≠x:=fun c xs r z=>by subst z;rw[r] at mu;exact mu
 by_cases hb:b=x
 ·subst hb;rw[Zb] at q;cases q;exact new
 ·rw[Zu hb] at q;by_cases hbe:b=e
  ·have q':H b=some (.own x):=by
    rcases he with z|z
    ·exact absurd (hbe.trans z) hb
    ·rw[hbe];exact z
   rw[q] at q';cases q';obtain⟨v,hv⟩:=heo;exact⟨v,by rw[hbe];exact hv⟩
  ·refine(ok b u q).stay (fun c v hc r=>k c v ?_ r) (fun c r=>by rw[Zu (nown c b r)];exact r) fun c xs r=>by rw[Zu (ntup c xs r)];exact r
   rcases hc with rfl|hc
   ·exact hbe
   ·rintro rfl;rcases he with z|z
    ·exact nown c b hc z
    ·rw[hc] at z;cases z;exact hb rfl
end
structure Un(fs ex:List Addr)(H H':Hp)(h h':Heap):Prop where
 keep:∀b o,h.get? b=some o->H b=none->b∉fs->b∉ex->h'.get? b=some o
 slot:∀b o,h.get? b=some o->H b=none->b∈fs->b∉ex->∃sl,h'.get? b=some { o with slots:=sl }
 free:∀b o,h.get? b=some o->H b=none->b∉ex->H' b=none
 there:∀b o,h.get? b=some o->b∉ex->∃o',h'.get? b=some o'
 tups:∀b xs,H b=some (.tup xs)->H' b=some (.tup xs)
 frzs:∀b o u,H b=some (.frz o u)->H' b=some (.frz o u)
 tbls:∀b ps,H b=some (.tbl ps)->∃more,H' b=some (.tbl (ps++more))
section
variable{fs fs' ex ex':List Addr}{H H1 H2:Hp}{h h1 h2 h':Heap}{a x e:Addr}{o:HO}
theorem Un.any(u:Un fs ex H H1 h h1){b:Addr}{ob:Obj}(q:h.get? b=some ob)(n:H b=none)(hx:b∉ex):∃sl,h1.get? b=some { ob with slots:=sl }:=by
 by_cases hb:b∈fs
 ·exact u.slot b ob q n hb hx
 ·exact⟨ob.slots,u.keep b ob q n hb hx⟩
theorem Un.kept(k:∀b u,h.get? b=some u->h'.get? b=some u):Un fs ex H H h h' :=
 ⟨fun b ob q _ _ _=>k b ob q,fun b ob q _ _ _=>⟨ob.slots,k b ob q⟩,fun _ _ _ n _=>n,fun b ob q _=>⟨ob,k b ob q⟩,fun _ _ q=>q,fun _ _ _ q=>q,fun _ ps q=>⟨#[],by rw[q];simp⟩⟩
theorem Un.refl:Un fs ex H H h h:=Un.kept fun _ _ q=>q
theorem Un.laid(k:∀b u,h.get? b=some u->h'.get? b=some u)(hp:h.objs.size<=a)(hn:H a=none):Un fs ex H (upd H a o) h h' where
 keep:=fun b u q _ _ _=>k b u q
 slot:=fun b u q _ _ _=>⟨u.slots,k b u q⟩
 free:=fun b u q n _=>by rw[Zu (Nat.ne_of_lt (Nat.lt_of_lt_of_le (Heap.lt_size q) hp))];exact n
 there:=fun b u q _=>⟨u,k b u q⟩
 tups:=fun b xs q=>by rw[Zu (Zq q hn)];exact q
 frzs:=fun b u xs q=>by rw[Zu (Zq q hn)];exact q
 tbls:=fun b ps q=>⟨#[],by rw[Zu (Zq q hn),q];simp⟩
theorem Un.write(mu:Mut (H x))(he:e=x\/H e=some (.own x))(k:∀b u,b≠e->h.get? b=some u->h'.get? b=some u)(heo:∃u,h'.get? e=some u):Un fs ex H (upd H x o) h h':=by
 have hx:∀b,H b=none->b≠x:=fun b n z=>by subst z;rw[n] at mu;exact mu
 have hb:∀b,H b=none->b≠e:=fun b n z=>by
  subst z;rcases he with r|r
  ·exact hx b n r
  ·rw[n] at r;cases r
 have hm:∀b u,H b=some u -> ¬ Mut (some u)->b≠x:=fun b u q nm z=>by subst z;rw[q] at mu;exact nm mu
 refine⟨fun b u q n _ _=>k b u (hb b n) q,fun b u q n _ _=>⟨u.slots,k b u (hb b n) q⟩,fun b u q n _=>by rw[Zu (hx b n)];exact n,fun b u q _=>?_,
  fun b xs q=>by rw[Zu (hm b _ q fun z=>z)];exact q,fun b u xs q=>by rw[Zu (hm b _ q fun z=>z)];exact q,fun b ps q=>⟨#[],by rw[Zu (hm b _ q fun z=>z),q];simp⟩⟩
 by_cases hbe:b=e
 ·subst hbe;exact heo
 ·exact⟨u,k b u hbe q⟩
end
def trk(h:Heap)(H:Hp):List Addr:=(List.range h.objs.size).filter fun a=>(H a).isSome
def ZiR(h:Heap)(H:Hp):Heap:=PySem.W.hideAll h (trk h H)
theorem Zg4(h:Heap)(H:Hp):(ZiR h H).objs.size=h.objs.size:=PySem.W.hideAll_size _ _
theorem ZiL{h:Heap}{H:Hp}{b:Addr}{o:Obj}(e:h.get? b=some o)(n:H b=none):(ZiR h H).get? b=some o :=
 PySem.W.hideAll_get _ e fun hm=>by
  have q:(H b).isSome=true:=(List.mem_filter.mp hm).2;rw[n] at q;simp at q
theorem ZjX{h:Heap}{H:Hp}{b:Addr}{o:Obj}(e:(ZiR h H).get? b=some o):h.get? b=some o/\H b=none:=by
 have e':h.get? b=some o:=PySem.W.of_hideAll (trk h H) e;refine⟨e',?_⟩;cases q:H b with
 | none=>rfl
 | some x =>
  have hm:b∈trk h H:=List.mem_filter.mpr ⟨List.mem_range.mpr (Heap.lt_size e'),by simp[q]⟩;have z:(ZiR h H).get? b=none:=PySem.W.hideAll_none (trk h H) hm;rw[z] at e;cases e
structure Mod(K:PySem.W.Frag)(mg:Str->Option Value)(base:Heap):Prop where
 kin:K.In base
 glob:base.Ns mainGlobals mg
 blt:∃mb,base.Ns builtinsNs mb/\∀x:Str,x ≠ "__name__" -> mb x=bootBuiltins x
 nolimit:base.NoLimit
/-- the context: a def's body (or a comprehension's block) running. base: fixed through the whole law;s₀,H₀: the entry;outer: the frames whose slots others may change (a def's callers);stack: all frames that run;
   ex: iterators that were made ahead of the entry and are walked here (a comprehension's);fn: the names whose cells were made at the entry (a def: all;a comprehension's block: its own);calm: not within an except suite;pn: pins that every state bears;xe: what is wanted of an exception that leaves the code -/
structure Cx where
 prog:Program
 w:World
 K:PySem.W.Frag
 mg:Str->Option Value
 base:Heap
 A:Around
 N:List Str
 s₀ : Shared
 H₀ : Hp
 env:Env
 outer:List Env
 stack:List Env
 ex:List Addr
 fn:Str->Bool
 calm:Bool
 pn:List (Addr×Obj)
 xe:Value->Shared->Prop
def frs(l:List Env):List Addr:=l.filterMap (·.frame)
abbrev Cx.fs(X:Cx):List Addr:=frs X.outer
def Vis(sc:Scope)(x:Str):Prop:=sc.names.lookup x=some .local\/sc.names.lookup x=some .cell\/sc.names.lookup x=some .free
def Loc(sc:Scope)(x:Str):Prop:=sc.names.lookup x=some .local\/sc.names.lookup x=some .cell
def Look(env:Env)(h:Heap)(m:Str->Option Value)(x:Str)(u:Value):Prop :=
 (env.kindOf x=some .local/\m x=some u)\/((env.kindOf x=some .cell\/env.kindOf x=some .free)/\∃c,env.cells.lookup x=some c/\h.IsCell c (some u))
structure Cx.Ok(X:Cx):Prop where
 mod:Mod X.K X.mg X.base
 kind:X.env.scope.kind=.function
 glob:X.env.globals=mainGlobals
 blt:X.env.builtins=builtinsNs
 above:X.s₀.heap.objs.size<=X.env.locals
 inj:∀x y c,X.env.cells.lookup x=some c->X.env.cells.lookup y=some c->x=y
 has:∀x,(X.env.kindOf x=some .cell\/X.env.kindOf x=some .free)->∃c,X.env.cells.lookup x=some c
 cab:∀x c,X.fn x=true->X.env.cells.lookup x=some c->X.s₀.heap.objs.size<=c
 hd:X.calm=true->X.A.handled=none
 frames:X.A.frames=some X.stack
 stk:X.stack=X.outer\/(X.stack=X.env::X.outer/\X.env.frame=some X.env.locals)
 exf:∀b∈X.ex,b≠X.env.locals/\∀x c,X.env.cells.lookup x=some c->c≠b
 bs:∀b o,X.base.get? b=some o->X.s₀.heap.get? b=some o/\X.H₀ b=none
 bsz:X.base.objs.size<=X.s₀.heap.objs.size
 noex:∀b o,X.base.get? b=some o->b∉X.ex
 exfs:∀b∈X.ex,b∉X.fs
 funs:X.s₀.heap.FunFrames X.base X.outer
 frf:∀b∈X.fs,X.H₀ b=none
structure Inv(X:Cx)(pins:List (Addr×Obj))(σ : List (Option V))(H:Hp)(s:Shared):Prop where
 ok:X.Ok
 os:s.os=X.s₀.os
 bare:AllBare s.gens
 base:Un X.fs X.ex X.H₀ H X.s₀.heap s.heap
 loc:∃m,s.heap.Ns X.env.locals m/\∀(i:Nat)(x:Str)(v:V),X.N[i]?= some x -> σ[i]?= some (some v)->Vis X.env.scope x->∃u,RelV v u/\Look X.env s.heap m x u
 cell:∀x c,X.env.cells.lookup x=some c->∃v,s.heap.IsCell c v
 free:H X.env.locals=none
 freeC:∀x c,X.env.cells.lookup x=some c->H c=none
 pin:∀p∈X.pn++pins,s.heap.get? p.1=some p.2/\H p.1=none/\p.1≠X.env.locals/\p.1∉X.fs/\∀v,p.2.data ≠ .cell v
 hok:HOk X.prog X.w H s.heap
 len : σ.length=X.N.length
section
variable{X:Cx}{pins:List (Addr×Obj)}{σ : List (Option V)}{H H':Hp}{s:Shared}{h':Heap}
theorem Cx.Ok.nofr(ok:X.Ok){b:Addr}{o:Obj}(e:X.base.get? b=some o):b∉X.fs:=fun hb=>by
 have:=(ok.funs.mem hb).1;rw[e] at this;cases this
theorem Inv.bs(I:Inv X pins σ H s):∀b o,X.base.get? b=some o->s.heap.get? b=some o/\H b=none:=fun b o e =>
 ⟨I.base.keep b o (I.ok.bs b o e).1 (I.ok.bs b o e).2 (I.ok.nofr e) (I.ok.noex b o e),I.base.free b o (I.ok.bs b o e).1 (I.ok.bs b o e).2 (I.ok.noex b o e)⟩
theorem Inv.bk(I:Inv X pins σ H s):∀b o,X.base.get? b=some o->s.heap.get? b=some o:=fun b o e=>(I.bs b o e).1
theorem Inv.mod(I:Inv X pins σ H s):Mod X.K X.mg X.base:=I.ok.mod
theorem Inv.kIn(I:Inv X pins σ H s):X.K.In s.heap:=I.ok.mod.kin.keeps I.bk
theorem Inv.lt(I:Inv X pins σ H s):X.env.locals<s.heap.objs.size:=let ⟨_,hn,_⟩:=I.loc;hn.lt
theorem Inv.sz(I:Inv X pins σ H s):X.s₀.heap.objs.size<=s.heap.objs.size:=Nat.le_trans I.ok.above (Nat.le_of_lt I.lt)
theorem Inv.nofs(I:Inv X pins σ H s){a:Addr}(h:s.heap.objs.size<=a):a∉X.fs:=fun hb=>by
 obtain⟨_,o,ho,_⟩:=I.ok.funs.mem hb;exact absurd (Nat.lt_of_lt_of_le (Heap.lt_size ho) (Nat.le_trans I.sz h)) (Nat.lt_irrefl _)
theorem Inv.cne(I:Inv X pins σ H s):∀x c,X.env.cells.lookup x=some c->c≠X.env.locals:=fun x c e z=>by
 obtain⟨v,o,ho,hd⟩:=I.cell x c e;obtain⟨m,⟨o',es,ep,ho',hd',_⟩,_⟩:=I.loc;rw[z,ho'] at ho;cases ho;rw[hd'] at hd;cases hd
theorem Inv.funs(I:Inv X pins σ H s):s.heap.FunFrames X.base X.outer:=by
 have all:∀(l:List Env),(∀b∈frs l,b∈X.fs)->X.s₀.heap.FunFrames X.base l->s.heap.FunFrames X.base l:=by
  intro l
  induction l with
  | nil=>intro _ _;trivial
  | cons env r ih =>
   intro hs hl;obtain⟨hk,⟨L,o,hf,hn,ho,hd⟩,hr⟩:=hl;have hL:L∈X.fs:=hs L (by unfold frs;rw[List.filterMap_cons,hf];exact List.mem_cons_self);obtain⟨sl,e⟩:=I.base.slot L o ho (I.ok.frf L hL) hL fun z=>I.ok.exfs L z hL;exact⟨hk,⟨L,_,hf,hn,e,hd⟩,ih (fun b hb=>hs b (by unfold frs;rw[List.filterMap_cons,hf];exact List.mem_cons_of_mem _ hb)) hr⟩
 exact all X.outer (fun _ hb=>hb) I.ok.funs
theorem Inv.stack(I:Inv X pins σ H s):s.heap.FunFrames X.base X.stack:=by
 rcases I.ok.stk with e|⟨e,hf⟩
 ·rw[e];exact I.funs
 ·rw[e];obtain⟨m,hn,_⟩:=I.loc;refine .cons (by rw[I.ok.kind];decide) hf hn ?_ I.funs;exact Heap.get?_none_of_le (Nat.le_trans I.ok.bsz I.ok.above)
theorem Inv.stkSub(I:Inv X pins σ H s):∀b∈frs X.stack,b∈X.env.locals::X.fs:=fun b hb=>by
 rcases I.ok.stk with e|⟨e,hf⟩
 ·rw[e] at hb;exact List.mem_cons_of_mem _ hb
 ·rw[e] at hb;unfold frs at hb;rw[List.filterMap_cons,hf] at hb;exact hb
theorem Inv.stkFree(I:Inv X pins σ H s):∀b∈frs X.stack,H b=none:=fun b hb=>by
 rcases List.mem_cons.mp (I.stkSub b hb) with e|hb
 ·rw[e];exact I.free
 ·obtain⟨_,o,ho,_⟩:=I.ok.funs.mem hb;exact I.base.free b o ho (I.ok.frf b hb) fun z=>I.ok.exfs b z hb
theorem Inv.step{g':Array GenState}{t':Nat}{d':Drawn}{ch:List Addr}(I:Inv X pins σ H s)
  (hch:∀b∈ch,(b∈X.ex\/X.s₀.heap.objs.size<=b)/\b≠X.env.locals/\(∀x c,X.env.cells.lookup x=some c->c≠b)/\∀p∈X.pn++pins,p.1≠b)
  (keep:∀b o,b≠X.env.locals->b∉X.fs->b∉ch->s.heap.get? b=some o->H b=none->h'.get? b=some o)
  (slot:∀b o,b≠X.env.locals->b∈X.fs->b∉ch->s.heap.get? b=some o->H b=none->∃sl,h'.get? b=some { o with slots:=sl }) (free:∀b o,b∉ch->s.heap.get? b=some o->H b=none->H' b=none)
  (there:∀b o,b∉ch->s.heap.get? b=some o->∃o',h'.get? b=some o')
  (tups:∀b xs,H b=some (.tup xs)->H' b=some (.tup xs)) (frzs:∀b o u,H b=some (.frz o u)->H' b=some (.frz o u)) (tbls:∀b ps,H b=some (.tbl ps)->∃more,H' b=some (.tbl (ps++more)))
  (ns:∀m,s.heap.Ns X.env.locals m->h'.Ns X.env.locals m) (hok:HOk X.prog X.w H' h') (hg:AllBare g') :
  Inv X pins σ H' { s with heap:=h',gens:=g',drawn:=d',toks:=t' }:=by
 have neL:∀b o,X.s₀.heap.get? b=some o->b≠X.env.locals:=fun b o e=>Nat.ne_of_lt (Nat.lt_of_lt_of_le (Heap.lt_size e) I.ok.above);have neC:∀b o,X.s₀.heap.get? b=some o->b∉X.ex->b∉ch:=fun b o e hx hb=>by
  rcases(hch b hb).1 with z|z
  ·exact hx z
  ·exact absurd (Nat.lt_of_lt_of_le (Heap.lt_size e) z) (Nat.lt_irrefl _)
 have cellK:∀x c,X.env.cells.lookup x=some c->∀v,s.heap.IsCell c v->h'.IsCell c v:=fun x c e v ⟨o,ho,hd⟩=>by
  have nch:c∉ch:=fun z=>(hch c z).2.2.1 x c e rfl;by_cases hc:c∈X.fs
  ·obtain⟨sl,q⟩:=slot c o (I.cne x c e) hc nch ho (I.freeC x c e);exact⟨_,q,hd⟩
  ·exact⟨o,keep c o (I.cne x c e) hc nch ho (I.freeC x c e),hd⟩
 refine⟨I.ok,I.os,hg,⟨fun b o e n hb hx=>?_,fun b o e n hb hx=>?_,fun b o e n hx=>?_,fun b o e hx=>?_,fun b xs e=>tups b xs (I.base.tups b xs e),fun b o xs e=>frzs b o xs (I.base.frzs b o xs e),fun b ps e=>?_⟩,?_,fun x c e=>?_,?_,fun x c e=>?_,fun p hp=>?_,hok,I.len⟩
 ·exact keep b o (neL b o e) hb (neC b o e hx) (I.base.keep b o e n hb hx) (I.base.free b o e n hx)
 ·obtain⟨sl,e1⟩:=I.base.slot b o e n hb hx;obtain⟨sl',e2⟩:=slot b _ (neL b o e) hb (neC b o e hx) e1 (I.base.free b o e n hx);exact⟨sl',e2⟩
 ·obtain⟨o',e1⟩:=I.base.there b o e hx;exact free b o' (neC b o e hx) e1 (I.base.free b o e n hx)
 ·obtain⟨o',e1⟩:=I.base.there b o e hx;exact there b o' (neC b o e hx) e1
 ·obtain⟨m1,e1⟩:=I.base.tbls b ps e;obtain⟨m2,e2⟩:=tbls b _ e1;exact⟨m1++m2,by rw[e2,Array.append_assoc]⟩
 ·obtain⟨m,hn,hl⟩:=I.loc;refine⟨m,ns m hn,fun i x v e1 e2 e3=>?_⟩;obtain⟨u,r,l⟩:=hl i x v e1 e2 e3;refine⟨u,r,?_⟩;rcases l with l|⟨k,c,e,z⟩
  ·exact .inl l
  ·exact .inr ⟨k,c,e,cellK x c e _ z⟩
 ·obtain⟨v,z⟩:=I.cell x c e;exact⟨v,cellK x c e v z⟩
 ·obtain⟨m,⟨o,_,_,ho,_⟩,_⟩:=I.loc;exact free _ o (fun z=>(hch _ z).2.1 rfl) ho I.free
 ·obtain⟨v,o,ho,hd⟩:=I.cell x c e;exact free c o (fun z=>(hch c z).2.2.1 x c e rfl) ho (I.freeC x c e)
 ·obtain⟨e,n,ne,nf,d⟩:=I.pin p hp;have nch:p.1∉ch:=fun z=>(hch p.1 z).2.2.2 p hp rfl;exact⟨keep p.1 p.2 ne nf nch e n,free p.1 p.2 nch e n,ne,nf,d⟩
theorem Inv.un{t':Nat}(I:Inv X pins σ H s)(u:Un X.fs [] H H' s.heap h')(hok:HOk X.prog X.w H' h'):Inv X pins σ H' { s with heap:=h',toks:=t' }:=by
 obtain⟨m,⟨o,es,ep,ho,r⟩,_⟩:=id I.loc;obtain⟨sl,hL⟩:=u.any ho I.free (by simp);exact I.step (g':=s.gens) (d':=s.drawn) (ch:=[]) (fun _ z=>nomatch z) (fun b o _ hb _ e n=>u.keep b o e n hb (by simp)) (fun b o _ hb _ e n=>u.slot b o e n hb (by simp)) (fun b o _ e n=>u.free b o e n (by simp)) (fun b o _ e=>u.there b o e (by simp)) u.tups u.frzs u.tbls (fun m' hm=>by
  obtain⟨o',es',ep',ho',r'⟩:=hm;rw[ho] at ho';cases ho';exact⟨_,es',ep',hL,r'⟩) hok I.bare
theorem Inv.call{g':Array GenState}{t':Nat}{d':Drawn}{ch:List Addr}(I:Inv X pins σ H s)(u:Un (frs X.stack) ch H H' s.heap h')(hok:HOk X.prog X.w H' h')(hg:AllBare g')
  (hch:∀b∈ch,(b∈X.ex\/X.s₀.heap.objs.size<=b)/\b≠X.env.locals/\(∀x c,X.env.cells.lookup x=some c->c≠b)/\∀p∈X.pn++pins,p.1≠b) :
  Inv X pins σ H' { s with heap:=h',gens:=g',drawn:=d',toks:=t' }:=by
 obtain⟨m,⟨o,es,ep,ho,r⟩,_⟩:=id I.loc;obtain⟨sl,hL⟩:=u.any ho I.free fun z=>(hch _ z).2.1 rfl;exact I.step (ch:=ch) hch (fun b o hL hb hc e n=>u.keep b o e n (fun z=>(List.mem_cons.mp (I.stkSub b z)).elim hL hb) hc) (fun b o _ _ hc e n=>u.any e n hc) (fun b o hc e n=>u.free b o e n hc) (fun b o hc e=>u.there b o e hc) u.tups u.frzs u.tbls (fun m' hm=>by
  obtain⟨o',es',ep',ho',r'⟩:=hm;rw[ho] at ho';cases ho';exact⟨_,es',ep',hL,r'⟩) hok hg
theorem Inv.turned{t':Nat}{it:Addr}(I:Inv X pins σ H s)(k:∀b o,b≠it->s.heap.get? b=some o->h'.get? b=some o)(hn:H it=none)(hL:it≠X.env.locals)
  (h1:it∈X.ex\/X.s₀.heap.objs.size<=it) (h2:∀x c,X.env.cells.lookup x=some c->c≠it) (h3:∀p∈X.pn++pins,p.1≠it):Inv X pins σ H { s with heap:=h',toks:=t' }:=by
 have nit:∀b u,H b=some u->b≠it:=fun b u e z=>by rw[z,hn] at e;cases e
 refine I.step (g':=s.gens) (d':=s.drawn) (ch:=[it]) (fun b hb=>?_) (fun b o _ _ hc e _=>k b o (fun z=>hc (by simp[z])) e) (fun b o _ _ hc e _=>⟨o.slots,k b o (fun z=>hc (by simp[z])) e⟩) (fun _ _ _ _ n=>n)
  (fun b o hc e=>⟨o,k b o (fun z=>hc (by simp[z])) e⟩) (fun _ _ e=>e) (fun _ _ _ e=>e) (fun b ps e=>⟨#[],by rw[e];simp⟩) (fun m hm=>?_) (fun b u e=>?_) I.bare
 ·have e:b=it:=by simpa using hb
  subst e;exact⟨h1,hL,h2,h3⟩
 ·obtain⟨o,es,ep,ho,r⟩:=hm;exact⟨o,es,ep,k _ o (Ne.symm hL) ho,r⟩
 ·refine(I.hok b u e).stay (fun c v hc q=>k c v ?_ q) (fun _ q=>q) fun _ _ q=>q;rcases hc with z|z
  ·rw[z];exact nit b u e
  ·exact nit c _ z
theorem Inv.tok(I:Inv X pins σ H s)(t:Nat):Inv X pins σ H { s with toks:=t }:=I.un (h':=s.heap) (t':=t) Un.refl I.hok
theorem Inv.kept{t':Nat}(I:Inv X pins σ H s)(k:∀b u,s.heap.get? b=some u->h'.get? b=some u):Inv X pins σ H { s with heap:=h',toks:=t' }:=I.un (Un.kept k) (I.hok.kept k)
theorem Inv.laid{a:Addr}{o:HO}{t':Nat}(I:Inv X pins σ H s)(k:∀b u,s.heap.get? b=some u->h'.get? b=some u)(hp:s.heap.objs.size<=a)(new:ZaA X.prog X.w (upd H a o) h' a o) :
  Inv X pins σ (upd H a o) { s with heap:=h',toks:=t' }:=I.un (Un.laid k hp (I.hok.fresh hp)) (I.hok.laid k hp new)
theorem Inv.write{x e:Addr}{o:HO}{t':Nat}(I:Inv X pins σ H s)(mu:Mut (H x))(he:e=x\/H e=some (.own x))(k:∀b u,b≠e->s.heap.get? b=some u->h'.get? b=some u)(heo:∃u,h'.get? e=some u)
  (new:ZaA X.prog X.w (upd H x o) h' x o):Inv X pins σ (upd H x o) { s with heap:=h',toks:=t' }:=I.un (Un.write mu he k heo) (I.hok.write mu he k heo new)
theorem Inv.pins_of{pins':List (Addr×Obj)}(I:Inv X pins σ H s)(h:∀p∈pins',s.heap.get? p.1=some p.2/\H p.1=none/\p.1≠X.env.locals/\p.1∉X.fs/\∀v,p.2.data ≠ .cell v):Inv X pins' σ H s :=
 ⟨I.ok,I.os,I.bare,I.base,I.loc,I.cell,I.free,I.freeC,fun p hp=>(List.mem_append.mp hp).elim (fun z=>I.pin p (List.mem_append_left _ z)) (h p),I.hok,I.len⟩
theorem Zei{N:List Str}(hN:N.Nodup){i j:Nat}{x:Str}(a:N[i]?= some x)(b:N[j]?= some x):i=j:=by
 obtain⟨h1,e1⟩:=List.getElem?_eq_some_iff.mp a;obtain⟨h2,e2⟩:=List.getElem?_eq_some_iff.mp b;exact(List.getElem_inj hN).mp (e1.trans e2.symm)
theorem ZeM{M:Model}{A:Around}{E:Value->Shared->Prop}{i:Nat}{x:Str}{v:V}{u:Value}{Q:Unit->Shared->Prop}(I:Inv X pins σ H s)(hN:X.N.Nodup)(hi:X.N[i]?= some x)(hx:Loc X.env.scope x)(r:RelV v u)
  (h:∀s',Inv X pins (σ.set i (some v)) H s'->(∃a,Heap.SameBut a s.heap s'.heap/\(a=X.env.locals\/X.env.cells.lookup x=some a))->Q () s') (hf:X.fn x=true\/X.env.scope.names.lookup x=some .local:=by first|exact .inl rfl|exact .inr rfl|assumption):wpAny M A (storeName X.env x u) Q E s:=by
 obtain⟨m,hn,hl⟩:=id I.loc;have hcls:(X.env.scope.kind ==.class || (X.env.scope.kind ==.module&&X.env.locals != X.env.globals))=false:=by rw[I.ok.kind];rfl
 have hiσ : i < σ.length:=by rw[I.len];exact(List.getElem?_eq_some_iff.mp hi).1
 have cne:=I.cne;have tracked:∀{a:Addr}{h':Heap},(∃o,s.heap.get? a=some o/\H a=none)->Heap.SameBut a s.heap h'->HOk X.prog X.w H h':=fun{a h'} ha hs b ob e=>by
  obtain⟨_,_,hfree⟩:=ha;refine(I.hok b ob e).stay (fun c w' hc q=>(hs.2 c ?_).trans q) (fun _ q=>q) fun _ _ q=>q;rintro rfl;rcases hc with rfl|hc
  ·rw[hfree] at e;cases e
  ·rw[hfree] at hc;cases hc
 rcases hx with hk|hk
 ·refine wpAny_storeName_local hk hn (fun h' hn' hs=>?_) hcls;obtain⟨oL,_,_,hoL,_⟩:=id hn;refine h _ ⟨I.ok,I.os,I.bare,⟨fun b o e n hb hx=>?_,fun b o e n hb hx=>?_,I.base.free,fun b o e hx=>?_,I.base.tups,I.base.frzs,I.base.tbls⟩,⟨_,hn',fun j y v' e1 e2 e3=>?_⟩,fun y c e=>?_,I.free,I.freeC,fun p hp=>?_,tracked ⟨oL,hoL,I.free⟩ hs,by simpa using I.len⟩ ⟨_,hs,.inl rfl⟩
  ·exact(hs.2 b (Nat.ne_of_lt (Nat.lt_of_lt_of_le (Heap.lt_size e) I.ok.above))).trans (I.base.keep b o e n hb hx)
  ·obtain⟨sl,e1⟩:=I.base.slot b o e n hb hx;exact⟨sl,(hs.2 b (Nat.ne_of_lt (Nat.lt_of_lt_of_le (Heap.lt_size e) I.ok.above))).trans e1⟩
  ·obtain⟨o',e1⟩:=I.base.there b o e hx;exact⟨o',(hs.2 b (Nat.ne_of_lt (Nat.lt_of_lt_of_le (Heap.lt_size e) I.ok.above))).trans e1⟩
  ·by_cases hj:j=i
   ·subst hj;rw[hi] at e1;cases e1;rw[List.getElem?_set_self hiσ] at e2;cases e2;exact⟨u,r,.inl ⟨hk,by simp⟩⟩
   ·rw[List.getElem?_set_ne (Ne.symm hj)] at e2;obtain⟨u',r',q⟩:=hl j y v' e1 e2 e3;refine⟨u',r',?_⟩;rcases q with⟨k,e⟩|⟨k,c,e,z⟩
    ·refine .inl ⟨k,?_⟩;have:y≠x:=fun e=>hj (Zei hN e1 (e ▸ hi));simp[this,e]
    ·exact .inr ⟨k,c,e,z.sameBut hs (cne y c e)⟩
  ·obtain⟨w',z⟩:=I.cell y c e;exact⟨w',z.sameBut hs (cne y c e)⟩
  ·obtain⟨e,n,ne,nf,d⟩:=I.pin p hp;exact⟨(hs.2 p.1 ne).trans e,n,ne,nf,d⟩
 ·have hfn:X.fn x=true:=by
   rcases hf with z|z
   ·exact z
   ·rw[z] at hk;cases hk
  obtain⟨c,hc⟩:=I.ok.has x (.inl hk);obtain⟨w',z⟩:=I.cell x c hc;refine wpAny_storeName_cell I.ok.kind hk hc z (fun h' hc' hs=>?_);obtain⟨oc,hoc,hocd⟩:=id z;refine h { s with heap:=h' } ⟨I.ok,I.os,I.bare,⟨fun b o e n hb hx=>?_,fun b o e n hb hx=>?_,I.base.free,fun b o e hx=>?_,I.base.tups,I.base.frzs,I.base.tbls⟩,⟨m,hn.sameBut hs (Ne.symm (cne x c hc)),fun j y v' e1 e2 e3=>?_⟩,fun y c' e=>?_,I.free,I.freeC,fun p hp=>?_,tracked ⟨oc,hoc,I.freeC x c hc⟩ hs,by simpa using I.len⟩ ⟨c,hs,.inr hc⟩
  ·exact(hs.2 b (Nat.ne_of_lt (Nat.lt_of_lt_of_le (Heap.lt_size e) (I.ok.cab x c hfn hc)))).trans (I.base.keep b o e n hb hx)
  ·obtain⟨sl,e1⟩:=I.base.slot b o e n hb hx;exact⟨sl,(hs.2 b (Nat.ne_of_lt (Nat.lt_of_lt_of_le (Heap.lt_size e) (I.ok.cab x c hfn hc)))).trans e1⟩
  ·obtain⟨o',e1⟩:=I.base.there b o e hx;exact⟨o',(hs.2 b (Nat.ne_of_lt (Nat.lt_of_lt_of_le (Heap.lt_size e) (I.ok.cab x c hfn hc)))).trans e1⟩
  ·by_cases hj:j=i
   ·subst hj;rw[hi] at e1;cases e1;rw[List.getElem?_set_self hiσ] at e2;cases e2;exact⟨u,r,.inr ⟨.inl hk,c,hc,hc'⟩⟩
   ·rw[List.getElem?_set_ne (Ne.symm hj)] at e2;obtain⟨u',r',q⟩:=hl j y v' e1 e2 e3;refine⟨u',r',?_⟩;rcases q with q|⟨k,c',e,z'⟩
    ·exact .inl q
    ·refine .inr ⟨k,c',e,z'.sameBut hs ?_⟩;rintro rfl;exact hj (Zei hN e1 (I.ok.inj _ _ _ e hc ▸ hi))
  ·by_cases hcc:c'=c
   ·subst hcc;exact⟨_,hc'⟩
   ·obtain⟨w2,z2⟩:=I.cell y c' e;exact⟨w2,z2.sameBut hs hcc⟩
  ·obtain⟨e,n,ne,nf,d⟩:=I.pin p hp;refine⟨(hs.2 p.1 ?_).trans e,n,ne,nf,d⟩;intro q;rw[q,hoc] at e;have q':oc=p.2:=Option.some.inj e;exact d w' (by rw[<- q'];exact hocd)
theorem ZbN{M:Model}{A:Around}{E:Value->Shared->Prop}{i:Nat}{x:Str}{v:V}{u:Value}{Q:Unit->Shared->Prop}(I:Inv X pins σ H s)(hN:X.N.Nodup)(hi:X.N[i]?= some x)(hx:Loc X.env.scope x)(r:RelV v u)
  (h:∀s',Inv X pins (σ.set i (some v)) H s'->Q () s') (hf:X.fn x=true\/X.env.scope.names.lookup x=some .local:=by first|exact .inl rfl|exact .inr rfl|assumption):wpAny M A (storeName X.env x u) Q E s :=
 ZeM I hN hi hx r (fun s' I' _=>h s' I') hf
theorem Inv.call'{s':Shared}{ch:List Addr}(I:Inv X pins σ H s)(ho:s'.os=s.os)(u:Un (frs X.stack) ch H H' s.heap s'.heap)(hok:HOk X.prog X.w H' s'.heap)(hg:AllBare s'.gens)
  (hch:∀b∈ch,(b∈X.ex\/X.s₀.heap.objs.size<=b)/\b≠X.env.locals/\(∀x c,X.env.cells.lookup x=some c->c≠b)/\∀p∈X.pn++pins,p.1≠b):Inv X pins σ H' s':=by
 obtain⟨h',g',d',t',o'⟩:=s';have e:o'=s.os:=ho;subst e;exact I.call (g':=g') (t':=t') (d':=d') u hok hg hch
end
abbrev XK:=Value->Option Addr->Hp->Prop
abbrev St:=List (Option V)
abbrev VK:=V->Hp->Prop
abbrev TE:=St->Hp->VK->Prop
abbrev TT:=St->Hp->(Bool->Hp->Prop)->Prop
abbrev TA:=St->Hp->(List V->Hp->Prop)->Prop
structure Ends where
 nx:St->Hp->Prop
 rt:VK
 bk:St->Hp->Prop:=fun _ _=>False
 ct:St->Hp->Prop:=fun _ _=>False
abbrev TS:=Ends->St->Hp->Prop
def EP(X:Cx)(pins:List (Addr×Obj))(σ : St)(Q:VK)(u:Value)(s':Shared):Prop := ∃v H',Inv X pins σ H' s'/\RelV v u/\Q v H'
def TP(X:Cx)(pins:List (Addr×Obj))(σ : St)(Q:Bool->Hp->Prop)(b:Bool)(s':Shared):Prop := ∃H',Inv X pins σ H' s'/\Q b H'
def AP(X:Cx)(pins:List (Addr×Obj))(σ : St)(Q:List V->Hp->Prop)(us:List Value)(s':Shared):Prop := ∃vs H',Inv X pins σ H' s'/\Vals vs us/\Q vs H'
def SP(X:Cx)(pins:List (Addr×Obj))(D:Ends)(f:Flow)(s':Shared):Prop :=
 match f with
 | .next=>∃ σ' H',Inv X pins σ' H' s'/\D.nx σ' H'
 | .brk=>∃ σ' H',Inv X pins σ' H' s'/\D.bk σ' H'
 | .cont=>∃ σ' H',Inv X pins σ' H' s'/\D.ct σ' H'
 | .ret u=>∃v σ' H',Inv X pins σ' H' s'/\RelV v u/\D.rt v H'
def PE(X:Cx)(e:Expr)(t:TE):Prop :=
 ∀(pins:List (Addr×Obj))(s:Shared)(σ : St)(H:Hp)(Q:VK),Inv X pins σ H s->t σ H Q->wpAny (model X.prog X.w) X.A (eval e X.env) (EP X pins σ Q) X.xe s
def PT(X:Cx)(e:Expr)(t:TT):Prop :=
 ∀(pins:List (Addr×Obj))(s:Shared)(σ : St)(H:Hp)(Q:Bool->Hp->Prop),Inv X pins σ H s->t σ H Q->wpAny (model X.prog X.w) X.A (isTrue e X.env (eval e X.env)) (TP X pins σ Q) X.xe s
def PW(X:Cx)(e:Expr)(t:TT):Prop :=
 ∀(whole:Sem Value)(pins:List (Addr×Obj))(s:Shared)(σ : St)(H:Hp)(Q:Bool->Hp->Prop),Inv X pins σ H s->t σ H Q->wpAny (model X.prog X.w) X.A (isTrue e X.env whole) (TP X pins σ Q) X.xe s
theorem PW.pt{X:Cx}{e:Expr}{t:TT}(h:PW X e t):PT X e t:=h _
def PA(X:Cx)(es:List Expr)(t:TA):Prop :=
 ∀(pos:Pos)(pins:List (Addr×Obj))(s:Shared)(σ : St)(H:Hp)(Q:List V->Hp->Prop),Inv X pins σ H s->t σ H Q->wpAny (model X.prog X.w) X.A (spliced (backTo pos (starEach es X.env))) (AP X pins σ Q) X.xe s
def PS(X:Cx)(st:Stmt)(t:TS):Prop :=
 ∀(pins:List (Addr×Obj))(s:Shared)(σ : St)(H:Hp)(D:Ends),Inv X pins σ H s->t D σ H->wpAny (model X.prog X.w) X.A (exec st X.env) (SP X pins D) X.xe s
def PSs(X:Cx)(st:List Stmt)(t:TS):Prop :=
 ∀(pins:List (Addr×Obj))(s:Shared)(σ : St)(H:Hp)(D:Ends),Inv X pins σ H s->t D σ H->wpAny (model X.prog X.w) X.A (execs st X.env) (SP X pins D) X.xe s
theorem thn{α : Type}{t:Sem α}{Q Q' : α -> Shared->Prop}{M:Model}{A:Around}{E:Value->Shared->Prop}{s:Shared}(h:wpAny M A t Q E s)(hQ:∀a s,Q a s->Q' a s):wpAny M A t Q' E s:=wpAny_mono h hQ fun _ _ x=>x
section
variable{X:Cx}
def Zme(i:Nat):TE:=fun σ H Q=>∃v,σ[i]?= some (some v)/\Q v H
def tC(v:V):TE:=fun _ H Q=>Q v H
theorem ZkL{i:Nat}{x:Str}{pos:Pos}(hN:X.N[i]?= some x)(hv:Vis X.env.scope x)(hd:(x == ("__debug__" : Str))=false:=by decide) (hcd:(x == ("__classdict__" : Str))=false:=by decide):PE X (.Name x pos) (Zme i):=by
 intro pins s σ H Q I h;obtain⟨v,e,h⟩:=h;obtain⟨m,hn,hl⟩:=I.loc;obtain⟨u,r,l⟩:=hl i x v hN e hv;have fin:EP X pins σ Q u s:=⟨v,H,I,r,h⟩;rcases l with⟨hk,hm⟩|⟨hk,c,hc,hcell⟩
 ·exact wpAny_Name (wpAny_loadName_local I.ok.kind hk hn hm fin) hd
 ·rcases hk with hk|hk
  ·exact wpAny_Name (wpAny_loadName_cell I.ok.kind hk hc hcell fin) hd
  ·exact wpAny_Name (wpAny_loadName_free I.ok.kind hk hc hcell fin hcd) hd
theorem Ze{i j pos}:PE X (.Constant (.int i) j pos) (tC (.int i)):=fun _ _ _ H _ I h=>wpAny_Constant_int ⟨.int i,H,I.tok _,⟨_,rfl⟩,h⟩
theorem Zbg{b j pos}:PE X (.Constant (.bool b) j pos) (tC (.bl b)):=fun _ _ _ H _ I h=>Constant_bool ⟨.bl b,H,I,rfl,h⟩
theorem Zhe{j pos}:PE X (.Constant .none j pos) (tC .non):=fun _ _ _ H _ I h=>Constant_none ⟨.non,H,I,rfl,h⟩
theorem ZP{x j pos}:PE X (.Constant (.str x) j pos) (tC (.str x)):=fun _ _ _ H _ I h=>Calls.Constant_str ⟨.str x,H,I.tok _,⟨_,rfl⟩,h⟩
def Gl(X:Cx)(x:Str):Prop:=X.env.kindOf x=some .globalImplicit
theorem Zdi{E:Value->Shared->Prop}{pins:List (Addr×Obj)}{s:Shared}{σ : St}{H:Hp}{x:Str}{u:Value}{pos:Pos}{Q:Value->Shared->Prop}(I:Inv X pins σ H s)(hg:Gl X x)(hm:X.mg x=some u)(h:Q u s)
  (hd:(x == ("__debug__" : Str))=false:=by decide):wpAny (model X.prog X.w) X.A (eval (.Name x pos) X.env) Q E s :=
 Calls.Name_function_global I.ok.kind hg (Calls.loadGlobal_global (by rw[I.ok.glob];exact I.mod.glob.keeps I.bk) hm h) hd
theorem Zf3{E:Value->Shared->Prop}{pins:List (Addr×Obj)}{s:Shared}{σ : St}{H:Hp}{x:Str}{u:Value}{pos:Pos}{Q:Value->Shared->Prop}(I:Inv X pins σ H s)(hg:Gl X x)(hm:X.mg x=none)(hv:bootBuiltins x=some u)(h:Q u s)
  (hn:x ≠ "__name__" := by decide) (hd:(x == ("__debug__" : Str))=false:=by decide):wpAny (model X.prog X.w) X.A (eval (.Name x pos) X.env) Q E s:=by
 obtain⟨mb,h1,h2⟩:=I.mod.blt;exact Calls.Name_function_global I.ok.kind hg (Calls.loadGlobal_builtin (by rw[I.ok.glob];exact I.mod.glob.keeps I.bk) hm (by rw[I.ok.blt];exact h1.keeps I.bk) ((h2 x hn).trans hv) h) hd
theorem Zbw{x:Str}{v:V}{u:Value}{pos:Pos}(hg:Gl X x)(hm:X.mg x=some u)(r:RelV v u)(hd:(x == ("__debug__" : Str))=false:=by decide):PE X (.Name x pos) (tC v) :=
 fun _ _ _ H _ I h=>Zdi I hg hm ⟨v,H,I,r,h⟩ hd
theorem Zkf{x:Str}{v:V}{u:Value}{pos:Pos}(hg:Gl X x)(hm:X.mg x=none)(hv:bootBuiltins x=some u)(r:RelV v u)(hn:x ≠ "__name__" := by decide) (hd:(x == ("__debug__" : Str))=false:=by decide):PE X (.Name x pos) (tC v) :=
 fun _ _ _ H _ I h=>Zf3 I hg hm hv ⟨v,H,I,r,h⟩ hn hd
variable{a b:Expr}{ta tb:TE}{pos:Pos}
def PC(X:Cx)(op:CmpOp)(a b:Expr)(t:TE):Prop :=
 ∀(pins:List (Addr×Obj))(s:Shared)(σ : St)(H:Hp)(Q:VK),Inv X pins σ H s->t σ H Q ->
  wpAny (model X.prog X.w) X.A (eval a X.env) (fun v s₁=>wpAny (model X.prog X.w) X.A (eval b X.env) (fun u s₂=>wpAny (model X.prog X.w) X.A (compareOp op v u) (EP X pins σ Q) X.xe s₂) X.xe s₁) X.xe s
def tB(t:TE):TT:=fun σ H Q=>t σ H fun x H1=>∃c,x=.bl c/\Q c H1
theorem ZkX{op:CmpOp}{t:TE}(h:PC X op a b t)(h1:behindInMarks op b=false:=by first|exact nobehind _ (by decide) (by decide)|rfl):PE X (.Compare a [op] [b] pos) t:=fun pins s σ H Q I hw=>wpAny_Compare1 (h pins s σ H Q I hw) h1
theorem Zi7{op:CmpOp}{t:TE}(h:PC X op a b t)(h1:behindInMarks op b=false:=by first|exact nobehind _ (by decide) (by decide)|rfl):PT X (.Compare a [op] [b] pos) (tB t):=by
 intro pins s σ H Q I hw;refine wpAny_isTrue_Compare1 (thn (h pins s σ H _ I hw) fun v s1 h1=>thn h1 fun u s2 h2=>thn h2 fun c s3 ⟨x,H1,I1,r1,q1⟩=>?_) h1;obtain⟨d,rfl,q⟩:=q1;cases r1;exact wpAny_truthy_bool ⟨H1,I1,q⟩
variable{tA tB':TT}{rest:List Expr}
def ZmL(t u:TT):TT:=fun σ H Q=>t σ H fun c H1=>if c=true then u σ H1 Q else Q false H1
def tOr(t u:TT):TT:=fun σ H Q=>t σ H fun c H1=>if c=true then Q true H1 else u σ H1 Q
def ZmD(t:TT):TT:=fun σ H Q=>t σ H fun c H1=>Q (!c) H1
theorem Zb7(ha:PT X a tA):PW X (.BoolOp .And [a] pos) tA:=by
 intro wh pins s σ H Q I h;refine isTrue_and (thn (ha pins s σ H Q I h) fun c s1 e=>?_);cases c with
 | true=>exact isTrue_and_nil e
 | false=>exact e
theorem Zh7(ha:PT X a tA):PW X (.BoolOp .Or [a] pos) tA:=by
 intro wh pins s σ H Q I h;refine isTrue_or (thn (ha pins s σ H Q I h) fun c s1 e=>?_);cases c with
 | false=>exact isTrue_or_nil e
 | true=>exact e
theorem ZcQ(ha:PT X a tA)(hb:PW X (.BoolOp .And (b::rest) pos) tB'):PW X (.BoolOp .And (a::b::rest) pos) (ZmL tA tB'):=by
 intro wh pins s σ H Q I h;refine isTrue_and (thn (ha pins s σ H _ I h) fun c s1 ⟨H1,I1,q1⟩=>?_);cases c with
 | true=>exact hb wh pins s1 σ H1 Q I1 q1
 | false=>exact⟨H1,I1,q1⟩
theorem Zj7(ha:PT X a tA)(hb:PW X (.BoolOp .Or (b::rest) pos) tB'):PW X (.BoolOp .Or (a::b::rest) pos) (tOr tA tB'):=by
 intro wh pins s σ H Q I h;refine isTrue_or (thn (ha pins s σ H _ I h) fun c s1 ⟨H1,I1,q1⟩=>?_);cases c with
 | true=>exact⟨H1,I1,q1⟩
 | false=>exact hb wh pins s1 σ H1 Q I1 q1
theorem ZeG(ha:PT X a tA):PT X (.UnaryOp .Not a pos) (ZmD tA):=by
 intro pins s σ H Q I h;exact isTrue_not (ha pins s σ H (fun c H1=>Q (!c) H1) I h)
def ZlS(ta tb:TE):TE:=fun σ H Q=>ta σ H fun x H1=>∃c,x=.bl c/\if c=true then tb σ H1 Q else Q (.bl false) H1
def ZmJ(ta tb:TE):TE:=fun σ H Q=>ta σ H fun x H1=>∃c,x=.bl c/\if c=true then Q (.bl true) H1 else tb σ H1 Q
def ZlJ(ta:TE):TE:=fun σ H Q=>ta σ H fun x H1=>∃c,x=.bl c/\Q (.bl (!c)) H1
theorem ZbY{op}{t:TE}(h:PE X a t):PE X (.BoolOp op [a] pos) t:=fun pins s σ H Q I hw=>BoolOp_one (h pins s σ H Q I hw)
theorem ZcM(ha:PE X a ta)(hb:PE X (.BoolOp .And (b::rest) pos) tb):PE X (.BoolOp .And (a::b::rest) pos) (ZlS ta tb):=by
 intro pins s σ H Q I h;refine BoolOp_and (thn (ha pins s σ H _ I h) fun v s1 ⟨x,H1,I1,r1,q1⟩=>?_);obtain⟨c,rfl,q1⟩:=q1;cases r1;refine wpAny_truthy_bool ?_;cases c with
 | true=>exact hb pins s1 σ H1 Q I1 q1
 | false=>exact⟨.bl false,H1,I1,rfl,q1⟩
theorem Zkt(ha:PE X a ta)(hb:PE X (.BoolOp .Or (b::rest) pos) tb):PE X (.BoolOp .Or (a::b::rest) pos) (ZmJ ta tb):=by
 intro pins s σ H Q I h;refine BoolOp_or (thn (ha pins s σ H _ I h) fun v s1 ⟨x,H1,I1,r1,q1⟩=>?_);obtain⟨c,rfl,q1⟩:=q1;cases r1;refine wpAny_truthy_bool ?_;cases c with
 | false=>exact hb pins s1 σ H1 Q I1 q1
 | true=>exact⟨.bl true,H1,I1,rfl,q1⟩
theorem ZkD(ha:PE X a ta):PE X (.UnaryOp .Not a pos) (ZlJ ta):=by
 intro pins s σ H Q I h;refine UnaryOp_ (thn (ha pins s σ H _ I h) fun v s1 ⟨x,H1,I1,r1,q1⟩=>?_);obtain⟨c,rfl,q1⟩:=q1;cases r1;exact not_of (wpAny_truthy_bool ⟨.bl (!c),H1,I1,rfl,q1⟩)
def tIf(t:TT)(ta tb:TE):TE:=fun σ H Q=>t σ H fun c H1=>if c=true then ta σ H1 Q else tb σ H1 Q
theorem Zgm{c:Expr}(hc:PT X c tA)(ha:PE X a ta)(hb:PE X b tb):PE X (.IfExp c a b pos) (tIf tA ta tb):=by
 intro pins s σ H Q I h;refine wpAny_IfExp (thn (hc pins s σ H _ I h) fun d s1 ⟨H1,I1,q1⟩=>?_);cases d with
 | true=>exact ha pins s1 σ H1 Q I1 q1
 | false=>exact hb pins s1 σ H1 Q I1 q1
end
def SqL(K:PySem.W.Frag)(H:Hp)(a:Addr)(xs:List V):Prop :=
 Rd H a (.lst xs) \/
  ∃(o:Obj)(its:Array Value)(n:Nat),K.lookup a=some o/\o.cls=.type "list" /\ o.dict=none/\o.data=.seq its n/\its.size<=sizeLine/\Vals xs its.toList
def SqT(K:PySem.W.Frag)(H:Hp)(a:Addr)(xs:List V):Prop :=
 Rd H a (.tup xs) \/
  ∃(o:Obj)(its:Array Value)(n:Nat),K.lookup a=some o/\o.cls=.type "tuple" /\ o.data=.seq its n/\its.size<=sizeLine/\Vals xs its.toList
def ZmF:Value->Option V
 | .none=>some .non
 | .bool b=>some (.bl b)
 | .int i _=>some (.int i)
 | .str x _=>some (.str x)
 | .bytes b _=>some (.byt b)
 | .float b _=>some (.flt b)
 | .ref a=>some (.ref a)
 | .type n=>some (.ty n)
 | _=>none
theorem RelV.abs{x:V}{u:Value}(r:RelV x u):ZmF u=some x:=by
 cases x with
 | non=>cases r;rfl
 | bl _=>cases r;rfl
 | int _=>obtain⟨t,rfl⟩:=r;rfl
 | str _=>obtain⟨t,rfl⟩:=r;rfl
 | byt _=>obtain⟨t,rfl⟩:=r;rfl
 | flt _=>obtain⟨t,rfl⟩:=r;rfl
 | ref _=>cases r;rfl
 | ty _=>cases r;rfl
theorem RelV.inj{x y:V}{u:Value}(r:RelV x u)(q:RelV y u):x=y:=Option.some.inj (r.abs.symm.trans q.abs)
theorem Vals.inj:∀{xs ys:List V}{us:List Value},Vals xs us->Vals ys us->xs=ys
 | _,_,_,.nil,.nil=>rfl
 | _,_,_,.cons r t,.cons r' t'=>by rw[r.inj r',Vals.inj t t']
section
variable{X:Cx}{pins:List (Addr×Obj)}{σ : St}{H:Hp}{s:Shared}{a:Addr}{xs ys:List V}
theorem SqL.of{K:PySem.W.Frag}(h:H a=some (.lst xs)):SqL K H a xs:=.inl (.inl h)
theorem SqT.of{K:PySem.W.Frag}(h:H a=some (.tup xs)):SqT K H a xs:=.inl (.inl h)
theorem Inv.list(I:Inv X pins σ H s)(h:SqL X.K H a xs):∃its:List Value,Vals xs its/\PlainL s.heap a its.toArray/\xs.length<=sizeLine:=by
 rcases h with h|⟨o,its,n,hk,hc,hd,hs,hz,r⟩
 ·obtain⟨z,its,n,r,e⟩:=h.ok I.hok;exact⟨its,r,⟨_,n,e,rfl,rfl,rfl⟩,z⟩
 ·refine⟨its.toList,r,⟨o,n,I.kIn a o hk,hc,hd,by simpa using hs⟩,?_⟩;have e:=r.length;simp only[Array.length_toList] at e;lia
theorem Inv.tuple(I:Inv X pins σ H s)(h:SqT X.K H a xs):∃its:List Value,Vals xs its/\IsTup s.heap a its.toArray/\xs.length<=sizeLine:=by
 rcases h with h|⟨o,its,n,hk,hc,hs,hz,r⟩
 ·obtain⟨z,its,r,p⟩:=h.ok I.hok;exact⟨its,r,p,z⟩
 ·refine⟨its.toList,r,⟨o,I.kIn a o hk,hc,n,by simpa using hs⟩,?_⟩;have e:=r.length;simp only[Array.length_toList] at e;lia
theorem Inv.list_inj(I:Inv X pins σ H s)(h:SqL X.K H a xs)(h':SqL X.K H a ys):xs=ys:=by
 obtain⟨its,r,⟨o,n,e,_,_,d⟩,_⟩:=I.list h;obtain⟨its',r',⟨o',n',e',_,_,d'⟩,_⟩:=I.list h';rw[e] at e';cases e';rw[d] at d';injection d' with d1 _;have:its=its':=by simpa using congrArg Array.toList d1
 subst this;exact r.inj r'
theorem Inv.tuple_inj(I:Inv X pins σ H s)(h:SqT X.K H a xs)(h':SqT X.K H a ys):xs=ys:=by
 obtain⟨its,r,⟨o,e,_,n,d⟩,_⟩:=I.tuple h;obtain⟨its',r',⟨o',e',_,n',d'⟩,_⟩:=I.tuple h';rw[e] at e';cases e';rw[d] at d';injection d' with d1 _;have:its=its':=by simpa using congrArg Array.toList d1
 subst this;exact r.inj r'
end
abbrev Cx.wish(X:Cx)(E:Value->Shared->Prop):Cx:={ X with xe:=E }
abbrev Cx.nox(X:Cx):Cx:=X.wish fun _ _=>False
theorem Cx.Ok.wish{X:Cx}(ok:X.Ok)(E:Value->Shared->Prop):(X.wish E).Ok :=
 ⟨ok.mod,ok.kind,ok.glob,ok.blt,ok.above,ok.inj,ok.has,ok.cab,ok.hd,ok.frames,ok.stk,ok.exf,ok.bs,ok.bsz,ok.noex,ok.exfs,ok.funs,ok.frf⟩
theorem Cx.Ok.unwish{X:Cx}{E:Value->Shared->Prop}(ok:(X.wish E).Ok):X.Ok :=
 ⟨ok.mod,ok.kind,ok.glob,ok.blt,ok.above,ok.inj,ok.has,ok.cab,ok.hd,ok.frames,ok.stk,ok.exf,ok.bs,ok.bsz,ok.noex,ok.exfs,ok.funs,ok.frf⟩
section
variable{X:Cx}{pins:List (Addr×Obj)}{σ : St}{H:Hp}{s:Shared}{E:Value->Shared->Prop}
theorem Inv.wish(I:Inv X pins σ H s)(E:Value->Shared->Prop):Inv (X.wish E) pins σ H s:=⟨I.ok.wish E,I.os,I.bare,I.base,I.loc,I.cell,I.free,I.freeC,I.pin,I.hok,I.len⟩
theorem Inv.unwish(I:Inv (X.wish E) pins σ H s):Inv X pins σ H s:=⟨I.ok.unwish,I.os,I.bare,I.base,I.loc,I.cell,I.free,I.freeC,I.pin,I.hok,I.len⟩
theorem SP.unwish{D:Ends}{f:Flow}{s':Shared}(h:SP (X.wish E) pins D f s'):SP X pins D f s':=by
 cases f with
 | next=>obtain⟨σ',H',I,q⟩:=h;exact⟨σ',H',I.unwish,q⟩
 | brk=>obtain⟨σ',H',I,q⟩:=h;exact⟨σ',H',I.unwish,q⟩
 | cont=>obtain⟨σ',H',I,q⟩:=h;exact⟨σ',H',I.unwish,q⟩
 | ret u=>obtain⟨v,σ',H',I,r,q⟩:=h;exact⟨v,σ',H',I.unwish,r,q⟩
theorem PSs.nox{st:List Stmt}{t:TS}(h:PSs X.nox st t):PSs X st t:=fun pins s σ H D I hw =>
 wpAny_mono (h pins s σ H D (I.wish _) hw) (fun _ _ q=>q.unwish) fun _ _ z=>False.elim z
end
section
variable{X:Cx}{st:Stmt}{rest:List Stmt}{t u:TS}{e:Expr}{te:TE}{pos:Pos}
def Zl1:TS:=fun D σ H=>D.nx σ H
def Zlx(t u:TS):TS:=fun D σ H=>t { D with nx:=u D } σ H
theorem Zy:PSs X [] Zl1:=fun _ _ σ H _ I h=>wpAny_execs_nil ⟨σ,H,I,h⟩
theorem Zd(h1:PS X st t)(h2:PSs X rest u):PSs X (st::rest) (Zlx t u):=by
 intro pins s σ H D I h;refine wpAny_execs_cons (thn (h1 pins s σ H { D with nx:=u D } I h) fun f s1 q=>?_);cases f with
 | next =>
  obtain⟨σ',H',I',q⟩:=q;exact h2 pins s1 σ' H' D I' q
 | ret v=>exact q
 | brk=>exact q
 | cont=>exact q
theorem Zk(h1:PS X st t):PSs X [st] t:=by
 intro pins s σ H D I h;refine wpAny_execs_cons (thn (h1 pins s σ H D I h) fun f s1 q=>?_);cases f with
 | next=>exact wpAny_execs_nil q
 | ret v=>exact q
 | brk=>exact q
 | cont=>exact q
theorem Inv.quiet{pins:List (Addr×Obj)}{σ : St}{H:Hp}{s:Shared}(I:Inv X pins σ H s):interactive X.env=false:=by simp[interactive,I.ok.kind]
def ZlV(te:TE):TS:=fun D σ H=>te σ H fun _ H1=>D.nx σ H1
theorem Zbu(he:PE X e te)(hs:swapsWith e none pos.line X.env=pure false:=by rfl):PS X (.Expr e pos) (ZlV te):=by
 intro pins s σ H D I h;exact wpAny_Expr_any (thn (he pins s σ H _ I h) fun v s1 ⟨x,H1,I1,r1,q1⟩=>⟨σ,H1,I1,q1⟩) I.quiet hs
def ZlD(te:TE):TS:=fun D σ H=>te σ H D.rt
theorem ZC(he:PE X e te):PS X (.Return (some e) pos) (ZlD te):=by
 intro pins s σ H D I h;exact wpAny_Return_some (thn (he pins s σ H _ I h) fun v s1 ⟨x,H1,I1,r1,q1⟩=>⟨x,σ,H1,I1,r1,q1⟩)
def Zmq(c:TT)(t u:TS):TS:=fun D σ H=>c σ H fun b H1=>if b=true then t D σ H1 else u D σ H1
theorem Zah{c:Expr}{a b:List Stmt}{tc:TT}(hc:PT X c tc)(ha:PSs X a t)(hb:PSs X b u):PS X (.If c a b pos) (Zmq tc t u):=by
 intro pins s σ H D I h;refine wpAny_If (thn (hc pins s σ H _ I h) fun d s1 ⟨H1,I1,q1⟩=>?_);cases d with
 | true=>exact ha pins s1 σ H1 D I1 q1
 | false=>exact hb pins s1 σ H1 D I1 q1
end
abbrev TG:=V->St->Hp->(St->Hp->Prop)->Prop
abbrev TGs:=List V->St->Hp->(St->Hp->Prop)->Prop
def PG(X:Cx)(target:Expr)(t:TG):Prop :=
 ∀(pins:List (Addr×Obj))(s:Shared)(σ : St)(H:Hp)(v:V)(u:Value)(Q:St->Hp->Prop),Inv X pins σ H s->RelV v u->t v σ H Q ->
  wpAny (model X.prog X.w) X.A (assign target X.env u) (fun _ s'=>∃ σ' H',Inv X pins σ' H' s'/\Q σ' H') X.xe s
def PGs(X:Cx)(ts:List Expr)(t:TGs):Prop :=
 ∀(pins:List (Addr×Obj))(s:Shared)(σ : St)(H:Hp)(vs:List V)(us:List Value)(Q:St->Hp->Prop),Inv X pins σ H s->Vals vs us->t vs σ H Q ->
  wpAny (model X.prog X.w) X.A (assignInOrder ((assignEach ts X.env).map (·.2)) us) (fun _ s'=>∃ σ' H',Inv X pins σ' H' s'/\Q σ' H') X.xe s
abbrev Zl8:=V->V->V->Hp->(Hp->Prop)->Prop
def Zmg(X:Cx)(t:Zl8):Prop :=
 ∀(pins:List (Addr×Obj))(s:Shared)(σ : St)(H:Hp)(o i v:V)(ov iv u:Value)(Q:Hp->Prop),Inv X pins σ H s->RelV o ov->RelV i iv->RelV v u->t o i v H Q ->
  wpAny (model X.prog X.w) X.A (setItem ov iv u) (fun _ s'=>∃H',Inv X pins σ H' s'/\Q H') X.xe s
section
variable{X:Cx}{pos:Pos}
def ZgZ(i:Nat):TG:=fun v σ H Q=>Q (σ.set i (some v)) H
theorem ZL{i:Nat}{x:Str}(hN:X.N.Nodup)(hi:X.N[i]?= some x)(hx:Loc X.env.scope x)(hf:X.fn x=true\/X.env.scope.names.lookup x=some .local:=by first|exact .inl rfl|exact .inr rfl|assumption):PG X (.Name x pos) (ZgZ i):=by
 intro pins s σ H v u Q I r h;exact wpAny_assign_Name (ZbN I hN hi hx r (fun s' I'=>⟨_,H,I',h⟩) hf)
def Zmx:TGs:=fun vs σ H Q=>vs=[]/\Q σ H
def ZlY(t:TG)(u:TGs):TGs:=fun vs σ H Q=>∃v r,vs=v::r/\t v σ H fun σ' H'=>u r σ' H' Q
theorem Zb4:PGs X [] Zmx:=by
 intro pins s σ H vs us Q I r h;obtain⟨e,h⟩:=h;subst e;cases r;exact assignInOrder_nil ⟨σ,H,I,h⟩
theorem Zaj{e:Expr}{es:List Expr}{t:TG}{u:TGs}(h1:PG X e t)(h2:PGs X es u)
  (hs:(assignEach (e::es) X.env).map (·.2)=assign e X.env::(assignEach es X.env).map (·.2):=by rfl):PGs X (e::es) (ZlY t u):=by
 intro pins s σ H vs us Q I r h;obtain⟨v,vr,e1,h⟩:=h;subst e1;cases r with
 | cons r rr =>
  rw[hs];refine assignInOrder_cons (thn (h1 pins s σ H _ _ _ I r h) fun _ s1 ⟨σ1,H1,I1,q1⟩=>?_);exact h2 pins s1 σ1 H1 _ _ Q I1 rr q1
def ZmC(K:PySem.W.Frag)(n:Nat)(t:TGs):TG:=fun v σ H Q=>∃a xs,v=.ref a/\SqT K H a xs/\xs.length=n/\t xs σ H Q
theorem Zdj{es:List Expr}{k:Nat}{t:TGs}{n:Nat}(hc:X.calm=true)(h:PGs X es t)
  (hn:(assignEach es X.env).length=n:=by rfl) (hst:(assignEach es X.env).findIdx? (·.1)=none:=by rfl):PG X (.Tuple es k pos) (ZmC X.K n t):=by
 intro pins s σ H v u Q I r hw;obtain⟨a,xs,e1,hq,hl,hw⟩:=hw;subst e1;cases r;obtain⟨its,rv,ht,hz⟩:=I.tuple hq;refine assign_Tuple_tuple (I.ok.hd hc) ht (by simp[hn,<- hl,rv.length]) hst fun h' hx=>?_;have I1:Inv X pins σ H { s with heap:=h' }:=I.kept (t':=s.toks) fun b o e=>hx b o (Nat.ne_of_lt (Heap.lt_size e)) e;exact h pins _ σ H xs _ Q I1 (by simpa using rv) hw
def Zmt(to ti:TE)(t:Zl8):TG:=fun v σ H Q=>to σ H fun o H1=>ti σ H1 fun i H2=>t o i v H2 fun H3=>Q σ H3
theorem Zgc{o i:Expr}{to ti:TE}{t:Zl8}(ho:PE X o to)(hi:PE X i ti)(hs:Zmg X t)
  (ha:∀v,assign (.Subscript o i pos) X.env v=(do
   let ov <- holding [v] (eval o X.env)
   let iv <- holding [v,ov] (eval i X.env)
   standAt pos
   holding [v,ov,iv] (setItem ov iv v)
   release [v,ov,iv] []):=by intro _;rfl):PG X (.Subscript o i pos) (Zmt to ti t):=by
 intro pins s σ H v u Q I r h;rw[ha];refine wpAny_bind (wpAny_holding (thn (ho pins s σ H _ I h) fun ov s1 ⟨x,H1,I1,r1,q1⟩=>?_));refine wpAny_bind (wpAny_holding (thn (hi pins s1 σ H1 _ I1 q1) fun iv s2 ⟨y,H2,I2,r2,q2⟩=>?_));refine wpAny_bind (wpAny_standAt (wpAny_bind (wpAny_holding (thn (hs pins s2 σ H2 x y v ov iv u _ I2 r1 r2 r q2) fun _ s3 ⟨H3,I3,q3⟩=>?_))));exact wpAny_release ⟨σ,H3,I3,q3⟩
def Zlw(te:TE)(g:TG):TS:=fun D σ H=>te σ H fun x H1=>g x σ H1 D.nx
theorem ZcO{tg e:Expr}{te:TE}{g:TG}(he:PE X e te)(hg:PG X tg g)(hs:swapsWithSole [tg] e pos.line X.env=pure false:=by rfl)(hw:swappedStores [tg] e X.env=pure none:=by rfl)
  (h1:(assignEach [tg] X.env).map (·.2)=[assign tg X.env]:=by rfl):PS X (.Assign [tg] e pos) (Zlw te g):=by
 intro pins s σ H D I h;refine wpAny_Assign_stores (thn (he pins s σ H _ I h) fun v s1 ⟨x,H1,I1,r1,q1⟩=>?_) hs hw;rw[h1];exact thn (hg pins s1 σ H1 x v _ I1 r1 q1) fun _ s2 q=>q
theorem Zx{i:Nat}{x:Str}{e:Expr}{te:TE}{pos':Pos}(hN:X.N.Nodup)(hi:X.N[i]?= some x)(hx:Loc X.env.scope x)(he:PE X e te)(hs:swapsWith e (some (.Name x pos')) pos.line X.env=pure false:=by rfl)(hf:X.fn x=true\/X.env.scope.names.lookup x=some .local:=by first|exact .inl rfl|exact .inr rfl|assumption) :
  PS X (.Assign [.Name x pos'] e pos) (Zlw te (ZgZ i)):=by
 intro pins s σ H D I h;refine wpAny_Assign_Name (thn (he pins s σ H _ I h) fun v s1 ⟨y,H1,I1,r1,q1⟩=>?_) hs;exact ZbN I1 hN hi hx r1 (fun s2 I2=>⟨_,H1,I2,q1⟩) hf
end
structure It where
 go:Nat->Hp->Prop
 yld:Nat->Hp->V->Hp->Prop
 stop:Nat->Hp->Prop
def Zcx(X:Cx)(pins:List (Addr×Obj))(H:Hp)(b:Addr):Prop :=
 H b=none/\b≠X.env.locals/\b∉X.fs/\(b∈X.ex\/X.s₀.heap.objs.size<=b)/\(∀x c,X.env.cells.lookup x=some c->c≠b)/\∀p∈X.pn++pins,p.1≠b
theorem Inv.fpOk{X:Cx}{pins:List (Addr×Obj)}{σ : St}{H H':Hp}{s:Shared}{b:Addr}(I:Inv X pins σ H s)(hb:s.heap.objs.size<=b)(hn:H' b=none):Zcx X pins H' b:=by
 refine⟨hn,Nat.ne_of_gt (Nat.lt_of_lt_of_le I.lt hb),I.nofs hb,.inr (Nat.le_trans I.sz hb),fun x c e z=>?_,fun p hp z=>?_⟩
 ·obtain⟨v,q⟩:=I.cell x c e;exact absurd (Nat.lt_of_lt_of_le q.lt (by rw[z];exact hb)) (Nat.lt_irrefl _)
 ·exact absurd (Nat.lt_of_lt_of_le (Heap.lt_size (I.pin p hp).1) (by rw[z];exact hb)) (Nat.lt_irrefl _)
structure Turn(P:Program)(w:World)(K:PySem.W.Frag)(tg:Expr)(J:It)(fp:List Addr)(it:Addr)(tn:Nat->Heap->Prop):Prop where
 mem:it∈fp
 obj:∀i h,tn i h->∀b∈fp,∃o,h.get? b=some o/\∀v,o.data ≠ .cell v
 keep:∀i h h',tn i h->(∀b∈fp,∀o,h.get? b=some o->h'.get? b=some o)->tn i h'
 item:∀(X:Cx),X.prog=P->X.w=w->X.K=K->X.calm=true->∀(i:Nat)(pins:List (Addr×Obj))(s:Shared)(σ : St)(H:Hp)(E:Value->Shared->Prop),Inv X pins σ H s->(∀b∈fp,Zcx X pins H b)->tn i s.heap->J.go i H ->
  wpAny (model P w) X.A (pyNext (.ref it)) (fun r s1=>∃u,r=some u /\
   wpAny (model P w) X.A (letOwnedTupleGo tg (.ref it) u) (fun _ s2=>∃x H',Inv X pins σ H' s2/\RelV x u/\J.yld i H x H'/\tn (i+1) s2.heap/\∀b∈fp,H' b=none) E s1) E s
 done:∀(X:Cx),X.prog=P->X.w=w->X.K=K->X.calm=true->∀(i:Nat)(pins:List (Addr×Obj))(s:Shared)(σ : St)(H:Hp)(E:Value->Shared->Prop),Inv X pins σ H s->(∀b∈fp,Zcx X pins H b)->tn i s.heap->J.stop i H ->
  wpAny (model P w) X.A (pyNext (.ref it)) (fun r s1=>r=none/\Inv X pins σ H s1) E s
 self:∀(A:Around)(i:Nat)(s:Shared)(Q:Value->Shared->Prop)(E:Value->Shared->Prop),tn i s.heap->Q (.ref it) s->wpAny (model P w) A (pyIter (.ref it)) Q E s
abbrev TI:=St->Hp->(It->Hp->Prop)->Prop
def PIE(X:Cx)(pins:List (Addr×Obj))(σ : St)(tg:Expr)(R:It->Hp->Prop)(itv:Value)(s2:Shared):Prop :=
 ∃(it:Addr)(fp:List Addr)(tn:Nat->Heap->Prop)(J:It)(H':Hp),itv=.ref it/\Inv X pins σ H' s2/\Turn X.prog X.w X.K tg J fp it tn/\tn 0 s2.heap/\(∀b∈fp,Zcx X pins H' b)/\R J H'
def PI(X:Cx)(tg iter:Expr)(wi:TI):Prop :=
 ∀(pins:List (Addr×Obj))(s:Shared)(σ : St)(H:Hp)(R:It->Hp->Prop),Inv X pins σ H s->wi σ H R ->
  wpAny (model X.prog X.w) X.A (eval iter X.env) (fun v s1=>wpAny (model X.prog X.w) X.A (pyIter v) (PIE X pins σ tg R) X.xe s1) X.xe s
theorem Zkr{M:Model}{A:Around}{E:Value->Shared->Prop}{s:Shared}{tg:Expr}{it:Addr}{u:Value}{o:Obj}{n:String}{vs:Array Value}{Q:Unit->Shared->Prop}(ho:s.heap.get? it=some o)(hc:o.cls=.type n)(hd:o.data=.fields vs)
    (hn:["enumerate","zip","dict_itemiterator","dict_reverseitemiterator","odict_iterator","itertools.zip_longest","itertools.pairwise"].contains n=false) (hQ:Q () s):wpAny M A (letOwnedTupleGo tg (.ref it) u) Q E s:=by
  unfold letOwnedTupleGo;cases tg <;> first
    | exact wpAny_pure hQ
    | (cases u <;> first
        | exact wpAny_pure hQ
        | (refine wpAny_bind (wpAny_load ho ?_)
           rw[hc,hd];show wpAny M A (if(["enumerate","zip","dict_itemiterator","dict_reverseitemiterator","odict_iterator","itertools.zip_longest","itertools.pairwise"].contains n&&vs[0]? == some (rawInt _))=true then _ else _) Q E s
           rw[if_neg (by intro h;rw[hn,Bool.false_and] at h;cases h)];exact wpAny_pure hQ))
def Itl(K:PySem.W.Frag)(a:Addr):It :=
 ⟨fun i H=>∃xs x,SqL K H a xs/\xs[i]?= some x,fun i H x H'=>H'=H/\∀xs,SqL K H a xs->xs[i]?= some x,fun i H=>∃xs,SqL K H a xs/\xs.length<=i⟩
def Itt(K:PySem.W.Frag)(a:Addr):It :=
 ⟨fun i H=>∃xs x,SqT K H a xs/\xs[i]?= some x,fun i H x H'=>H'=H/\∀xs,SqT K H a xs->xs[i]?= some x,fun i H=>∃xs,SqT K H a xs/\xs.length<=i⟩
def Itr(lo:Int)(n:Nat):It:=⟨fun i _=>i<n,fun i H x H'=>H'=H/\x=.int (lo+i),fun i _=>n<=i⟩
theorem Zia{P:Program}{w:World}{K:PySem.W.Frag}{tg:Expr}(a it:Addr):Turn P w K tg (Itl K a) [it] it (fun i h=>h.IsListIter it a i) where
 mem:=by simp
 obj:=fun i h st b hb=>by
  have e:b=it:=by simpa using hb
  subst e;obtain⟨o,e,c,d⟩:=st;exact⟨o,e,fun v z=>by rw[d] at z;cases z⟩
 keep:=fun i h h' st k=>st.at fun o e=>k it (by simp) o e
 item:=by
  intro X hP hw hK hc i pins s σ H E I hf st hg;subst hP hw hK;obtain⟨xs,x,hq,hx⟩:=hg;obtain⟨its,rv,p,hz⟩:=I.list hq;obtain⟨u,hu,ru⟩:=rv.get hx;obtain⟨f0,f1,f2,f3,f4,f5⟩:=hf it (by simp);refine wpAny_pyNext_list_item st p.isList (x:=u) (by simpa using hu) fun h' st' sb=>?_;have I1:Inv X pins σ H { s with heap:=h' }:=I.turned (t':=s.toks) (fun b o hb e=>(sb.2 b hb).trans e) f0 f1 f3 f4 f5;obtain⟨o,e,c,d⟩:=id st';exact⟨u,rfl,Zkr (s:={ s with heap:=h' }) e c d (by decide) ⟨x,H,I1,ru,⟨rfl,fun ys hy=>by rw[I.list_inj hy hq];exact hx⟩,st',fun b hb=>(hf b hb).1⟩⟩
 done:=by
  intro X hP hw hK hc i pins s σ H E I hf st hg;subst hP hw hK;obtain⟨xs,hq,hx⟩:=hg;obtain⟨its,rv,p,hz⟩:=I.list hq;obtain⟨f0,f1,f2,f3,f4,f5⟩:=hf it (by simp);have hl:=rv.length;exact wpAny_pyNext_list_end (I.ok.hd hc) st p.isList (by simp;lia) fun h' eb=>⟨rfl,I.turned (t':=s.toks) (fun b o hb e=>eb b o hb e) f0 f1 f3 f4 f5⟩
 self:=fun _ _ _ _ _ st h=>wpAny_pyIter_listiter st h
theorem Zgz{P:Program}{w:World}{K:PySem.W.Frag}{tg:Expr}(a it:Addr):Turn P w K tg (Itt K a) [it] it (fun i h=>h.IsTupleIter it a i) where
 mem:=by simp
 obj:=fun i h st b hb=>by
  have e:b=it:=by simpa using hb
  subst e;obtain⟨o,e,c,d⟩:=st;exact⟨o,e,fun v z=>by rw[d] at z;cases z⟩
 keep:=fun i h h' st k=>st.at fun o e=>k it (by simp) o e
 item:=by
  intro X hP hw hK hc i pins s σ H E I hf st hg;subst hP hw hK;obtain⟨xs,x,hq,hx⟩:=hg;obtain⟨its,rv,p,hz⟩:=I.tuple hq;obtain⟨u,hu,ru⟩:=rv.get hx;obtain⟨f0,f1,f2,f3,f4,f5⟩:=hf it (by simp);refine wpAny_pyNext_tuple_item st (show s.heap.IsTuple a its.toArray from p) (x:=u) (by simpa using hu) fun h' st' sb=>?_;have I1:Inv X pins σ H { s with heap:=h' }:=I.turned (t':=s.toks) (fun b o hb e=>(sb.2 b hb).trans e) f0 f1 f3 f4 f5;obtain⟨o,e,c,d⟩:=id st';exact⟨u,rfl,Zkr (s:={ s with heap:=h' }) e c d (by decide) ⟨x,H,I1,ru,⟨rfl,fun ys hy=>by rw[I.tuple_inj hy hq];exact hx⟩,st',fun b hb=>(hf b hb).1⟩⟩
 done:=by
  intro X hP hw hK hc i pins s σ H E I hf st hg;subst hP hw hK;obtain⟨xs,hq,hx⟩:=hg;obtain⟨its,rv,p,hz⟩:=I.tuple hq;obtain⟨f0,f1,f2,f3,f4,f5⟩:=hf it (by simp);have hl:=rv.length;exact wpAny_pyNext_tuple_end (I.ok.hd hc) st (show s.heap.IsTuple a its.toArray from p) (by simp;lia) fun h' eb=>⟨rfl,I.turned (t':=s.toks) (fun b o hb e=>eb b o hb e) f0 f1 f3 f4 f5⟩
 self:=fun _ _ _ _ _ st h=>wpAny_pyIter_tupleiter st h
theorem ZgJ{P:Program}{w:World}{K:PySem.W.Frag}{tg:Expr}(it:Addr)(lo:Int)(n:Nat):Turn P w K tg (Itr lo n) [it] it (fun i h=>IsRangeIter h it (lo+(i:Nat)*1) ((n:Int)-(i:Nat)) 1) where
 mem:=by simp
 obj:=fun i h st b hb=>by
  have e:b=it:=by simpa using hb
  subst e;exact⟨_,st,fun v z=>by
   have z':Data.fields _=Data.cell v:=z;cases z'⟩
 keep:=fun i h h' st k=>k it (by simp) _ st
 item:=by
  intro X hP hw hK hc i pins s σ H E I hf st hg;subst hP hw hK;obtain⟨f0,f1,f2,f3,f4,f5⟩:=hf it (by simp);have W:=Walks.range (prog:=X.prog) (w:=X.w) (I.ok.hd hc) it lo 1 n;refine W.item i s _ _ hg st fun v h' tk hv st' kk=>?_;obtain⟨t,rfl⟩:=hv;have I1:Inv X pins σ H { s with heap:=h',toks:=tk }:=I.turned (fun b o hb e=>kk b o (by simpa using hb) e) f0 f1 f3 f4 f5;refine⟨_,rfl,Zkr (s:={ s with heap:=h',toks:=tk }) (n := "range_iterator") st' rfl rfl (by decide) ⟨.int (lo+i),H,I1,⟨t,?_⟩,⟨rfl,rfl⟩,st',fun b hb=>(hf b hb).1⟩⟩;rw[Int.mul_one]
 done:=by
  intro X hP hw hK hc i pins s σ H E I hf st hg;subst hP hw hK;obtain⟨f0,f1,f2,f3,f4,f5⟩:=hf it (by simp);exact wpAny_pyNext_range_end (I.ok.hd hc) st (by have:n<=i:=hg;lia) fun h' eb=>⟨rfl,I.turned (t':=s.toks) (fun b o hb e=>eb b o hb e) f0 f1 f3 f4 f5⟩
 self:=fun _ _ _ _ _ st h=>wpAny_pyIter_rangeiter st h
section
variable{X:Cx}{tg:Expr}
def Zlh(K:PySem.W.Frag)(tl:TE):TI:=fun σ H R=>tl σ H fun x H1=>∃a,x=.ref a/\(∃xs,SqL K H1 a xs)/\R (Itl K a) H1
def Zmh(K:PySem.W.Frag)(tl:TE):TI:=fun σ H R=>tl σ H fun x H1=>∃a,x=.ref a/\(∃xs,SqT K H1 a xs)/\R (Itt K a) H1
theorem Zbq{l:Expr}{tl:TE}(hl:PE X l tl):PI X tg l (Zlh X.K tl):=by
 intro pins s σ H R I h;refine thn (hl pins s σ H _ I h) fun v s1 ⟨x,H1,I1,r1,q1⟩=>?_;obtain⟨a,e,⟨xs,hq⟩,q⟩:=q1;subst e;cases r1;obtain⟨its,rv,p,hz⟩:=I1.list hq;refine wpAny_pyIter_list p.isList ?_;refine⟨s1.heap.objs.size,[s1.heap.objs.size],_,_,H1,rfl,I1.kept (t':=s1.toks) fun b o e=>Heap.get?_push_of_some _ e,Zia a _,⟨_,Heap.get?_push_size _ rfl,rfl,rfl⟩,fun b hb=>?_,q⟩;have e:b=s1.heap.objs.size:=by simpa using hb
 subst e;exact I1.fpOk (Nat.le_refl _) (I1.hok.fresh (Nat.le_refl _))
theorem ZbX{l:Expr}{tl:TE}(hl:PE X l tl):PI X tg l (Zmh X.K tl):=by
 intro pins s σ H R I h;refine thn (hl pins s σ H _ I h) fun v s1 ⟨x,H1,I1,r1,q1⟩=>?_;obtain⟨a,e,⟨xs,hq⟩,q⟩:=q1;subst e;cases r1;obtain⟨its,rv,p,hz⟩:=I1.tuple hq;refine wpAny_pyIter_tuple (show s1.heap.IsTuple a its.toArray from p) ?_;refine⟨s1.heap.objs.size,[s1.heap.objs.size],_,_,H1,rfl,I1.kept (t':=s1.toks) fun b o e=>Heap.get?_push_of_some _ e,Zgz a _,⟨_,Heap.get?_push_size _ rfl,rfl,rfl⟩,fun b hb=>?_,q⟩;have e:b=s1.heap.objs.size:=by simpa using hb
 subst e;exact I1.fpOk (Nat.le_refl _) (I1.hok.fresh (Nat.le_refl _))
theorem Zih{pins:List (Addr×Obj)}{σ : St}{H:Hp}{s:Shared}{R:It->Hp->Prop}{E:Value->Shared->Prop}{lo hi:Int}{t u v:Tok}{tk:Nat}(I:Inv X pins σ H s)(h1 : -(2 ^ 62)<=lo)(h2:lo<2 ^ 62)(h3 : -(2 ^ 62)<=hi)(h4:hi<2 ^ 62)
  (q:R (Itr lo (hi-lo).toNat) H):wpAny (model X.prog X.w) X.A (pyIter (.ref s.heap.objs.size)) (PIE X pins σ tg R) E { s with heap:=s.heap.push { cls:=.type "range",data:=.fields #[.int lo t,.int hi u,.int 1 v] },toks:=tk }:=by
 refine wpAny_pyIter_range (IsRange.new ..) (small_one h1 h2 h3 h4) ?_;have I1:Inv X pins σ H { s with heap:=s.heap.push { cls:=.type "range",data:=.fields #[.int lo t,.int hi u,.int 1 v] },toks:=tk }:=I.kept fun b o e=>Heap.get?_push_of_some _ e;refine⟨(s.heap.push { cls:=.type "range",data:=.fields #[.int lo t,.int hi u,.int 1 v] }).objs.size,[(s.heap.push { cls:=.type "range",data:=.fields #[.int lo t,.int hi u,.int 1 v] }).objs.size],_,_,H,rfl,
  I1.kept (t':=tk) fun b o e=>Heap.get?_push_of_some _ e,ZgJ _ lo (hi-lo).toNat,?_,fun b hb=>?_,q⟩
 ·have e1:lo+((0:Nat):Int)*1=lo:=by simp
  have e2:(((hi-lo).toNat:Nat):Int)-((0:Nat):Int)=Builtin.Range.rangeSize lo hi 1:=by rw[rangeSize_one];split <;> lia
  show IsRangeIter _ _ (lo+((0:Nat):Int)*1) ((((hi-lo).toNat:Nat):Int)-((0:Nat):Int)) 1;rw[e1,e2];exact Heap.get?_push_size _ rfl
 ·have e:b=(s.heap.push { cls:=.type "range",data:=.fields #[.int lo t,.int hi u,.int 1 v] }).objs.size:=by simpa using hb
  subst e;exact I1.fpOk (Nat.le_refl _) (I1.hok.fresh (Nat.le_refl _))
def Zl2(ta:TA):TI:=fun σ H R=>ta σ H fun vs H1=>∃j:Int,vs=[.int j] /\ -(2 ^ 62)<=j/\j<2 ^ 62/\R (Itr 0 j.toNat) H1
theorem Zbd{a:Expr}{ta:TA}{p pos:Pos}(hg:Gl X "range") (hm:X.mg "range" = none) (ha:PA X [a] ta) (hs:starEach [a] X.env=[(false,eval a X.env)]:=by rfl):PI X tg (.Call (.Name "range" p) [a] [] pos) (Zl2 ta):=by
 intro pins s σ H R I h;refine Call_ (Zf3 I hg hm boot_range (PyProof.Rows.callWith_type1 (thn (ha pos pins s σ H _ I h) fun us s1 ⟨vs,H1,I1,r1,q1⟩=>?_) hs rfl));obtain⟨j,e,q1,q2,q⟩:=q1;subst e;cases r1 with
 | cons r rr =>
  cases rr;obtain⟨t,rfl⟩:=r;exact call_range_1 (Zih I1 (by lia) (by lia) q1 q2 (by simpa using q))
def ZmO(wi:TI)(g:TG)(tb:TS):TS:=fun D σ H=>wi σ H fun J H1=>∃W:Nat->Nat->St->Hp->Prop,(∃m,W 0 m σ H1)/\∀i m σ H,W i m σ H ->
 (J.stop i H/\D.nx σ H)\/(J.go i H/\∃N:St->Hp->Prop,(∀ σ' H',N σ' H'->∃m',m'<m/\W (i+1) m' σ' H')/\∀x H',J.yld i H x H'->g x σ H' fun σ2 H2=>tb { D with nx:=N,ct:=N,bk:=D.nx } σ2 H2)
def Zgk(fp:List Addr)(h:Heap):List (Addr×Obj):=fp.filterMap fun b=>(h.get? b).map fun o=>(b,o)
theorem ZbM{fp:List Addr}{h:Heap}{b:Addr}{o:Obj}(hb:b∈fp)(e:h.get? b=some o):(b,o)∈Zgk fp h:=List.mem_filterMap.mpr ⟨b,hb,by rw[e];rfl⟩
theorem Zic{fp:List Addr}{h:Heap}{p:Addr×Obj}(hp:p∈Zgk fp h):p.1∈fp/\h.get? p.1=some p.2:=by
 obtain⟨b,hb,e⟩:=List.mem_filterMap.mp hp;cases q:h.get? b with
 | none=>rw[q] at e;cases e
 | some o =>
  rw[q] at e;have e':(b,o)=p:=Option.some.inj e;subst e';exact⟨hb,q⟩
theorem Inv.pinned{pins:List (Addr×Obj)}{σ : St}{H:Hp}{s:Shared}{fp:List Addr}(I:Inv X pins σ H s)(hf:∀b∈fp,Zcx X pins H b)(ho:∀b∈fp,∃o,s.heap.get? b=some o/\∀v,o.data ≠ .cell v):Inv X (pins++Zgk fp s.heap) σ H s :=
 I.pins_of fun p hp=>(List.mem_append.mp hp).elim (fun z=>I.pin p (List.mem_append_right _ z)) fun z=>by
  obtain⟨hb,e⟩:=Zic z;obtain⟨f0,f1,f2,_⟩:=hf p.1 hb;obtain⟨o,e',d⟩:=ho p.1 hb;rw[e] at e';cases e';exact⟨e,f0,f1,f2,d⟩
theorem Inv.unpinned{pins pl:List (Addr×Obj)}{σ : St}{H:Hp}{s:Shared}(I:Inv X (pins++pl) σ H s):Inv X pins σ H s:=I.pins_of fun p hp=>I.pin p (List.mem_append_right _ (List.mem_append_left _ hp))
theorem ZaZ{iter:Expr}{body:List Stmt}{wi:TI}{g:TG}{tb:TS}{pos:Pos}(hp:PassesOwn (model X.prog X.w) X.A X.env X.xe)(hc:X.calm=true)(hi:PI X tg iter wi)(hg:PG X tg g)(hb:PSs X body tb)
  (hs:∀x,foldedSetIterable iter X.env x=pure x:=by intro _;rfl):PS X (.For tg iter body [] pos) (ZmO wi g tb):=by
 intro pins s σ H D I h;refine wpAny_For (thn (hi pins s σ H _ I h) fun v s1 h1=>thn h1 fun itv s2 h2=>?_) hs;obtain⟨it,fp,tn,J,H2,e,I2,T,st2,f2,W,⟨m0,w0⟩,turn⟩:=h2;subst e;have stat:∀{H':Hp},(∀b∈fp,H' b=none)->∀b∈fp,Zcx X pins H' b:=fun hn b hb=>⟨hn b hb,(f2 b hb).2⟩;refine codeAny_forLoop_any (fun n s'=>∃i σ' H',Inv X pins σ' H' s'/\tn i s'.heap/\(∀b∈fp,H' b=none)/\W i n σ' H') ?_ m0 ⟨0,σ,H2,I2,st2,fun b hb=>(f2 b hb).1,w0⟩;rintro n s3 ⟨i,σ3,H3,I3,st3,fr3,w3⟩;rcases turn i n σ3 H3 w3 with⟨stop,qn⟩|⟨go,N,hN,step⟩
 ·refine wpAny_passesOwn hp (thn (T.done X rfl rfl rfl hc i pins s3 σ3 H3 X.xe I3 (stat fr3) st3 stop) fun r s4 ⟨hr,I4⟩=>?_);subst hr;exact wpAny_execs_nil ⟨σ3,H3,I4,qn⟩
 ·refine wpAny_passesOwn hp (thn (T.item X rfl rfl rfl hc i pins s3 σ3 H3 X.xe I3 (stat fr3) st3 go) fun r s4 ⟨u,hr,h4⟩=>?_);subst hr;refine wpAny_passesOwn hp (thn h4 fun _ s5 ⟨x,H5,I5,r5,y5,st5,fr5⟩=>?_);have I5':=I5.pinned (stat fr5) (T.obj _ _ st5);refine wpAny_passesOwn hp (thn (hg _ s5 σ3 H5 x u _ I5' r5 (step x H5 y5)) fun _ s6 ⟨σ6,H6,I6,q6⟩=>?_);refine wpAny_passesOwn hp (thn (hb _ s6 σ6 H6 _ I6 q6) fun f s7 q7=>?_);have again:∀{σ7:St}{H7:Hp},Inv X (pins++Zgk fp s5.heap) σ7 H7 s7->N σ7 H7->∃m,m<n/\∃i σ' H',Inv X pins σ' H' s7/\tn i s7.heap/\(∀b∈fp,H' b=none)/\W i m σ' H':=fun{σ7 H7} I7 n7=>by
   obtain⟨m',hm,w7⟩:=hN σ7 H7 n7;refine⟨m',hm,i+1,σ7,H7,I7.unpinned,T.keep _ _ _ st5 fun b hb o e=>(I7.pin (b,o) (List.mem_append_right _ (List.mem_append_right _ (ZbM hb e)))).1,fun b hb=>?_,w7⟩;obtain⟨o,e,d⟩:=T.obj _ _ st5 b hb;exact(I7.pin (b,o) (List.mem_append_right _ (List.mem_append_right _ (ZbM hb e)))).2.1
  cases f with
  | next=>obtain⟨σ7,H7,I7,n7⟩:=q7;exact again I7 n7
  | cont=>obtain⟨σ7,H7,I7,n7⟩:=q7;exact again I7 n7
  | brk=>obtain⟨σ7,H7,I7,q7⟩:=q7;exact⟨σ7,H7,I7.unpinned,q7⟩
  | ret v=>obtain⟨x7,σ7,H7,I7,r7,q7⟩:=q7;exact⟨x7,σ7,H7,I7.unpinned,r7,q7⟩
end
theorem Zci{K:PySem.W.Frag}{a:Addr}{xs:List V}{g:TG}{tb:TS}{D:Ends}{σ : St}{H:Hp}(Pv:Nat->St->Hp->Prop)(h0:Pv 0 σ H)(hl:∀i σ H,i<=xs.length->Pv i σ H->SqL K H a xs)
  (hs:∀i x σ H,xs[i]?= some x->Pv i σ H->g x σ H fun σ2 H2=>tb { D with nx:=Pv (i+1),ct:=Pv (i+1),bk:=D.nx } σ2 H2) (hd:∀ σ H,Pv xs.length σ H->D.nx σ H) :
  ∃W:Nat->Nat->St->Hp->Prop,(∃m,W 0 m σ H)/\∀i m σ H,W i m σ H ->
   ((Itl K a).stop i H/\D.nx σ H)\/((Itl K a).go i H/\∃N:St->Hp->Prop,(∀ σ' H',N σ' H'->∃m',m'<m/\W (i+1) m' σ' H')/\∀x H',(Itl K a).yld i H x H'->g x σ H' fun σ2 H2=>tb { D with nx:=N,ct:=N,bk:=D.nx } σ2 H2):=by
 refine⟨fun i m σ H=>m=xs.length-i/\i<=xs.length/\Pv i σ H,⟨xs.length,by simp,Nat.zero_le _,h0⟩,?_⟩;rintro i m σ H ⟨rfl,hi,p⟩;have q:=hl i σ H hi p;by_cases hlt:i<xs.length
 ·refine .inr ⟨⟨xs,xs[i],q,by simp[hlt]⟩,Pv (i+1),fun σ' H' p'=>⟨xs.length-(i+1),by lia,rfl,hlt,p'⟩,fun x H' y=>?_⟩;obtain⟨e,y⟩:=y;subst e;exact hs i x σ _ (y xs q) p
 ·have e:i=xs.length:=by lia
  subst e;exact .inl ⟨⟨xs,q,Nat.le_refl _⟩,hd σ H p⟩
theorem Zb6{K:PySem.W.Frag}{a:Addr}{xs:List V}{g:TG}{tb:TS}{D:Ends}{σ : St}{H:Hp}(Pv:Nat->St->Hp->Prop)(h0:Pv 0 σ H)(hl:∀i σ H,i<=xs.length->Pv i σ H->SqT K H a xs)
  (hs:∀i x σ H,xs[i]?= some x->Pv i σ H->g x σ H fun σ2 H2=>tb { D with nx:=Pv (i+1),ct:=Pv (i+1),bk:=D.nx } σ2 H2) (hd:∀ σ H,Pv xs.length σ H->D.nx σ H) :
  ∃W:Nat->Nat->St->Hp->Prop,(∃m,W 0 m σ H)/\∀i m σ H,W i m σ H ->
   ((Itt K a).stop i H/\D.nx σ H)\/((Itt K a).go i H/\∃N:St->Hp->Prop,(∀ σ' H',N σ' H'->∃m',m'<m/\W (i+1) m' σ' H')/\∀x H',(Itt K a).yld i H x H'->g x σ H' fun σ2 H2=>tb { D with nx:=N,ct:=N,bk:=D.nx } σ2 H2):=by
 refine⟨fun i m σ H=>m=xs.length-i/\i<=xs.length/\Pv i σ H,⟨xs.length,by simp,Nat.zero_le _,h0⟩,?_⟩;rintro i m σ H ⟨rfl,hi,p⟩;have q:=hl i σ H hi p;by_cases hlt:i<xs.length
 ·refine .inr ⟨⟨xs,xs[i],q,by simp[hlt]⟩,Pv (i+1),fun σ' H' p'=>⟨xs.length-(i+1),by lia,rfl,hlt,p'⟩,fun x H' y=>?_⟩;obtain⟨e,y⟩:=y;subst e;exact hs i x σ _ (y xs q) p
 ·have e:i=xs.length:=by lia
  subst e;exact .inl ⟨⟨xs,q,Nat.le_refl _⟩,hd σ H p⟩
theorem ZbK{lo:Int}{n:Nat}{g:TG}{tb:TS}{D:Ends}{σ : St}{H:Hp}(Pv:Nat->St->Hp->Prop)(h0:Pv 0 σ H)
  (hs:∀i σ H,i<n->Pv i σ H->g (.int (lo+i)) σ H fun σ2 H2=>tb { D with nx:=Pv (i+1),ct:=Pv (i+1),bk:=D.nx } σ2 H2) (hd:∀ σ H,Pv n σ H->D.nx σ H) :
  ∃W:Nat->Nat->St->Hp->Prop,(∃m,W 0 m σ H)/\∀i m σ H,W i m σ H ->
   ((Itr lo n).stop i H/\D.nx σ H)\/((Itr lo n).go i H/\∃N:St->Hp->Prop,(∀ σ' H',N σ' H'->∃m',m'<m/\W (i+1) m' σ' H')/\∀x H',(Itr lo n).yld i H x H'->g x σ H' fun σ2 H2=>tb { D with nx:=N,ct:=N,bk:=D.nx } σ2 H2):=by
 refine⟨fun i m σ H=>m=n-i/\i<=n/\Pv i σ H,⟨n,by simp,Nat.zero_le _,h0⟩,?_⟩;rintro i m σ H ⟨rfl,hi,p⟩;by_cases hlt:i<n
 ·refine .inr ⟨hlt,Pv (i+1),fun σ' H' p'=>⟨n-(i+1),by lia,rfl,hlt,p'⟩,fun x H' y=>?_⟩;obtain⟨e,y⟩:=y;subst e y;exact hs i σ _ hlt p
 ·have e:i=n:=by lia
  subst e;exact .inl ⟨Nat.le_refl _,hd σ H p⟩
abbrev R2:=V->V->Hp->VK->Prop
def OpR(X:Cx)(f:Value->Value->Sem Value)(r:R2):Prop :=
 ∀(pins:List (Addr×Obj))(s:Shared)(σ : St)(H:Hp)(x y:V)(v u:Value)(Q:VK),Inv X pins σ H s->RelV x v->RelV y u->r x y H Q ->
  wpAny (model X.prog X.w) X.A (f v u) (EP X pins σ Q) X.xe s
def UnR(X:Cx)(f:Value->Sem Value)(r:V->Hp->VK->Prop):Prop :=
 ∀(pins:List (Addr×Obj))(s:Shared)(σ : St)(H:Hp)(x:V)(v:Value)(Q:VK),Inv X pins σ H s->RelV x v->r x H Q ->
  wpAny (model X.prog X.w) X.A (f v) (EP X pins σ Q) X.xe s
def Zbk(X:Cx)(f:Value)(r:List V->Hp->VK->Prop):Prop :=
 ∀(pins:List (Addr×Obj))(s:Shared)(σ : St)(H:Hp)(xs:List V)(us:List Value)(Q:VK),Inv X pins σ H s->Vals xs us->r xs H Q ->
  wpAny (model X.prog X.w) X.A (call f us) (EP X pins σ Q) X.xe s
def ZmG(X:Cx)(r:V->Hp->(Bool->Hp->Prop)->Prop):Prop :=
 ∀(pins:List (Addr×Obj))(s:Shared)(σ : St)(H:Hp)(x:V)(v:Value)(Q:Bool->Hp->Prop),Inv X pins σ H s->RelV x v->r x H Q ->
  wpAny (model X.prog X.w) X.A (truthy v) (TP X pins σ Q) X.xe s
def tOp(r:R2)(ta tb:TE):TE:=fun σ H Q=>ta σ H fun x H1=>tb σ H1 fun y H2=>r x y H2 Q
def tUn(r:V->Hp->VK->Prop)(ta:TE):TE:=fun σ H Q=>ta σ H fun x H1=>r x H1 Q
def rI(C:Int->Int->Prop)(g:Int->Int->V):R2:=fun x y H Q=>∃i j,x=.int i/\y=.int j/\C i j/\Q (g i j) H
def rI0(g:Int->Int->V):R2:=fun x y H Q=>∃i j,x=.int i/\y=.int j/\Q (g i j) H
def rU(g:Int->V):V->Hp->VK->Prop:=fun x H Q=>∃i,x=.int i/\Q (g i) H
section
variable{X:Cx}{a b c:Expr}{ta tb tc:TE}{pos:Pos}
theorem ZlH(ha:PE X a ta)(hb:PE X b tb){pins:List (Addr×Obj)}{s:Shared}{σ : St}{H:Hp}{R:V->V->Hp->Prop}(I:Inv X pins σ H s)
  (h:ta σ H fun x H1=>tb σ H1 fun y H2=>R x y H2) {Q:Value->Shared->Prop} {f:Value->Value->Sem Value}
  (hf:∀v u s2 x y H2,Inv X pins σ H2 s2->RelV x v->RelV y u->R x y H2->wpAny (model X.prog X.w) X.A (f v u) Q X.xe s2) :
  wpAny (model X.prog X.w) X.A (eval a X.env) (fun v s₁=>wpAny (model X.prog X.w) X.A (eval b X.env) (fun u s₂=>wpAny (model X.prog X.w) X.A (f v u) Q X.xe s₂) X.xe s₁) X.xe s:=by
 refine thn (ha pins s σ H _ I h) fun v s1 ⟨x,H1,I1,r1,q1⟩=>?_;refine thn (hb pins s1 σ H1 _ I1 q1) fun u s2 ⟨y,H2,I2,r2,q2⟩=>?_;exact hf v u s2 x y H2 I2 r1 r2 q2
theorem ZF{op:Operator}{r:R2}(ho:OpR X (binaryOp op) r)(ha:PE X a ta)(hb:PE X b tb):PE X (.BinOp a op b pos) (tOp r ta tb):=by
 intro pins s σ H Q I h;exact wpAny_BinOp (ZlH ha hb I h fun v u s2 x y H2 I2 rx ry q=>ho pins s2 σ H2 x y v u Q I2 rx ry q)
theorem Zlp{op:UnaryOp}{r:V->Hp->VK->Prop}(ho:UnR X (unaryOp op) r)(ha:PE X a ta):PE X (.UnaryOp op a pos) (tUn r ta):=by
 intro pins s σ H Q I h;exact UnaryOp_ (thn (ha pins s σ H _ I h) fun v s1 ⟨x,H1,I1,r1,q1⟩=>ho pins s1 σ H1 x v Q I1 r1 q1)
theorem opI{f:Value->Value->Sem Value}{C:Int->Int->Prop}{g:Int->Int->Int}
  (rule:∀(i j:Int)(t u:Tok)(s:Shared)(Q:Value->Shared->Prop)(E:Value->Shared->Prop),C i j->Q (.int (g i j) s.toks) { s with toks:=s.toks+1 }->wpAny (model X.prog X.w) X.A (f (.int i t) (.int j u)) Q E s) :
  OpR X f (rI C fun i j=>.int (g i j)):=by
 intro pins s σ H x y v u Q I rx ry h;obtain⟨i,j,rfl,rfl,hc,q⟩:=h;obtain⟨t,rfl⟩:=rx;obtain⟨t',rfl⟩:=ry;exact rule i j t t' s _ _ hc ⟨.int (g i j),H,I.tok _,⟨_,rfl⟩,q⟩
theorem Zmj{f:Value->Value->Sem Value}{g:Int->Int->Int}
  (rule:∀(i j:Int)(t u:Tok)(s:Shared)(Q:Value->Shared->Prop)(E:Value->Shared->Prop),Q (.int (g i j) s.toks) { s with toks:=s.toks+1 }->wpAny (model X.prog X.w) X.A (f (.int i t) (.int j u)) Q E s) :
  OpR X f (rI0 fun i j=>.int (g i j)):=by
 intro pins s σ H x y v u Q I rx ry h;obtain⟨i,j,rfl,rfl,q⟩:=h;obtain⟨t,rfl⟩:=rx;obtain⟨t',rfl⟩:=ry;exact rule i j t t' s _ _ ⟨.int (g i j),H,I.tok _,⟨_,rfl⟩,q⟩
theorem Zml{f:Value->Value->Sem Value}{g:Int->Int->Bool}
  (rule:∀(i j:Int)(t u:Tok)(s:Shared)(Q:Value->Shared->Prop)(E:Value->Shared->Prop),Q (.bool (g i j)) s->wpAny (model X.prog X.w) X.A (f (.int i t) (.int j u)) Q E s) :
  OpR X f (rI0 fun i j=>.bl (g i j)):=by
 intro pins s σ H x y v u Q I rx ry h;obtain⟨i,j,rfl,rfl,q⟩:=h;obtain⟨t,rfl⟩:=rx;obtain⟨t',rfl⟩:=ry;exact rule i j t t' s _ _ ⟨.bl (g i j),H,I,rfl,q⟩
def Zmv(i j:Int):Prop:=0<j/\j<1073741824
def ZlP(i j:Int):Prop:=(-(2 ^ 64)<i/\i<2 ^ 64)\/(-(2 ^ 64)<j/\j<2 ^ 64)
theorem ZlP.ok{i j:Int}(h:ZlP i j):IntMulOk i j:=by
 rcases h with⟨h1,h2⟩|⟨h1,h2⟩
 ·exact .of_left (intBits_le_64 h1 h2)
 ·exact .of_right (intBits_le_64 h1 h2)
theorem Za5:OpR X (binaryOp .Add) (rI0 fun i j=>.int (i+j)):=Zmj fun _ _ _ _ _ _ _ q=>add_int q
theorem Zcj:OpR X (binaryOp .Sub) (rI0 fun i j=>.int (i-j)):=Zmj fun _ _ _ _ _ _ _ q=>sub_int q
theorem Zgb:OpR X (binaryOp .Mult) (rI ZlP fun i j=>.int (i*j)):=opI fun _ _ _ _ _ _ _ hc q=>mul_int q hc.ok
theorem ZaM:OpR X (binaryOp .FloorDiv) (rI Zmv fun i j=>.int (i / j)):=opI fun i j _ _ _ _ _ hc q=>by
 have h1:(0:Int)<j:=hc.1;have h2:j<1073741824:=hc.2;exact floordiv_int (by lia) (by rw[Int.fdiv_eq_ediv_of_nonneg i (by lia)];exact q) (.inl (PyProof.noPylong_small (by lia)))
theorem Zal:OpR X (binaryOp .Mod) (rI (fun _ j=>0<j) fun i j=>.int (i % j)):=opI fun i j _ _ _ _ _ hc q=>by
 have h1:(0:Int)<j:=hc;exact mod_int' (by lia) (by rw[Int.fmod_eq_emod_of_nonneg i (by lia)];exact q)
theorem unI{f:Value->Sem Value}{g:Int->Int}
  (rule:∀(i:Int)(t:Tok)(s:Shared)(Q:Value->Shared->Prop)(E:Value->Shared->Prop),Q (.int (g i) s.toks) { s with toks:=s.toks+1 }->wpAny (model X.prog X.w) X.A (f (.int i t)) Q E s) :
  UnR X f (rU fun i=>.int (g i)):=by
 intro pins s σ H x v Q I rx h;obtain⟨i,rfl,q⟩:=h;obtain⟨t,rfl⟩:=rx;exact rule i t s _ _ ⟨.int (g i),H,I.tok _,⟨_,rfl⟩,q⟩
theorem Zja:UnR X (unaryOp .USub) (rU fun i=>.int (-i)):=unI fun _ _ _ _ _ q=>neg_int q
end
def Zmk:V->V->Bool
 | .non,.non=>true | .non,.int _=>true | .int _,.non=>true | .non,.bl _=>true | .bl _,.non=>true | .non,.str _=>true | .str _,.non=>true
 | .int _,.int _=>true | .bl _,.bl _=>true | .str _,.str _=>true | .byt _,.byt _=>true
 | .int _,.str _=>true | .str _,.int _=>true | .bl _,.str _=>true | .str _,.bl _=>true
 | _,_=>false
def rEq:R2:=fun x y H Q=>Zmk x y=true/\Q (.bl (decide (x=y))) H
def rNe:R2:=fun x y H Q=>Zmk x y=true/\Q (.bl (!decide (x=y))) H
theorem Zg0{i j:Int}:decide (V.int i=V.int j)=(i == j):=by
 rw[Bool.eq_iff_iff];simp
theorem Zjg{i j:Bool}:decide (V.bl i=V.bl j)=(i == j):=by
 rw[Bool.eq_iff_iff];simp
theorem ZhR{i j:Str}:decide (V.str i=V.str j)=(i == j):=by
 rw[Bool.eq_iff_iff];simp
theorem Zhl{i j:Array UInt8}:decide (V.byt i=V.byt j)=(i.toList == j.toList):=by
 rw[Bool.eq_iff_iff];cases i;cases j;simp
section
variable{X:Cx}{a b c:Expr}{ta tb tc:TE}{pos:Pos}
theorem Zac{pins:List (Addr×Obj)}{σ : St}{H:Hp}{s:Shared}{Q:VK}{k k':Bool}(I:Inv X pins σ H s)(q:Q (.bl k) H)(e:k=k'):EP X pins σ Q (.bool k') s:=by
 subst e;exact⟨.bl k,H,I,rfl,q⟩
theorem ZaN:OpR X (compareOp .Eq) rEq:=by
 intro pins s σ H x y v u Q I rx ry h;obtain⟨hs,q⟩:=h;cases x with
 | non =>
  cases rx;cases y with
  | non=>cases ry;exact PySem.EqNone.eq_none_none (Zac I q (by simp))
  | bl j=>cases ry;exact PySem.EqNone.eq_none_bool (Zac I q (by simp))
  | int j=>obtain⟨t',rfl⟩:=ry;exact PySem.EqNone.eq_none_int (Zac I q (by simp))
  | str j=>obtain⟨t',rfl⟩:=ry;exact PySem.EqNone.eq_none_str (Zac I q (by simp))
  | _=>exact absurd (show false=true from hs) Bool.false_ne_true
 | bl i =>
  cases rx;cases y with
  | non=>cases ry;exact PySem.EqNone.eq_bool_none (Zac I q (by simp))
  | bl j=>cases ry;exact eq_bool (Zac I q Zjg)
  | str j=>obtain⟨t',rfl⟩:=ry;exact PySem.EqMixed.eq_bool_str (Zac I q (by simp))
  | _=>exact absurd (show false=true from hs) Bool.false_ne_true
 | int i =>
  obtain⟨t,rfl⟩:=rx;cases y with
  | non=>cases ry;exact PySem.EqNone.eq_int_none (Zac I q (by simp))
  | int j=>obtain⟨t',rfl⟩:=ry;exact eq_int (Zac I q Zg0)
  | str j=>obtain⟨t',rfl⟩:=ry;exact PySem.EqMixed.eq_int_str (Zac I q (by simp))
  | _=>exact absurd (show false=true from hs) Bool.false_ne_true
 | str i =>
  obtain⟨t,rfl⟩:=rx;cases y with
  | non=>cases ry;exact PySem.EqNone.eq_str_none (Zac I q (by simp))
  | bl j=>cases ry;exact PySem.EqMixed.eq_str_bool (Zac I q (by simp))
  | int j=>obtain⟨t',rfl⟩:=ry;exact PySem.EqMixed.eq_str_int (Zac I q (by simp))
  | str j=>obtain⟨t',rfl⟩:=ry;exact eq_str (Zac I q ZhR)
  | _=>exact absurd (show false=true from hs) Bool.false_ne_true
 | byt i =>
  obtain⟨t,rfl⟩:=rx;cases y with
  | byt j=>obtain⟨t',rfl⟩:=ry;exact PySem.W.eq_bytes (Zac I q Zhl)
  | _=>exact absurd (show false=true from hs) Bool.false_ne_true
 | _=>cases y <;> exact absurd (show false=true from hs) Bool.false_ne_true
theorem ZiV:OpR X (compareOp .NotEq) rNe:=by
 intro pins s σ H x y v u Q I rx ry h;obtain⟨hs,q⟩:=h;cases x with
 | non =>
  cases rx;cases y with
  | non=>cases ry;exact PySem.EqNone.ne_none_none (Zac I q (by simp))
  | bl j=>cases ry;exact PySem.EqNone.ne_none_bool (Zac I q (by simp))
  | int j=>obtain⟨t',rfl⟩:=ry;exact PySem.EqNone.ne_none_int (Zac I q (by simp))
  | str j=>obtain⟨t',rfl⟩:=ry;exact PySem.EqNone.ne_none_str (Zac I q (by simp))
  | _=>exact absurd (show false=true from hs) Bool.false_ne_true
 | bl i =>
  cases rx;cases y with
  | non=>cases ry;exact PySem.EqNone.ne_bool_none (Zac I q (by simp))
  | bl j=>cases ry;exact ne_bool (Zac I q (congrArg not Zjg))
  | str j=>obtain⟨t',rfl⟩:=ry;exact PySem.EqMixed.ne_bool_str (Zac I q (by simp))
  | _=>exact absurd (show false=true from hs) Bool.false_ne_true
 | int i =>
  obtain⟨t,rfl⟩:=rx;cases y with
  | non=>cases ry;exact PySem.EqNone.ne_int_none (Zac I q (by simp))
  | int j=>obtain⟨t',rfl⟩:=ry;exact ne_int (Zac I q (congrArg not Zg0))
  | str j=>obtain⟨t',rfl⟩:=ry;exact PySem.EqMixed.ne_int_str (Zac I q (by simp))
  | _=>exact absurd (show false=true from hs) Bool.false_ne_true
 | str i =>
  obtain⟨t,rfl⟩:=rx;cases y with
  | non=>cases ry;exact PySem.EqNone.ne_str_none (Zac I q (by simp))
  | bl j=>cases ry;exact PySem.EqMixed.ne_str_bool (Zac I q (by simp))
  | int j=>obtain⟨t',rfl⟩:=ry;exact PySem.EqMixed.ne_str_int (Zac I q (by simp))
  | str j=>obtain⟨t',rfl⟩:=ry;exact ne_str (Zac I q (congrArg not ZhR))
  | _=>exact absurd (show false=true from hs) Bool.false_ne_true
 | byt i =>
  obtain⟨t,rfl⟩:=rx;cases y with
  | byt j=>obtain⟨t',rfl⟩:=ry;exact PySem.W.ne_bytes (Zac I q (congrArg not Zhl))
  | _=>exact absurd (show false=true from hs) Bool.false_ne_true
 | _=>cases y <;> exact absurd (show false=true from hs) Bool.false_ne_true
theorem ZkZ:OpR X (compareOp .Lt) (rI0 fun i j=>.bl (decide (i<j))):=Zml fun _ _ _ _ _ _ _ q=>lt_int q
theorem ZgM:OpR X (compareOp .Gt) (rI0 fun i j=>.bl (decide (j<i))):=Zml fun _ _ _ _ _ _ _ q=>gt_int q
theorem ZjY:OpR X (compareOp .IsNot) (fun x y H Q=>y=.non/\Q (.bl (!decide (x=.non))) H):=by
 intro pins s σ H x y v u Q I rx ry h;obtain⟨rfl,q⟩:=h;cases ry;refine isnot_none_gen (Zac I q ?_);cases x <;> first
  | (cases rx;rfl)
  | (obtain⟨t,rfl⟩:=rx;rfl)
theorem ZV(b:Expr){op:CmpOp}(h:op ≠ .In:=by decide)(h2:op ≠ .NotIn:=by decide):behindInMarks op b=false:=by
 have e1:(op == CmpOp.In)=false:=by cases op <;> first|rfl|exact absurd rfl h
 have e2:(op == CmpOp.NotIn)=false:=by cases op <;> first|rfl|exact absurd rfl h2
 cases b <;> simp[behindInMarks,e1,e2]
theorem Za7{op:CmpOp}{r:R2}(ho:OpR X (compareOp op) r)(ha:PE X a ta)(hb:PE X b tb)(hm:behindInMarks op b=false):PE X (.Compare a [op] [b] pos) (tOp r ta tb):=by
 intro pins s σ H Q I h;exact wpAny_Compare1 (ZlH ha hb I h fun v u s2 x y H2 I2 rx ry q=>ho pins s2 σ H2 x y v u Q I2 rx ry q) hm
def ZlR(t:TE):TT:=fun σ H Q=>t σ H fun x H'=>∃k,x=.bl k/\Q k H'
theorem ZD{op:CmpOp}{r:R2}(ho:OpR X (compareOp op) r)(ha:PE X a ta)(hb:PE X b tb)(hm:behindInMarks op b=false):PT X (.Compare a [op] [b] pos) (ZlR (tOp r ta tb)):=by
 intro pins s σ H Q I h;refine wpAny_isTrue_Compare1 (thn (ha pins s σ H _ I h) fun v s1 ⟨x,H1,I1,r1,q1⟩=>thn (hb pins s1 σ H1 _ I1 q1) fun u s2 ⟨y,H2,I2,r2,q2⟩ =>
  thn (ho pins s2 σ H2 x y v u _ I2 r1 r2 q2) fun c s3 ⟨z,H3,I3,r3,k,e,q3⟩=>?_) hm
 subst e;cases r3;exact wpAny_truthy_bool ⟨H3,I3,q3⟩
def Zmi(K:PySem.W.Frag)(x:V)(H:Hp)(k:Bool):Prop :=
 match x with
 | .non=>k=false
 | .bl b=>k=b
 | .int i=>k=(i != 0)
 | .str y=>y.length<=sizeLine/\k=((y.length:Int) != 0)
 | .byt y=>y.size<=sizeLine/\k=((y.size:Int) != 0)
 | .ref p=>(∃xs,SqL K H p xs/\k= !xs.isEmpty)\/(∃xs,SqT K H p xs/\k= !xs.isEmpty)\/∃kvs,H p=some (.dK kvs)/\k= !kvs.isEmpty
 | _=>False
theorem Zgy{κ : Type}{kvs:List (κ × V)}{vs:List (κ × Value)}(r:KV kvs vs):(!vs.isEmpty)= !kvs.isEmpty:=by
 cases r <;> rfl
theorem ZdY{xs:List V}{its:List Value}(r:Vals xs its):(!its.toArray.isEmpty)= !xs.isEmpty:=by
 cases r <;> simp
theorem ZdC:(sizeLine:Nat)<2 ^ 63:=by rw[sizeLine_eq];decide
theorem ZkW:ZmG X (fun x H Q=>∃k,Zmi X.K x H k/\Q k H):=by
 intro pins s σ H x v Q I rx h;obtain⟨k,e,q⟩:=h;have hl:=ZdC;have hs:sizeLine=16777216:=sizeLine_eq;cases x with
 | non =>
  cases rx;have e':k=false:=e;subst e';exact truthy_none ⟨H,I,q⟩
 | bl b =>
  cases rx;have e':k=b:=e;subst e';exact wpAny_truthy_bool ⟨H,I,q⟩
 | int i =>
  obtain⟨t,rfl⟩:=rx;have e':k=(i != 0):=e;subst e';exact PySem.P.truthy_int ⟨H,I,q⟩
 | str y =>
  obtain⟨t,rfl⟩:=rx;obtain⟨hy,e'⟩:y.length<=sizeLine/\k=((y.length:Int) != 0):=e;subst e';exact PySem.P.truthy_str (by lia) ⟨H,I.tok _,q⟩
 | byt y =>
  obtain⟨t,rfl⟩:=rx;obtain⟨hy,e'⟩:y.size<=sizeLine/\k=((y.size:Int) != 0):=e;subst e';exact PySem.W.truthy_bytes (by lia) ⟨H,I.tok _,q⟩
 | ref p =>
  cases rx;have e':(∃xs,SqL X.K H p xs/\k= !xs.isEmpty)\/(∃xs,SqT X.K H p xs/\k= !xs.isEmpty)\/∃kvs,H p=some (.dK kvs)/\k= !kvs.isEmpty:=e;rcases e' with⟨xs,hx,e'⟩|⟨xs,hx,e'⟩|⟨kvs,hx,e'⟩
  ·subst e';obtain⟨its,r,pl,hz⟩:=I.list hx;have hlen:=r.length;exact wpAny_truthy_list pl.isList (by simp only[List.size_toArray];lia) ⟨H,I.tok _,by rw[ZdY r];exact q⟩
  ·subst e';obtain⟨its,r,pl,hz⟩:=I.tuple hx;have hlen:=r.length;exact truthy_tuple pl (by simp only[List.size_toArray];lia) ⟨H,I.tok _,by rw[ZdY r];exact q⟩
  ·subst e';obtain⟨hz,hS,vs,r,m⟩:kvs.length<=sizeLine/\(p == sysModules)=false/\∃vs,KV kvs vs/\s.heap.DictOf (ZaB X.prog X.w) p vs:=I.hok p _ hx;have hlen:kvs.length=vs.length:=Paired.length r;exact wpAny_truthy_dict hS m (by lia) ⟨H,I.tok _,by rw[Zgy r];exact q⟩
 | _=>exact(show False from e).elim
theorem ZaG(ha:PE X a ta)(he:∀whole,isTrue a X.env whole=(do let v <- whole;standAt a.pos;holding [v] (truthy v))) :
  PT X a (fun σ H Q=>ta σ H fun x H'=>∃k,Zmi X.K x H' k/\Q k H'):=by
 intro pins s σ H Q I h;exact isTrue_plain (thn (ha pins s σ H _ I h) fun v s1 ⟨x,H1,I1,r1,q1⟩=>ZkW pins s1 σ H1 x v Q I1 r1 q1) (he _)
theorem ZcD:OpR X (binaryOp .Add) (fun x y H Q=>∃i j,x=.str i/\y=.str j/\i.length+j.length<=sizeLine/\Q (.str (i++j)) H):=by
 intro pins s σ H x y v u Q I rx ry h;obtain⟨i,j,rfl,rfl,hz,q⟩:=h;obtain⟨t,rfl⟩:=rx;obtain⟨t',rfl⟩:=ry;exact add_str (fun t' tk=>⟨.str (i++j),H,I.tok _,⟨_,rfl⟩,q⟩) hz
theorem vals1{x:V}{us:List Value}(r:Vals [x] us):∃u,us=[u]/\RelV x u:=by
 cases r with
 | cons r1 r2=>cases r2;exact⟨_,rfl,r1⟩
theorem vals2{x y:V}{us:List Value}(r:Vals [x,y] us):∃u w',us=[u,w']/\RelV x u/\RelV y w':=by
 cases r with
 | cons r1 r2 =>
  cases r2 with
  | cons r3 r4=>cases r4;exact⟨_,_,rfl,r1,r3⟩
theorem ZeD(hc:X.calm=true):Zbk X (.builtin "min") (fun xs H Q=>∃i j,xs=[.int i,.int j]/\Q (.int (if j<i then j else i)) H):=by
 intro pins s σ H xs us Q I r h;obtain⟨i,j,rfl,q⟩:=h;obtain⟨u,w',rfl,⟨t,rfl⟩,⟨t',rfl⟩⟩:=vals2 r;refine min_two_ints (I.ok.hd hc) fun h' tk k=>⟨_,H,I.kept k,?_,q⟩;by_cases hj:j<i
 ·rw[if_pos hj,if_pos hj];exact⟨_,rfl⟩
 ·rw[if_neg hj,if_neg hj];exact⟨_,rfl⟩
end
structure ObjM(h:Heap)(x dx C:Addr)(mA:Str->Option Value):Prop where
 obj:h.get? x=some (PySem.W.instObj C dx)
 ns:h.Ns1 dx mA
 ne:dx≠x
theorem ZhD{h:Heap}{dx:Addr}{mA:Str->Option Value}(n:h.Ns1 dx mA):∃od,h.get? dx=some od/\∀name,PySem.W.lookIn name od=some (mA name):=by
 obtain⟨o,es,ep,ho,hd,hk,_,hm⟩:=n;refine⟨o,ho,fun name=>?_⟩;have e:=hm name;unfold nsFind findBy at e;rw[<- Array.find?_toList] at e;unfold PySem.W.lookIn;rw[hd];dsimp only
 split
 ·rename_i y q
  rw[q] at e;exact congrArg some e
 ·rename_i q
  rw[q] at e;have a:es.toList.any (·.refKey)=false:=by
   rw[List.any_eq_false];intro y hy;obtain⟨z,t,hkey⟩:=hk y (Array.mem_toList_iff.mp hy);simp[DictEntry.refKey,hkey]
  have a' : ¬ es.toList.any (·.refKey)=true:=by rw[a];exact Bool.false_ne_true
  rw[if_neg a'];exact congrArg some e
theorem ObjM.look{h:Heap}{x dx C:Addr}{mA:Str->Option Value}(I:ObjM h x dx C mA):∃od,PySem.W.InstAt h x (PySem.W.instObj C dx) C (some od)/\∀name,PySem.W.lookIn name od=some (mA name) :=
 let ⟨od,ho,hl⟩:=ZhD I.ns
 ⟨od,⟨I.obj,rfl,rfl,ho⟩,hl⟩
section
variable{prog:Program}{w:World}{A:Around}{E:Value->Shared->Prop}{s:Shared}{K:PySem.W.Frag}{x dx C f:Addr}{mA:Str->Option Value}{name:Str}{v:Value}
theorem ZjW{expr:Bool}{Q:Value->Shared->Prop}(X:K.In s.heap)(I:ObjM s.heap x dx C mA)(hg:PySem.W.plainGet K C name=true)(hh:PySem.W.hasDictIn K C=true)
  (ha:PySem.W.findIn K (.ref C) name=some none) (hv:mA name=some v) (hv':PySem.W.handedIn v=true) (h:Q v { s with toks:=s.toks+1 }) :
  wpAny (model prog w) A (getAttr (.ref x) name expr) Q E s:=by
 obtain⟨od,J,hl⟩:=I.look;exact PySem.W.get_value X J (PySem.W.plainGet_of hg).1 (PySem.W.findObj_own hh ha rfl (by rw[hl,hv])) hv' h
theorem ZiH{pl:Sem Bool}{Q:Value×List Value->Shared->Prop}(X:K.In s.heap)(I:ObjM s.heap x dx C mA)(hg:PySem.W.plainGet K C name=true)
  (hf:PySem.W.findIn K (.ref C) name=some (some (.ref f))) (ht:PySem.W.isFn K (.ref f)=true) (hv:mA name=none) (h:Q (.ref f,[.ref x]) s) :
  wpAny (model prog w) A (getMethod (.ref x) name pl) Q E s:=by
 obtain⟨od,J,hl⟩:=I.look;exact PySem.W.method_fn X J (PySem.W.plainGet_of hg).1 (PySem.W.plainGet_of hg).2 hf (beq_iff_eq.mp ht) (by show(PySem.W.lookIn name od).map (·.isSome)=some false;rw[hl,hv];rfl) h
theorem Zj2{ns:List Str}{Q:Unit->Shared->Prop}(X:K.In s.heap)(I:ObjM s.heap x dx C mA)
  (hs:PySem.W.findIn K (.ref C) "__setattr__" = some (some (.builtin "object.__setattr__"))) (hp:PySem.W.plainOver K C=true) (ht:PySem.W.takerIn K C name=some none) (hh:PySem.W.hasDictIn K C=true)
  (hw:PySem.Within mA ns) (hsz:ns.length<=sizeLine)
  (h:∀h',ObjM h' x dx C (fun y=>if y=name then some v else mA y)->Heap.SameBut dx s.heap h'->Q () { s with heap:=h',toks:=s.toks+2 }) :
  wpAny (model prog w) A (setAttr (.ref x) name v) Q E s:=by
 obtain⟨od,J,hl⟩:=I.look;refine PySem.W.set_plain X J hs (PySem.W.osa_open (s:={ s with toks:=s.toks+1 }) (r:=none) X J hp ht fun b=>?_);obtain⟨cd,hc,hd'⟩:=PySem.W.any_some hh;have hx:s.heap.get? x=some ⟨.ref C,some dx,.plain,#[]⟩:=I.obj;refine wpAny_bind (wpAny_pure (wpAny_bind (wpAny_bind (wpAny_loadPart hx (wpAny_bind (PySem.W.Looks.here (s:={ s with toks:=s.toks+1 }) (PySem.W.looks_clsIn X hc) ?_))))));rw[hd'];refine wpAny_pure (a:=some dx) (wpAny_bind (wpAny_pure (wpAny_bind ?_)));refine wpAny_nsSet1 (s:={ s with toks:=s.toks+1 }) I.ns fun h' hn2 hs2=>?_;obtain⟨oD,esD,epD,hoD,hdD,hcD⟩:=hn2.count (PySem.Within.cons name v hw);refine wpAny_bind (wpAny_lookBehind hoD (by rw[hdD];exact pastItsLine_dict (Nat.le_trans hcD (by rw[List.length_cons];lia))) ?_);exact wpAny_pure (h _ ⟨(hs2.2 _ (Ne.symm I.ne)).trans I.obj,hn2,I.ne⟩ hs2)
theorem ZiA{R:Result->Shared->Prop}{vs:List Value}{kw:List (Str×Value)}(X:K.In s.heap)(hm:PySem.W.makesIn K C=true)
  (hi:PySem.W.findIn K (.ref C) "__init__" = some (some (.ref f))) (hf:PySem.W.typeIn K (.ref f)=some (.type "function"))
  (h:codeAny (model prog w) (A.under (.builtin "type.__call__" ⟨.ref C::vs,kw⟩)) (.call (.ref f) ⟨.ref (s.heap.objs.size+1)::vs,kw⟩) (PySem.W.InitBack (s.heap.objs.size+1) R)
   { s with heap:=(s.heap.push PySem.W.emptyDict).push (PySem.W.instObj C s.heap.objs.size) }) :
  codeAny (model prog w) A (.call (.ref C) ⟨vs,kw⟩) R s:=by
 obtain⟨hh,g,d,t,os⟩:=s;exact PySem.W.make_core (PySem.W.makes_of X hm) (PySem.W.looks_findIn X hi) (fun self=>PySem.W.bind_fn X self hf) (.inl rfl) h
end
def Zb8(f:Str)(v:V):List (Str×V)->List (Str×V)
 | []=>[(f,v)]
 | (g,x)::r=>if g=f then(g,v)::r else(g,x)::Zb8 f v r
theorem ZdH(f g:Str)(v:V):∀fs:List (Str×V),(Zb8 f v fs).lookup g=if g=f then some v else fs.lookup g
 | []=>by
  show List.lookup g [(f,v)]=_;by_cases h:g=f
  ·have hb:(g == f)=true:=beq_iff_eq.mpr h;simp only[List.lookup,hb,if_pos h]
  ·have hb:(g == f)=false:=beq_eq_false_iff_ne.mpr h;simp only[List.lookup,hb,if_neg h]
 | (k,x)::r=>by
  have ih:=ZdH f g v r;rw[show Zb8 f v ((k,x)::r)=(if k=f then(k,v)::r else(k,x)::Zb8 f v r) from rfl]
  by_cases hk:k=f
  ·rw[if_pos hk];by_cases h:g=k
   ·have hb:(g == k)=true:=beq_iff_eq.mpr h;simp only[List.lookup,hb,if_pos (h.trans hk)]
   ·have hb:(g == k)=false:=beq_eq_false_iff_ne.mpr h;simp only[List.lookup,hb,if_neg (fun e:g=f=>h (e.trans hk.symm))]
  ·rw[if_neg hk];by_cases h:g=k
   ·have hb:(g == k)=true:=beq_iff_eq.mpr h;simp only[List.lookup,hb,if_neg (fun e:g=f=>hk (h.symm.trans e))]
   ·have hb:(g == k)=false:=beq_eq_false_iff_ne.mpr h;simp only[List.lookup,hb];exact ih
theorem Zdy(f:Str)(v:V):∀fs:List (Str×V),f∈(Zb8 f v fs).map (·.1)/\∀g,g∈fs.map (·.1)->g∈(Zb8 f v fs).map (·.1)
 | []=>⟨by simp[Zb8],fun g h=>by simp at h⟩
 | (k,x)::r=>by
  obtain⟨i1,i2⟩:=Zdy f v r;rw[show Zb8 f v ((k,x)::r)=(if k=f then(k,v)::r else(k,x)::Zb8 f v r) from rfl]
  by_cases hk:k=f
  ·rw[if_pos hk];subst hk;exact⟨by simp,fun g h=>by simpa using h⟩
  ·rw[if_neg hk];refine⟨?_,fun g h=>?_⟩
   ·rw[List.map_cons];exact List.mem_cons_of_mem _ i1
   ·rw[List.map_cons] at h ⊢;rcases List.mem_cons.mp h with e|e
    ·exact List.mem_cons.mpr (.inl e)
    ·exact List.mem_cons_of_mem _ (i2 g e)
theorem ZdM(f:Str)(v:V):∀fs:List (Str×V),(Zb8 f v fs).length<=fs.length+1
 | []=>by simp[Zb8]
 | (k,x)::r=>by
  have ih:=ZdM f v r;rw[show Zb8 f v ((k,x)::r)=(if k=f then(k,v)::r else(k,x)::Zb8 f v r) from rfl]
  by_cases hk:k=f
  ·rw[if_pos hk,List.length_cons,List.length_cons];lia
  ·rw[if_neg hk,List.length_cons,List.length_cons];lia
theorem Zfa.some_of{v:V}{o:Option Value}(r:Zfa (some v) o):∃u,o=some u/\RelV v u:=by
 cases o with
 | none=>exact(show False from r).elim
 | some u=>exact⟨u,rfl,r⟩
theorem Zfa.none_of{o:Option Value}(r:Zfa none o):o=none:=by
 cases o with
 | none=>rfl
 | some u=>exact(show False from r).elim
theorem Zg3{v:V}{u:Value}(r:RelV v u):PySem.W.handedIn u=true:=by
 cases v with
 | non=>cases (show u=Value.none from r);rfl
 | bl b=>cases (show u=Value.bool b from r);rfl
 | int i=>obtain⟨t,e⟩:=(show ∃t,u=Value.int i t from r);cases e;rfl
 | str x=>obtain⟨t,e⟩:=(show ∃t,u=Value.str x t from r);cases e;rfl
 | byt b=>obtain⟨t,e⟩:=(show ∃t,u=Value.bytes b t from r);cases e;rfl
 | flt b=>obtain⟨t,e⟩:=(show ∃t,u=Value.float b t from r);cases e;rfl
 | ref a=>cases (show u=Value.ref a from r);rfl
 | ty n=>cases (show u=Value.type n from r);rfl
section
variable{P:Program}{w:World}{H H':Hp}{h h':Heap}{a C dx:Addr}{fs fs':List (Str×V)}
theorem Zeu(hok:HOk P w H h)(e:H a=some (.ins C dx fs)):∃mA,ObjM h a dx C mA/\(∀f,Zfa (fs.lookup f) (mA f))/\PySem.Within mA (fs.map (·.1))/\fs.length<=1000/\H dx=some (.own a):=by
 obtain⟨d,z,ne,ob,mA,n,r,q⟩:=(show ZaA P w H h a (.ins C dx fs) from hok a _ e);exact⟨mA,⟨ob,n,ne⟩,r,q,z,d⟩
end
structure Cls(K:PySem.W.Frag)(C:Addr):Prop where
 pg:PySem.W.plainGet K C Str.empty=true
 hd:PySem.W.hasDictIn K C=true
 po:PySem.W.plainOver K C=true
 sa:PySem.W.findIn K (.ref C) "__setattr__" = some (some (.builtin "object.__setattr__"))
theorem Cls.get{K:PySem.W.Frag}{C:Addr}(c:Cls K C)(f:Str):PySem.W.plainGet K C f=true:=c.pg
def ZbW(K:PySem.W.Frag)(C:Addr)(f:Str):Prop:=PySem.W.findIn K (.ref C) f=some none
theorem ZbW.taker{K:PySem.W.Frag}{C:Addr}{f:Str}(n:ZbW K C f):PySem.W.takerIn K C f=some none:=by
 unfold PySem.W.takerIn;rw[show PySem.W.findIn K (.ref C) f=some none from n];rfl
structure Meth(K:PySem.W.Frag)(C:Addr)(m:Str)(f:Addr):Prop where
 at_:PySem.W.findIn K (.ref C) m=some (some (.ref f))
 fn:PySem.W.isFn K (.ref f)=true
 kp:PySem.W.keepIn K (.ref f)=true
section
variable{X:Cx}{pins:List (Addr×Obj)}{σ : St}{H:Hp}{s:Shared}{a C dx:Addr}{fs:List (Str×V)}{f:Str}{v:V}{A:Around}{E:Value->Shared->Prop}
theorem Zgq{b:Bool}{Q:Value->Shared->Prop}(I:Inv X pins σ H s)(e:H a=some (.ins C dx fs))(c:Cls X.K C)(n:ZbW X.K C f)(l:fs.lookup f=some v)
  (h:∀u s',Inv X pins σ H s'->RelV v u->Q u s'):wpAny (model X.prog X.w) A (getAttr (.ref a) f b) Q E s:=by
 obtain⟨mA,O,r,_,_,_⟩:=Zeu I.hok e;obtain⟨u,hu,ru⟩:=Zfa.some_of (v:=v) (o:=mA f) (by rw[<- l];exact r f);exact ZjW I.kIn O (c.get f) c.hd n hu (Zg3 ru) (h u _ (I.tok _) ru)
theorem ZgI{m:Str}{g:Addr}{pl:Sem Bool}{Q:Value×List Value->Shared->Prop}(I:Inv X pins σ H s)(e:H a=some (.ins C dx fs))(c:Cls X.K C)(k:Meth X.K C m g)(l:fs.lookup m=none)
  (h:Q (.ref g,[.ref a]) s):wpAny (model X.prog X.w) A (getMethod (.ref a) m pl) Q E s:=by
 obtain⟨mA,O,r,_,_,_⟩:=Zeu I.hok e;have hn:mA m=none:=Zfa.none_of (by rw[<- l];exact r m);exact ZiH I.kIn O (c.get m) k.at_ k.fn hn h
theorem ZgD{y:V}{u:Value}{Q:Unit->Shared->Prop}(I:Inv X pins σ H s)(e:H a=some (.ins C dx fs))(c:Cls X.K C)(n:ZbW X.K C f)(hl:fs.length<1000)(ry:RelV y u)
  (h:∀s',Inv X pins σ (upd H a (.ins C dx (Zb8 f y fs))) s'->Q () s'):wpAny (model X.prog X.w) A (setAttr (.ref a) f u) Q E s:=by
 obtain⟨mA,O,r,wi,_,ho⟩:=Zeu I.hok e;have hz:(fs.map (·.1)).length<=sizeLine:=by rw[List.length_map,sizeLine_eq];lia
 refine Zj2 I.kIn O c.sa c.po n.taker c.hd wi hz fun h' O' sb=>h _ ?_;have hd:∃o,h'.get? dx=some o:=let ⟨o,_,_,e',_⟩:=O'.ns;⟨o,e'⟩;refine I.write (x:=a) (e:=dx) (by rw[e];exact True.intro) (.inr ho) (fun b q hb z=>(sb.2 b hb).trans z) hd ?_;refine⟨by rw[Zu O.ne];exact ho,?_,O.ne,O'.obj,_,O'.ns,fun g=>?_,fun g hg=>?_⟩
 ·have:=ZdM f y fs;lia
 ·show Zfa ((Zb8 f y fs).lookup g) (if g=f then some u else mA g)
  rw[ZdH];by_cases q:g=f
  ·rw[if_pos q,if_pos q];exact ry
  ·rw[if_neg q,if_neg q];exact r g
 ·by_cases q:g=f
  ·rw[q];exact(Zdy f y fs).1
  ·refine(Zdy f y fs).2 g (wi g fun z=>hg ?_);show(if g=f then some u else mA g)=none
   rw[if_neg q];exact z
theorem Inv.made(I:Inv X pins σ H s):Inv X pins σ (upd (upd H s.heap.objs.size (.own (s.heap.objs.size+1))) (s.heap.objs.size+1) (.ins C s.heap.objs.size []))
  { s with heap:=(s.heap.push PySem.W.emptyDict).push (PySem.W.instObj C s.heap.objs.size) }:=by
 have e1:(s.heap.push PySem.W.emptyDict).get? s.heap.objs.size=some PySem.W.emptyDict:=Heap.get?_push_size s.heap rfl;have e2:((s.heap.push PySem.W.emptyDict).push (PySem.W.instObj C s.heap.objs.size)).get? (s.heap.objs.size+1)=some (PySem.W.instObj C s.heap.objs.size):=by
  have:=Heap.get?_push_size (s.heap.push PySem.W.emptyDict) (o:=PySem.W.instObj C s.heap.objs.size) rfl
  rwa [Heap.size_push] at this
 have e3:(s.heap.push PySem.W.emptyDict).Ns s.heap.objs.size (fun _=>none):=⟨PySem.W.emptyDict,#[],_,e1,rfl,(fun e he=>absurd he (by simp)),fun _=>rfl⟩;have I1:=I.laid (a:=s.heap.objs.size) (o:=.own (s.heap.objs.size+1)) (h':=s.heap.push PySem.W.emptyDict) (t':=s.toks) (fun b u q=>Heap.get?_push_of_some _ q) (Nat.le_refl _) ⟨_,e1⟩;refine I1.laid (a:=s.heap.objs.size+1) (o:=.ins C s.heap.objs.size []) (t':=s.toks) (fun b u q=>Heap.get?_push_of_some _ q) (Nat.le_of_eq (Heap.size_push _ _)) ?_;have ne:s.heap.objs.size≠s.heap.objs.size+1:=Nat.ne_of_lt (Nat.lt_succ_self _);refine⟨by rw[Zu ne,Zb],Nat.zero_le _,ne,e2,fun _=>none,(Heap.Ns1.of_empty e3).at fun o q=>Heap.get?_push_of_some _ q,fun _=>True.intro,fun y hy=>absurd rfl hy⟩
theorem ZjH{prog:Program}{w:World}{env:Env}{e:Expr}{f:Str}{pos:Pos}{s:Shared}{Q:Value->Shared->Prop}(hb:attributeBase e f env (eval e env)=eval e env)
  (h:wpAny (model prog w) A (eval e env) (fun o s₁=>wpAny (model prog w) A (getAttr o f true) Q E s₁) E s):wpAny (model prog w) A (eval (.Attribute e f pos) env) Q E s :=
 Attribute_any_ h (by rw[arm_eval_Attribute,hb])
end
def ZmA(K:PySem.W.Frag)(ta:TE)(f:Str):TE:=fun σ H Q=>ta σ H fun x H1=>∃a C dx fs v,x=.ref a/\H1 a=some (.ins C dx fs)/\Cls K C/\ZbW K C f/\fs.lookup f=some v/\Q v H1
def Zms(K:PySem.W.Frag)(ta tv:TE)(f:Str):TS:=fun D σ H=>tv σ H fun y H1=>ta σ H1 fun x H2=>∃a C dx fs,x=.ref a/\H2 a=some (.ins C dx fs)/\Cls K C/\ZbW K C f/\fs.length<1000 /\
 D.nx σ (upd H2 a (.ins C dx (Zb8 f y fs)))
section
variable{X:Cx}{o e value:Expr}{f:Str}{pos pos' tpos:Pos}{ta tv:TE}
theorem ZbG(he:PE X e ta)(hb:attributeBase e f X.env (eval e X.env)=eval e X.env):PE X (.Attribute e f pos) (ZmA X.K ta f):=by
 intro pins s σ H Q I h;refine ZjH hb (thn (he pins s σ H _ I h) fun u s1 ⟨x,H1,I1,rx,a,C,dx,fs,v,ex,ea,c,n,l,q⟩=>?_);subst ex;obtain rfl:u=Value.ref a:=rx;exact Zgq I1 ea c n l fun u' s2 I2 ru=>⟨v,H1,I2,ru,q⟩
theorem ZfP(ha:PE X o ta)(hv:PE X value tv)(hs:swapsWith value (some (.Attribute o f pos')) pos.line X.env=pure false):PS X (.Assign [.Attribute o f pos'] value pos) (Zms X.K ta tv f):=by
 intro pins s σ H D I h;refine plainObj_wpAny_Assign_Attribute (thn (hv pins s σ H _ I h) fun u s1 ⟨y,H1,I1,ry,q⟩=>thn (ha pins s1 σ H1 _ I1 q) fun ov s2 ⟨x,H2,I2,rx,a,C,dx,fs,ex,ea,c,n,l,q2⟩=>?_) hs;subst ex;obtain rfl:ov=Value.ref a:=rx;exact ZgD I2 ea c n l ry fun s3 I3=>⟨σ,_,I3,q2⟩
end
section
variable{X:Cx}{pins:List (Addr×Obj)}{σ : St}{H:Hp}{s:Shared}{A:Around}{E:Value->Shared->Prop}{Q:Value->Shared->Prop}{c:Value}{b:Bool}
inductive TyOf(K:PySem.W.Frag)(H:Hp):V->Value->Prop where
 | non:TyOf K H .non (.type "NoneType")
 | bl (x:Bool):TyOf K H (.bl x) (.type "bool")
 | int (i:Int):TyOf K H (.int i) (.type "int")
 | str (x:Str):TyOf K H (.str x) (.type "str")
 | flt (x:UInt64):TyOf K H (.flt x) (.type "float")
 | lst {a:Addr} {xs:List V} (e:H a=some (.lst xs)):TyOf K H (.ref a) (.type "list")
 | frz {a:Addr} {o:Obj} {xs:List V} (e:H a=some (.frz o (.lst xs))):TyOf K H (.ref a) (.type "list")
 | tup {a:Addr} {xs:List V} (e:H a=some (.tup xs)):TyOf K H (.ref a) (.type "tuple")
 | dK {a:Addr} {kvs:List (Key×V)} (e:H a=some (.dK kvs)):TyOf K H (.ref a) (.type "dict")
 | dT {a:Addr} {kvs:List (List Key×V)} (e:H a=some (.dT kvs)):TyOf K H (.ref a) (.type "dict")
 | ins {a C dx:Addr} {fs:List (Str×V)} (e:H a=some (.ins C dx fs)) (cl:Cls K C) (ha:PySem.W.findIn K (.ref C) "__class__" = some (some (.builtin "object.__class__")))
   (hn:PySem.W.specialIn K (.builtin "object.__class__") "__get__" = some (some (.builtin "getset_descriptor.__get__"))) (htk:PySem.W.takesIn K (.builtin "object.__class__")=some true)
   (hm:PySem.W.mroIn K C (.type "object")=some true):TyOf K H (.ref a) (.ref C)
theorem Zh5{x:V}{u t:Value}(I:Inv X pins σ H s)(rx:RelV x u)(ty:TyOf X.K H x t)(e:PySem.W.kitOne X.K t c=some b)(h:∀tk,Q (.bool b) { s with toks:=tk }) :
  wpAny (model X.prog X.w) A (call (.builtin "isinstance") [u,c]) Q E s:=by
 cases ty with
 | non=>cases (show u=Value.none from rx);exact PySem.W.kia_one PySem.W.kitx_none I.kIn True.intro e (fun z=>nomatch z) h
 | bl y=>cases (show u=Value.bool y from rx);exact PySem.W.kia_one PySem.W.kitx_bool I.kIn True.intro e (fun z=>nomatch z) h
 | int i=>obtain⟨t,q⟩:=(show ∃t,u=Value.int i t from rx);cases q;exact PySem.W.kia_one PySem.W.kitx_int I.kIn True.intro e (fun z=>nomatch z) h
 | str y=>obtain⟨t,q⟩:=(show ∃t,u=Value.str y t from rx);cases q;exact PySem.W.kia_one PySem.W.kitx_str I.kIn True.intro e (fun z=>nomatch z) h
 | flt y=>obtain⟨t,q⟩:=(show ∃t,u=Value.float y t from rx);cases q;exact PySem.W.kia_one PySem.W.kitx_float I.kIn True.intro e (fun z=>nomatch z) h
 | @lst a xs ea =>
  cases (show u=Value.ref a from rx);obtain⟨_,_,n,_,h1⟩:=(show ZaA X.prog X.w H s.heap a (.lst xs) from I.hok a _ ea);exact PySem.W.kia_one PySem.W.kitx_list I.kIn ⟨_,h1,rfl⟩ e (fun z=>nomatch z) h
 | @frz a ob xs ea =>
  cases (show u=Value.ref a from rx);obtain⟨_,_,_,n,_,h1⟩:=(show ZaA X.prog X.w H s.heap a (.frz ob (.lst xs)) from I.hok a _ ea);exact PySem.W.kia_one PySem.W.kitx_list I.kIn ⟨_,h1,rfl⟩ e (fun z=>nomatch z) h
 | @tup a xs ea =>
  cases (show u=Value.ref a from rx);obtain⟨_,_,_,p⟩:=(show ZaA X.prog X.w H s.heap a (.tup xs) from I.hok a _ ea);obtain⟨o,h1,h2,_⟩:=p;exact PySem.W.kia_one PySem.W.kitx_tuple I.kIn ⟨o,h1,h2⟩ e (fun z=>nomatch z) h
 | @dK a kvs ea =>
  cases (show u=Value.ref a from rx);obtain⟨_,_,vs,_,p⟩:=(show ZaA X.prog X.w H s.heap a (.dK kvs) from I.hok a _ ea);obtain⟨o,es,ep,h1,h2,_⟩:=p;exact PySem.W.kia_one PySem.W.kitx_dict I.kIn ⟨o,h1,h2.1⟩ e (fun z=>nomatch z) h
 | @dT a kvs ea =>
  cases (show u=Value.ref a from rx);obtain⟨_,_,xs,_,o,es,ep,h1,h2,_⟩:=(show ZaA X.prog X.w H s.heap a (.dT kvs) from I.hok a _ ea);exact PySem.W.kia_one PySem.W.kitx_dict I.kIn ⟨o,h1,h2.1⟩ e (fun z=>nomatch z) h
 | @ins a C dx fs ea cl ha hn htk hm =>
  cases (show u=Value.ref a from rx);obtain⟨mA,O,_⟩:=Zeu I.hok ea;obtain⟨od,J,_⟩:=O.look;exact PySem.W.kia_one (PySem.W.kitx_own (cl.get _) cl.hd ha hn htk hm) I.kIn J e (fun z=>nomatch z) h
end
structure Room(k:Nat)(A:Around):Prop where
 hd:A.handled=none
 dp:A.depth+2*k+5<recursionLimit
 un:A.units+16*k+200<cLine
 gd:A.guards=some []
theorem Room.mono{j k:Nat}{A:Around}(r:Room k A)(h:j<=k):Room j A:=⟨r.hd,by have:=r.dp;lia,by have:=r.un;lia,r.gd⟩
theorem Room.deeper{k:Nat}{A:Around}(r:Room (k+1) A)(env:Env):Room k (A.deeper env) :=
 ⟨r.hd,by have:=r.dp;show A.depth+1+2*k+5<_;lia,by have:=r.un;show A.units+3+16*k+200<_;lia,r.gd⟩
theorem Zgo{A:Around}{C:Addr}{us:List Value}{kw:List (Str×Value)}:(A.under (.builtin "type.__call__" ⟨.ref C::us,kw⟩)).depth=A.depth+1:=by
 first|rfl|simp[Around.under,Code.weight,Code.isCreation,Code.isGuard,Code.isCaller,Code.frames,Code.isFrame,guardIds]
theorem ZgY{A:Around}{C:Addr}{us:List Value}{kw:List (Str×Value)}:(A.under (.builtin "type.__call__" ⟨.ref C::us,kw⟩)).units=A.units+1:=by
 first|rfl|simp[Around.under,Code.cUnits,Code.frames,Code.isFrame]
theorem ZfE{A:Around}{C:Addr}{us:List Value}{kw:List (Str×Value)}:(A.under (.builtin "type.__call__" ⟨.ref C::us,kw⟩)).guards=A.guards:=by
 have h:(Code.builtin "type.__call__" ⟨.ref C::us,kw⟩).guards=[]:=by first|rfl|simp[Code.guards,Code.isGuard,guardIds]
 unfold Around.under;dsimp only;rw[h];cases A.guards <;> rfl
theorem Room.make{k:Nat}{A:Around}(r:Room (k+1) A)(C:Addr)(us:List Value)(kw:List (Str×Value)):Room k (A.under (.builtin "type.__call__" ⟨.ref C::us,kw⟩)) :=
 ⟨r.hd,by have:=r.dp;rw[Zgo];lia,by have:=r.un;rw[ZgY];lia,by rw[ZfE];exact r.gd⟩
theorem Room.depth{k:Nat}{A:Around}(r:Room k A):A.depth<recursionLimit:=by have:=r.dp;lia
def Zku:TA:=fun _ H Q=>Q [] H
def Zfi(ta:TE)(tr:TA):TA:=fun σ H Q=>ta σ H fun x H1=>tr σ H1 fun xs H2=>Q (x::xs) H2
section
variable{X:Cx}{e:Expr}{es:List Expr}{te:TE}{t:TA}{pos:Pos}
theorem Zf:PA X [] Zku:=fun _ _ _ _ H Q I h=>Calls.spliced_nil ⟨[],H,I,.nil,h⟩
theorem Za(ha:PE X e te)(hr:PA X es t)(hs:starEach (e::es) X.env=(false,eval e X.env)::starEach es X.env:=by rfl):PA X (e::es) (Zfi te t):=by
 intro pos pins s σ H Q I h;rw[hs];show wpAny _ _ (spliced ((false,eval e X.env)::backTo pos (starEach es X.env))) _ _ s;refine Calls.spliced_cons (thn (ha pins s σ H _ I h) fun u s1 ⟨x,H1,I1,r1,q1⟩=>?_);exact thn (hr pos pins s1 σ H1 _ I1 q1) fun us s2 ⟨xs,H2,I2,r2,q2⟩=>⟨x::xs,H2,I2,.cons r1 r2,q2⟩
def ZlA(t:TA):TE:=fun σ H Q=>t σ H fun xs H1=>xs.length<=sizeLine/\∀p,H1 p=none->Q (.ref p) (upd H1 p (.tup xs))
def Zly(t:TA):TE:=fun σ H Q=>t σ H fun xs H1=>xs.length<=sizeLine/\∀p,H1 p=none->Q (.ref p) (upd H1 p (.lst xs))
theorem Z0{x1}(h:PA X es t):PE X (.Tuple es x1 pos) (ZlA t):=by
 intro pins s σ H Q I hq;refine wpAny_Tuple_spliced (thn (h pos pins s σ H _ I hq) fun us s1 ⟨xs,H1,I1,r,z,q⟩=>⟨by rw[<- r.length];exact z,?_⟩);have hf:H1 s1.heap.objs.size=none:=I1.hok.fresh (Nat.le_refl _);refine⟨.ref s1.heap.objs.size,upd H1 s1.heap.objs.size (.tup xs),I1.laid (t':=s1.toks) (fun b u e=>Heap.get?_push_of_some _ e) (Nat.le_refl _) ?_,rfl,q _ hf⟩;exact⟨z,us,r,⟨_,Heap.get?_push_size _ rfl,rfl,_,rfl⟩⟩
theorem Zas(h:PA X es t):PE X (.List es pos) (Zly t):=by
 intro pins s σ H Q I hq;refine wpAny_List_spliced (thn (h pos pins s σ H _ I hq) fun us s1 ⟨xs,H1,I1,r,z,q⟩=>⟨by rw[<- r.length];exact z,?_⟩);have hf:H1 s1.heap.objs.size=none:=I1.hok.fresh (Nat.le_refl _);refine⟨.ref s1.heap.objs.size,upd H1 s1.heap.objs.size (.lst xs),I1.laid (t':=s1.toks) (fun b u e=>Heap.get?_push_of_some _ e) (Nat.le_refl _) ?_,rfl,q _ hf⟩;exact⟨z,us,0,r,Heap.get?_push_size _ rfl⟩
end
abbrev Sp:=List V->Hp->VK->XK->Prop
abbrev CXT:=List Env->Hp->Shared->XK->Value->Shared->Prop
structure Env0(P:Program)(w:World)(K:PySem.W.Frag)(mg:Str->Option Value)(base:Heap)(A:Around)(outer:List Env)(s:Shared)(H:Hp):Prop where
 frames:A.frames=some outer
 mod:Mod K mg base
 bs:∀b o,base.get? b=some o->s.heap.get? b=some o/\H b=none
 bsz:base.objs.size<=s.heap.objs.size
 funs:s.heap.FunFrames base outer
 frf:∀b∈frs outer,H b=none
 hok:HOk P w H s.heap
 bare:AllBare s.gens
def CE(outer:List Env)(P:Program)(w:World)(H:Hp)(s:Shared)(Q:VK)(u:Value)(s':Shared):Prop :=
 ∃v H',s'.os=s.os/\AllBare s'.gens/\Un (frs outer) [] H H' s.heap s'.heap/\HOk P w H' s'.heap/\RelV v u/\Q v H'
def CR(CX:CXT)(outer:List Env)(P:Program)(w:World)(H:Hp)(s:Shared)(Q:VK)(E:XK)(r:Result)(s':Shared):Prop :=
 match r with
 | .ok (.ret u)=>CE outer P w H s Q u s'
 | .ok _=>False
 | .error e=>CX outer H s E e s'
structure FnOk(P:Program)(w:World)(K:PySem.W.Frag)(mg:Str->Option Value)(base:Heap)(CX:CXT)(k:Nat)(f:Addr)(fd:FuncData)(ps:List Str)(sp:Sp):Prop where
 len:∀vs H Q E,sp vs H Q E->vs.length=ps.length
 run:∀(A:Around)(outer:List Env)(s:Shared)(H:Hp)(args:Args)(us:List Value)(vs:List V)(Q:VK)(E:XK),Room k A->Env0 P w K mg base A outer s H->BindsTo s fd args (ps.zip us)->Vals vs us->sp vs H Q E ->
  codeAny (model P w) A (.call (.ref f) args) (CR CX outer P w H s Q E) s
theorem Env0.make{P:Program}{w:World}{K:PySem.W.Frag}{mg:Str->Option Value}{base:Heap}{A:Around}{outer:List Env}{s:Shared}{H:Hp}(e:Env0 P w K mg base A outer s H)(C:Addr)(us:List Value)(kw:List (Str×Value)) :
  Env0 P w K mg base (A.under (.builtin "type.__call__" ⟨.ref C::us,kw⟩)) outer s H:=⟨by first|exact e.frames|(simpa[Around.under,Code.envs,Code.isFrame,pushEnvs] using e.frames),e.mod,e.bs,e.bsz,e.funs,e.frf,e.hok,e.bare⟩
section
variable{X:Cx}{pins:List (Addr×Obj)}{σ : St}{H:Hp}{s s':Shared}
theorem Inv.env0(I:Inv X pins σ H s):Env0 X.prog X.w X.K X.mg X.base X.A X.stack s H :=
 ⟨I.ok.frames,I.ok.mod,I.bs,Nat.le_trans I.ok.bsz I.sz,I.stack,I.stkFree,I.hok,I.bare⟩
theorem Inv.after{Q:VK}{u:Value}(I:Inv X pins σ H s)(h:CE X.stack X.prog X.w H s Q u s'):EP X pins σ Q u s':=by
 obtain⟨v,H',os,bare,un,hok,r,q⟩:=h;obtain⟨hh,g,d,t,os'⟩:=s';obtain rfl:os'=s.os:=os;exact⟨v,H',I.call (h':=hh) (g':=g) (d':=d) (t':=t) (ch:=[]) un hok bare (fun b z=>absurd z (by simp)),r,q⟩
end
def Zlr(sp:Sp)(dvs:List V)(E:XK)(t:TA):TE:=fun σ H Q=>t σ H fun vs H1=>sp (vs++dvs) H1 Q E
def ZkB(C:Addr)(m:Str)(sp:Sp)(dvs:List V)(E:XK)(ta:TE)(t:TA):TE:=fun σ H Q=>ta σ H fun x H1=>∃a dx fs,x=.ref a/\H1 a=some (.ins C dx fs)/\fs.lookup m=none /\
 t σ H1 fun vs H2=>sp (x::(vs++dvs)) H2 Q E
def ZkE(C:Addr)(sp:Sp)(dvs:List V)(E:XK)(t:TA):TE:=fun σ H Q=>t σ H fun vs H1=>∀x dx,H1 x=none->H1 dx=none->dx≠x ->
 sp (.ref x::(vs++dvs)) (upd (upd H1 dx (.own x)) x (.ins C dx [])) (fun v H2=>v=.non/\Q (.ref x) H2) E
def Binds(K:PySem.W.Frag)(fd:FuncData)(ps:List Str)(ds:List Value):Prop :=
 ∀(s:Shared)(us:List Value),K.In s.heap->(us++ds).length=ps.length->BindsTo s fd ⟨us,[]⟩ (ps.zip (us++ds))
theorem Binds.all{K:PySem.W.Frag}{fd:FuncData}{ps:List Str}(h:∀us:List Value,us.length=ps.length->bindArgs fd ⟨us,[]⟩=pure (ps.zip us)):Binds K fd ps []:=fun s us _ hl=>by
 rw[List.append_nil] at hl ⊢;exact .of_eq (h us hl)
def ZdZ(CX:CXT)(X:Cx)(E:XK):Prop := ∀(pins:List (Addr×Obj))(σ : St)(H:Hp)(s:Shared)(e:Value)(s':Shared),Inv X pins σ H s->CX X.stack H s E e s'->X.xe e s'
section
variable{X:Cx}{CX:CXT}{k:Nat}{f C:Addr}{fd:FuncData}{ps:List Str}{sp:Sp}{dvs:List V}{ds:List Value}{E:XK}{x m:Str}{p pos apos:Pos}{e o:Expr}{es:List Expr}{ta:TE}{t:TA}
theorem Zju{pins:List (Addr×Obj)}{σ : St}{H:Hp}{s:Shared}{Q:VK}{us:List Value}{vs:List V}(F:FnOk X.prog X.w X.K X.mg X.base CX k f fd ps sp)(hr:Room k X.A)(hb:Binds X.K fd ps ds)(hd:Vals dvs ds)(hx:ZdZ CX X E)
  (I:Inv X pins σ H s) (r:Vals vs us) (h:sp (vs++dvs) H Q E):wpAny (model X.prog X.w) X.A (call (.ref f) us) (EP X pins σ Q) X.xe s:=by
 have r2:Vals (vs++dvs) (us++ds):=r.append hd;have hl:(us++ds).length=ps.length:=by rw[<- r2.length];exact F.len _ _ _ _ h
 refine wpAny_call (codeAny_mono (F.run X.A X.stack s H ⟨us,[]⟩ (us++ds) (vs++dvs) Q E hr I.env0 (hb s us I.kIn hl) r2 h) fun r s' hq=>?_);cases r with
 | error e=>exact hx pins σ H s e s' I hq
 | ok fl =>
  cases fl with
  | ret u=>exact I.after hq
  | next=>exact False.elim hq
  | brk=>exact False.elim hq
  | cont=>exact False.elim hq
theorem Zkh(F:FnOk X.prog X.w X.K X.mg X.base CX k f fd ps sp)(hr:Room k X.A)(hg:Gl X x)(hm:X.mg x=some (.ref f))(hk:PySem.W.keepIn X.K (.ref f)=true)(hb:Binds X.K fd ps ds)(hd:Vals dvs ds)(hx:ZdZ CX X E)
  (ha:PA X (e::es) t) (hdb:(x == ("__debug__" : Str))=false:=by decide) (he:starEach (e::es) X.env=(false,eval e X.env)::starEach es X.env:=by rfl) (hpl:(backTo pos (starEach es X.env)).any (·.1)=false:=by rfl) :
  PE X (.Call (.Name x p) (e::es) [] pos) (Zlr sp dvs E t):=by
 intro pins s σ H Q I h;refine wpAny_Call_Name_kw (Zdi I hg hm ?_ hdb);refine PySem.W.callWith_K (h₀ := X.base) I.ok.mod.kin hk (thn (ha pos pins s σ H _ I h) fun us s1 ⟨vs,H1,I1,r,q⟩=>⟨I1.kIn,?_⟩) he hpl;exact Zju F hr hb hd hx I1 r q
theorem ZjB{pl:Sem Bool}(he:PE X o ta)(c:Cls X.K C)(hm:Meth X.K C m f)(F:FnOk X.prog X.w X.K X.mg X.base CX k f fd ps sp)(hr:Room k X.A)(hb:Binds X.K fd ps ds)(hd:Vals dvs ds)(hx:ZdZ CX X E)(ha:PA X (e::es) t)
  (hst:starEach (e::es) X.env=(false,eval e X.env)::starEach es X.env:=by rfl) (hpl:(backTo pos (starEach es X.env)).any (·.1)=false:=by rfl)
  (ht:eval (.Call (.Attribute o m apos) (e::es) [] pos) X.env=(do
   let ov <- eval o X.env
   standAt apos.atName
   let (f,first) <- holding [ov] (getMethod ov m pl)
   callWith pos f first (backTo pos (starEach (e::es) X.env)) (backToKw pos (keywordEach [] X.env))):=by rfl) :
  PE X (.Call (.Attribute o m apos) (e::es) [] pos) (ZkB C m sp dvs E ta t):=by
 intro pins s σ H Q I h;refine PySem.W.methodCall_KW (pl:=pl) (thn (he pins s σ H _ I h) fun u s1 ⟨x,H1,I1,rx,a,dx,fs,ex,ea,l,q⟩=>?_) ht;subst ex;obtain rfl:u=Value.ref a:=rx;refine ZgI I1 ea c hm l ?_;refine PySem.W.callWith_K (first:=[.ref a]) (h₀ := X.base) I.ok.mod.kin hm.kp (thn (ha pos pins s1 σ H1 _ I1 q) fun us s2 ⟨vs,H2,I2,r,q2⟩=>⟨I2.kIn,?_⟩) hst hpl
 exact Zju (us:=.ref a::us) (vs:=.ref a::vs) F hr hb hd hx I2 (.cons rfl r) q2
structure Mk(K:PySem.W.Frag)(C f:Addr):Prop where
 makes:PySem.W.makesIn K C=true
 init:PySem.W.findIn K (.ref C) "__init__" = some (some (.ref f))
 fn:PySem.W.isFn K (.ref f)=true
 kp:PySem.W.keepIn K (.ref C)=true
theorem Zil{pins:List (Addr×Obj)}{σ : St}{H:Hp}{s:Shared}{Q:VK}{us:List Value}{vs:List V}(M:Mk X.K C f)(F:FnOk X.prog X.w X.K X.mg X.base CX k f fd ps sp)(hr:Room (k+1) X.A)(hb:Binds X.K fd ps ds)(hd:Vals dvs ds)
  (hx:ZdZ CX X E) (I:Inv X pins σ H s) (r:Vals vs us)
  (h:∀x dx,H x=none->H dx=none->dx≠x->sp (.ref x::(vs++dvs)) (upd (upd H dx (.own x)) x (.ins C dx [])) (fun v H2=>v=.non/\Q (.ref x) H2) E) :
  wpAny (model X.prog X.w) X.A (call (.ref C) us) (EP X pins σ Q) X.xe s:=by
 have hq:=h (s.heap.objs.size+1) s.heap.objs.size (I.hok.fresh (Nat.le_succ _)) (I.hok.fresh (Nat.le_refl _)) (Nat.ne_of_lt (Nat.lt_succ_self _));have I2:=Inv.made (C:=C) I;have r2:Vals (V.ref (s.heap.objs.size+1)::(vs++dvs)) (Value.ref (s.heap.objs.size+1)::(us++ds)):=.cons rfl (r.append hd);have hl:(Value.ref (s.heap.objs.size+1)::us++ds).length=ps.length:=by
  have e:=r2.length;rw[F.len _ _ _ _ hq] at e;exact e.symm
 refine wpAny_call (ZiA (f:=f) I.kIn M.makes M.init (beq_iff_eq.mp M.fn) (codeAny_mono (F.run _ X.stack _ _ ⟨Value.ref (s.heap.objs.size+1)::us,[]⟩ (Value.ref (s.heap.objs.size+1)::(us++ds)) _ _ E (hr.make C us [])
  (I2.env0.make C us []) (hb _ (Value.ref (s.heap.objs.size+1)::us) I2.kIn hl) r2 hq) fun r s' hq'=>?_))
 cases r with
 | error e=>exact hx pins σ _ _ e s' I2 hq'
 | ok fl =>
  cases fl with
  | ret u =>
   obtain⟨v,H',I3,rv,ev,q3⟩:=I2.after hq';subst ev;exact⟨rv,⟨V.ref (s.heap.objs.size+1),H',I3,rfl,q3⟩⟩
  | next=>exact False.elim hq'
  | brk=>exact False.elim hq'
  | cont=>exact False.elim hq'
theorem ZjS(M:Mk X.K C f)(F:FnOk X.prog X.w X.K X.mg X.base CX k f fd ps sp)(hr:Room (k+1) X.A)(hg:Gl X x)(hm:X.mg x=some (.ref C))(hb:Binds X.K fd ps ds)(hd:Vals dvs ds)(hx:ZdZ CX X E)
  (ha:PA X (e::es) t) (hdb:(x == ("__debug__" : Str))=false:=by decide) (he:starEach (e::es) X.env=(false,eval e X.env)::starEach es X.env:=by rfl) (hpl:(backTo pos (starEach es X.env)).any (·.1)=false:=by rfl) :
  PE X (.Call (.Name x p) (e::es) [] pos) (ZkE C sp dvs E t):=by
 intro pins s σ H Q I h;refine wpAny_Call_Name_kw (Zdi I hg hm ?_ hdb);refine PySem.W.callWith_K (h₀ := X.base) I.ok.mod.kin M.kp (thn (ha pos pins s σ H _ I h) fun us s1 ⟨vs,H1,I1,r,q⟩=>⟨I1.kIn,?_⟩) he hpl;exact Zil M F hr hb hd hx I1 r q
end
structure FnScope(N P:List Str)(sc:Scope):Prop where
 kind:sc.kind=.function
 co:sc.isCoroutine=false
 gen:sc.isGenerator=false
 nd:N.Nodup
 pre:N.take P.length=P
 par:∀x∈P,sc.names.lookup x=some .local\/sc.names.lookup x=some .cell
 Ze3:∀y∈sc.names,y.2 ≠ .free
theorem ZeS{kindOf:Str->Option NameKind}{x:Str}:∀{binds:List (Str×Value)}{m:Str->Option Value},(∀v,(x,v)∉binds)->bindL kindOf binds m x=m x
 | [],_,_=>rfl
 | (n,v)::r,m,h=>by
  unfold bindL;rw[ZeS fun w hw=>h w (List.mem_cons_of_mem _ hw)]
  split
  ·have:x≠n:=by rintro rfl;exact h v List.mem_cons_self
   simp[this]
  ·rfl
theorem ZeI{kindOf:Str->Option NameKind}{x:Str}:∀{binds:List (Str×Value)}{m:Str->Option Value},(∀v,(x,v)∉binds)->bindC kindOf binds m x=m x
 | [],_,_=>rfl
 | (n,v)::r,m,h=>by
  unfold bindC;rw[ZeI fun w hw=>h w (List.mem_cons_of_mem _ hw)]
  split
  ·rfl
  ·have:x≠n:=by rintro rfl;exact h v List.mem_cons_self
   simp[this]
theorem Zez{kindOf:Str->Option NameKind}{x:Str}{v:Value}:∀{P:List Str}{vs:List Value}{i:Nat}{m:Str->Option Value},P.Nodup->P[i]?= some x->vs[i]?= some v->kindOf x=some .local ->
  bindL kindOf (P.zip vs) m x=some v
 | [],_,_,_,_,h,_,_=>by simp at h
 | _::_,[],_,_,_,_,h,_=>by simp at h
 | p::P,w::vs,0,m,nd,h1,h2,hk=>by
  simp at h1 h2;subst h1;subst h2;show bindL kindOf ((p,w)::P.zip vs) m p=_;unfold bindL;rw[ZeS fun v hv=>(List.nodup_cons.mp nd).1 (List.of_mem_zip hv).1,if_pos hk];simp
 | p::P,w::vs,i+1,m,nd,h1,h2,hk=>by
  show bindL kindOf ((p,w)::P.zip vs) m x=_;unfold bindL;exact Zez (i:=i) (List.nodup_cons.mp nd).2 (by simpa using h1) (by simpa using h2) hk
theorem Ze6{kindOf:Str->Option NameKind}{x:Str}{v:Value}:∀{P:List Str}{vs:List Value}{i:Nat}{m:Str->Option Value},P.Nodup->P[i]?= some x->vs[i]?= some v->kindOf x≠some .local ->
  bindC kindOf (P.zip vs) m x=some v
 | [],_,_,_,_,h,_,_=>by simp at h
 | _::_,[],_,_,_,_,h,_=>by simp at h
 | p::P,w::vs,0,m,nd,h1,h2,hk=>by
  simp at h1 h2;subst h1;subst h2;show bindC kindOf ((p,w)::P.zip vs) m p=_;unfold bindC;rw[ZeI fun v hv=>(List.nodup_cons.mp nd).1 (List.of_mem_zip hv).1,if_neg hk];simp
 | p::P,w::vs,i+1,m,nd,h1,h2,hk=>by
  show bindC kindOf ((p,w)::P.zip vs) m x=_;unfold bindC;exact Ze6 (i:=i) (List.nodup_cons.mp nd).2 (by simpa using h1) (by simpa using h2) hk
def start(N:List Str)(vs:List V):St:=vs.map some++List.replicate (N.length-vs.length) none
def ZiG(CX:CXT)(P:Program)(w:World)(K:PySem.W.Frag)(mg:Str->Option Value)(base:Heap)(N:List Str)(qual:Str)(scope:Scope)(f:Addr)(cd:Value)(A:Around)(outer:List Env)(s:Shared)(H:Hp)(E:XK):Cx where
 prog:=P
 w:=w
 K:=K
 mg:=mg
 base:=base
 A:=A.deeper (envOfC qual scope s.heap.objs.size f cd)
 N:=N
 s₀ := s
 H₀ := H
 env:=envOfC qual scope s.heap.objs.size f cd
 outer:=outer
 stack:=envOfC qual scope s.heap.objs.size f cd::outer
 ex:=[]
 calm:=true
 fn:=fun _=>true
 pn:=[]
 xe:=fun e s'=>wpAny (model P w) (A.deeper (envOfC qual scope s.heap.objs.size f cd)) (leaving (envOfC qual scope s.heap.objs.size f cd) e) (fun _ s''=>CX outer H s E e s'') (fun e' s''=>CX outer H s E e' s'') s'
theorem ZfZ{sc:Scope}{n:Nat}{x:Str}(h:sc.names.lookup x=some .cell):∃c,(cellsFrom n sc.names []).lookup x=some c:=by
 have q:=PySem.W.cellsFrom_some sc.names n [] (.inl h);exact Option.isSome_iff_exists.mp q
theorem Zhh{CX:CXT}{P:Program}{w:World}{K:PySem.W.Frag}{mg:Str->Option Value}{base:Heap}{N ps:List Str}{qual:Str}{scope:Scope}{f:Addr}{cd:Value}{A:Around}{outer:List Env}{s s1:Shared}{H:Hp}{E:XK}{us:List Value}{vs:List V}
  (S:FnScope N ps scope) (hd:A.handled=none) (e0:Env0 P w K mg base A outer s H) (hl:vs.length=ps.length) (r:Vals vs us)
  (x:InCallC s s.heap.objs.size (bindL (envOfC qual scope s.heap.objs.size f cd).kindOf (ps.zip us) fun _=>none) (cellsFrom (s.heap.objs.size+1) scope.names []) (bindC (envOfC qual scope s.heap.objs.size f cd).kindOf (ps.zip us) fun _=>none) s1) :
  Inv (ZiG CX P w K mg base N qual scope f cd A outer s H E) [] (start N vs) H s1:=by
 have hpl:ps.length<=N.length:=by have:=congrArg List.length S.pre;rw[List.length_take] at this;lia
 obtain⟨h1,tk,rfl,hk⟩:=x.done;have noA:∀b:Addr,b∉(ZiG CX P w K mg base N qual scope f cd A outer s H E).ex:=fun b z=>absurd (show b∈([]:List Addr) from z) (by simp);refine⟨⟨e0.mod,S.kind,rfl,rfl,Nat.le_refl _,fun y z c h1 h2=>?_,fun y hy=>?_,fun y c _ h=>?_,fun _=>hd,Around.frames_deeper e0.frames,.inr ⟨rfl,rfl⟩,fun b z=>absurd z (noA b),e0.bs,e0.bsz,fun b _ _=>noA b,fun b z=>absurd z (noA b),e0.funs,e0.frf⟩,
  rfl,e0.bare,Un.kept hk,⟨_,x.toInCall.ns,fun i y v h1 h2 h3=>?_⟩,fun y c h=>⟨_,x.cell y c h⟩,e0.hok.fresh (Nat.le_refl _),fun y c h=>?_,fun p hp=>absurd (show p∈([]:List (Addr×Obj)) from hp) (by simp),e0.hok.kept hk,?_⟩
 ·exact name_of_addr x.apart (PySem.mem_of_lookup h1) (PySem.mem_of_lookup h2)
 ·have hy:scope.names.lookup y=some .cell\/scope.names.lookup y=some .free:=hy;rcases hy with hy|hy
  ·exact ZfZ hy
  ·exact absurd rfl (S.Ze3 _ (PySem.mem_of_lookup hy))
 ·exact Nat.le_of_lt (x.above y c (PySem.mem_of_lookup h))
 ·have hi:i<vs.length:=by
   unfold start at h2;by_cases hi:i<vs.length
   ·exact hi
   ·rw[List.getElem?_append_right (by simpa using hi)] at h2;rw[List.getElem?_replicate] at h2
    split at h2 <;> cases h2
  have ha:vs[i]?= some v:=by
   unfold start at h2;rw[List.getElem?_append_left (by simpa using hi),List.getElem?_map] at h2;cases e:vs[i]? with
   | none=>rw[e] at h2;cases h2
   | some a=>rw[e] at h2;cases h2;rfl
  obtain⟨u,hu,rv⟩:=r.get ha;have hp:ps[i]?= some y:=by
   rw[<- S.pre,List.getElem?_take_of_lt (by lia)];exact h1
  have ndP:ps.Nodup:=by rw[<- S.pre];exact S.nd.sublist (List.take_sublist _ _)
  refine⟨u,rv,?_⟩;rcases S.par y (List.mem_of_getElem? hp) with k|k
  ·exact .inl ⟨k,Zez ndP hp hu k⟩
  ·obtain⟨c,e⟩:=ZfZ (n:=s.heap.objs.size+1) k;refine .inr ⟨.inl k,c,e,?_⟩;have q:=x.cell y c e;rw[Ze6 ndP hp hu (by show scope.names.lookup y≠_;rw[k];decide)] at q;exact q
 ·exact e0.hok.fresh (Nat.le_of_lt (x.above y c (PySem.mem_of_lookup h)))
 ·unfold start;show _=N.length;rw[List.length_append,List.length_map,List.length_replicate];lia
theorem Zlg{CX:CXT}{P:Program}{w:World}{K:PySem.W.Frag}{mg:Str->Option Value}{base:Heap}{k:Nat}{f:Addr}{name qual:Str}{params:Arguments}{body:List Stmt}{scope:Scope}{dV kV doc pm cdv ct oc:Value}{an od:Option Addr}
  {osl:Array (Option Value)} {N ps:List Str} {sp:Sp} (lk:K.lookup f=some ⟨oc,od,.func (PySem.W.fnOf name qual params body scope dV kV doc pm an cdv ct),osl⟩) (hcd:PySem.W.codeIn K cdv qual=true) (S:FnScope N ps scope)
  (len:∀vs H Q E,sp vs H Q E->vs.length=ps.length)
  (hbody:∀(A:Around)(outer:List Env)(s:Shared)(H:Hp)(vs:List V)(Q:VK)(E:XK),Room k (A.deeper (envOfC qual scope s.heap.objs.size f cdv))->sp vs H Q E ->
   ∃t,PSs (ZiG CX P w K mg base N qual scope f cdv A outer s H E) body t/\t { nx:=fun _ H'=>Q .non H',rt:=Q } (start N vs) H) :
  FnOk P w K mg base CX (k+1) f (PySem.W.fnOf name qual params body scope dV kV doc pm an cdv ct) ps sp:=by
 refine⟨len,fun A outer s H args us vs Q E hr e0 hb r hsp=>?_⟩;have hl:=len _ _ _ _ hsp;have KX:K.In s.heap:=e0.mod.kin.keeps fun b o e=>(e0.bs b o e).1;have lim:s.heap.NoLimit:=e0.mod.nolimit.keeps fun b o e=>(e0.bs b o e).1;have hkind:∀y∈ps.zip us,scope.names.lookup y.1=some .local\/(scope.names.lookup y.1=some .cell/\((cellsFrom (s.heap.objs.size+1) scope.names []).lookup y.1).isSome=true):=fun⟨n,v⟩ hy=>by
  rcases S.par n (List.of_mem_zip hy).1 with q|q
  ·exact .inl q
  ·exact .inr ⟨q,PySem.W.cellsFrom_some _ _ _ (.inl q)⟩
 refine codeAny_call_function hr.depth (KX _ _ lk) rfl S.co S.gen rfl (PySem.W.codeRec_of KX hcd) (hb _ _ _ _ ?_);refine wpAny_newFunctionEnv_cells S.kind hkind fun env he s1 x=>?_;subst he;refine⟨lim.keeps x.toInCall.keep,codeAny_func ?_⟩;obtain⟨t,ht,hq⟩:=hbody A outer s H vs Q E (hr.deeper _) hsp;have I:Inv (ZiG CX P w K mg base N qual scope f cdv A outer s H E) [] (start N vs) H s1:=Zhh S hr.hd e0 hl r x;refine wpAny_mono (ht [] s1 (start N vs) H _ I hq) (fun fl s' hs=>?_) fun e s' hs=>hs;have fin:∀{σ':St}{H':Hp}{v:V}{u:Value},Inv (ZiG CX P w K mg base N qual scope f cdv A outer s H E) [] σ' H' s'->RelV v u->Q v H'->CE outer P w H s Q u s' :=
  fun{σ' H' v u} J rv q=>⟨v,H',J.os,J.bare,J.base,J.hok,rv,q⟩
 cases fl with
 | ret u =>
  obtain⟨v,σ',H',J,rv,q⟩:=hs;exact fin J rv q
 | next =>
  obtain⟨σ',H',J,q⟩:=hs;exact fin (v:=V.non) (u:=Value.none) J rfl q
 | brk =>
  obtain⟨_,_,_,q⟩:=hs;exact False.elim q
 | cont =>
  obtain⟨_,_,_,q⟩:=hs;exact False.elim q
section
variable{X:Cx}{x:Str}{p pos:Pos}{e:Expr}{es:List Expr}{t:TA}{id T:String}{r:List V->Hp->VK->Prop}
def tCB(r:List V->Hp->VK->Prop)(t:TA):TE:=fun σ H Q=>t σ H fun vs H1=>r vs H1 Q
theorem Zz(hc:Zbk X (.builtin id) r)(hg:Gl X x)(hm:X.mg x=none)(hv:bootBuiltins x=some (.builtin id))(ha:PA X (e::es) t)(hn:x ≠ "__name__" := by decide) (hdb:(x == ("__debug__" : Str))=false:=by decide)
  (he:starEach (e::es) X.env=(false,eval e X.env)::starEach es X.env:=by rfl) (hpl:(backTo pos (starEach es X.env)).any (·.1)=false:=by rfl):PE X (.Call (.Name x p) (e::es) [] pos) (tCB r t):=by
 intro pins s σ H Q I h;refine wpAny_Call_Name_kw (Zf3 I hg hm hv ?_ hn hdb);exact PyProof.Rows.callWith_builtin1 (thn (ha pos pins s σ H _ I h) fun us s1 ⟨vs,H1,I1,r1,q1⟩=>hc pins s1 σ H1 vs us Q I1 r1 q1) he hpl
theorem ZaF(hc:Zbk X (.type T) r)(hg:Gl X x)(hm:X.mg x=none)(hv:bootBuiltins x=some (.type T))(ha:PA X (e::es) t)(hn:x ≠ "__name__" := by decide) (hdb:(x == ("__debug__" : Str))=false:=by decide)
  (he:starEach (e::es) X.env=(false,eval e X.env)::starEach es X.env:=by rfl) (hpl:(backTo pos (starEach es X.env)).any (·.1)=false:=by rfl):PE X (.Call (.Name x p) (e::es) [] pos) (tCB r t):=by
 intro pins s σ H Q I h;refine wpAny_Call_Name_kw (Zf3 I hg hm hv ?_ hn hdb);exact PyProof.Rows.callWith_type1 (thn (ha pos pins s σ H _ I h) fun us s1 ⟨vs,H1,I1,r1,q1⟩=>hc pins s1 σ H1 vs us Q I1 r1 q1) he hpl
end
end L2
namespace HT
open PySem PyProof.Rows
section
variable{prog:Program}{w:World}{A:Around}{E:Value->Shared->Prop}{s:Shared}
theorem ZjI{t b:Addr}{vs ws:List Value}{Q:Value->Shared->Prop}(ht:IsTup s.heap t vs.toArray)(hb:IsTup s.heap b ws.toArray)(hv:vs ≠ [])
  (h1:ws=[]->Q (.ref t) s) (h2:ws ≠ []->Q (.ref s.heap.objs.size) { s with heap:=s.heap.push { cls:=.type "tuple",data:=.seq (vs++ws).toArray } })
  (hsz:vs.length+ws.length<=sizeLine):wpAny (model prog w) A (binaryOp .Add (.ref t) (.ref b)) Q E s:=by
 obtain⟨⟨cls,dd,data,sl⟩,ho,hc,n,hd⟩:=id ht;obtain⟨⟨cls2,dd2,data2,sl2⟩,ho2,hc2,n2,hd2⟩:=id hb;simp only at hc hd hc2 hd2;subst hc hd hc2 hd2;have e:vs.toArray++ws.toArray=(vs++ws).toArray:=by simp
 by_cases hw:ws=[]
 ·exact concat_meets ⟨_,ho,rfl⟩ ⟨_,ho2,rfl⟩ noFill_tuple_add seq_tuple_add PySem.F.slot_tuple_add PySem.F.entry_tuple_add (PySem.F.args_tuple_add_2 _ _)
   (tuple_addW1 t b vs.toArray ws.toArray n n2 dd dd2 sl sl2 (by simpa using hv) (by simp[hw])) ⟨ho,ho2,h1 hw⟩
 ·refine concat_meets ⟨_,ho,rfl⟩ ⟨_,ho2,rfl⟩ noFill_tuple_add seq_tuple_add PySem.F.slot_tuple_add PySem.F.entry_tuple_add (PySem.F.args_tuple_add_2 _ _)
   (tuple_addW2 t b vs.toArray ws.toArray n n2 dd dd2 sl sl2 (by simpa using hv) (by simpa using hw) (by rw[List.size_toArray,List.size_toArray];exact hsz)) ⟨ho,ho2,?_⟩
  rw[e];exact h2 hw
def sIx(n d:Nat):Option Int->Nat
 | none=>d
 | some v=>if v<0 then(v+(n:Int)).toNat else min v.toNat n
theorem ZfM(n d:Nat):sIx n d none=d:=rfl
theorem Zhv(n d k:Nat):sIx n d (some (k:Int))=min k n:=by
 show(if(k:Int)<0 then((k:Int)+(n:Int)).toNat else min (k:Int).toNat n)=min k n
 rw[if_neg (by lia),Int.toNat_natCast]
theorem Zk9(n d:Nat)(hd:d<=n)(o:Option Int):sIx n d o<=n:=by
 cases o with
 | none=>exact hd
 | some v =>
  show(if v<0 then(v+(n:Int)).toNat else min v.toNat n)<=n
  by_cases hv:v<0
  ·rw[if_pos hv];lia
  ·rw[if_neg hv];exact Nat.min_le_right _ _
theorem Zie(v:Int)(n d:Nat):(if v<0 then max (v+(n:Int)) 0 else min v (n:Int))=((sIx n d (some v):Nat):Int):=by
 show(if v<0 then max (v+(n:Int)) 0 else min v (n:Int))=(((if v<0 then(v+(n:Int)).toNat else min v.toNat n):Nat):Int)
 by_cases hv:v<0
 ·simp only[if_pos hv];lia
 ·simp only[if_neg hv];lia
theorem ZgS(lo hi:Option Int)(n:Nat):Builtin.Slice.sliceAdjust lo hi 1 (n:Int)=(((sIx n 0 lo:Nat):Int),((sIx n n hi:Nat):Int)):=by
 have h1 : ¬ ((1:Int)<0):=by lia
 unfold Builtin.Slice.sliceAdjust;simp only[h1,if_false];refine Prod.ext ?_ ?_
 ·cases lo with
  | none=>rfl
  | some v=>exact Zie v n 0
 ·cases hi with
  | none=>rfl
  | some v=>exact Zie v n n
theorem ZgU(i j:Nat):Builtin.Slice.slicePlaces (i:Int) (j:Int) 1=j-i:=by
 unfold Builtin.Slice.slicePlaces;have h1:(1:Int) > 0:=by lia
 simp only[h1,if_true,Int.ediv_one]
 split <;> lia
theorem Zbl{v:Value}{o:Option Int}{Q:Option Int->Shared->Prop}(p:IsPart v o)(h:Q o s):wpAny (model prog w) A (Builtin.Slice.slicePartIndex v) Q E s:=by
 cases p with
 | none=>exact slicePart_none h
 | int i t=>exact slicePart_int h
theorem Zbx{sl:Addr}{vl vu:Value}{lo hi:Option Int}{n:Nat}{Q:Int×Int×Nat->Shared->Prop}(hs:s.heap.IsSliceOf sl vl vu .none)(pl:IsPart vl lo)(pu:IsPart vu hi)
  (h:Q (((sIx n 0 lo:Nat):Int),1,sIx n n hi-sIx n 0 lo) s):wpAny (model prog w) A (Builtin.Slice.sliceApplied (.ref sl) (pure (n:Int))) Q E s:=by
 obtain⟨os,hos,hcs,hds⟩:=id hs;unfold Builtin.Slice.sliceApplied Builtin.Slice.sliceFields;refine wpAny_bind (wpAny_bind (wpAny_field hos hds (x:=vl) rfl (wpAny_bind (wpAny_field hos hds (x:=vu) rfl (wpAny_bind (wpAny_field hos hds (x:=.none) rfl (wpAny_pure ?_)))))));refine wpAny_bind (slicePart_none ?_);show wpAny _ _ (if((1:Int) == 0)=true then _ else _) _ _ s
 rw[if_neg (by decide)];refine wpAny_bind (Zbl pl (wpAny_bind (Zbl pu (wpAny_bind (wpAny_pure ?_)))));show wpAny _ _ (match Builtin.Slice.sliceAdjust lo hi 1 (n:Int) with|(lo,hi)=>pure (lo,(1:Int),Builtin.Slice.slicePlaces lo hi 1)) _ _ s
 rw[ZgS lo hi n];show wpAny _ _ (pure (((sIx n 0 lo:Nat):Int),(1:Int),Builtin.Slice.slicePlaces ((sIx n 0 lo:Nat):Int) ((sIx n n hi:Nat):Int) 1)) _ _ s;rw[ZgU];exact wpAny_pure h
theorem ZiM(xs:Array Value)(i k:Nat):((List.range k).filterMap fun(m:Nat)=>xs[((i:Int)+(m:Int)*1).toNat]?).toArray=((xs.toList.drop i).take k).toArray:=by
 have e:(fun(m:Nat)=>xs[((i:Int)+(m:Int)*1).toNat]?)=fun m=>xs[i+m]? := by
  funext m
  have:((i:Int)+(m:Int)*1).toNat=i+m:=by lia
  rw[this]
 rw[e];have:=pick_run xs i k;rw[List.filterMap_map] at this;have e2:((fun x=>xs[x]?) ∘ fun x=>i+x)=fun m=>xs[i+m]? := rfl;rw[e2] at this;rw[this]
theorem ZcH{t sl:Addr}{items:Array Value}{vl vu:Value}{lo hi:Option Int}{Q:Value->Shared->Prop}(ht:IsTup s.heap t items)(hs:s.heap.IsSliceOf sl vl vu .none)(pl:IsPart vl lo)(pu:IsPart vu hi)
  (hw : ¬ (sIx items.size 0 lo=0/\sIx items.size items.size hi=items.size))
  (h:Q (.ref s.heap.objs.size) { s with heap:=s.heap.push { cls:=.type "tuple",data:=.seq ((items.toList.drop (sIx items.size 0 lo)).take (sIx items.size items.size hi-sIx items.size 0 lo)).toArray } })
  (hsz:items.size<=sizeLine):wpAny (model prog w) A (getItem (.ref t) (.ref sl)) Q E s:=by
 have htake:sizeOk (.seq ((items.toList.drop (sIx items.size 0 lo)).take (sIx items.size items.size hi-sIx items.size 0 lo)).toArray):=by
  show((items.toList.drop (sIx items.size 0 lo)).take (sIx items.size items.size hi-sIx items.size 0 lo)).toArray.size<=sizeLine;rw[List.size_toArray,List.length_take,List.length_drop,Array.length_toList];lia
 have hj:sIx items.size items.size hi<=items.size:=Zk9 _ _ (Nat.le_refl _) hi;obtain⟨os,hos,hcs,hds⟩:=id hs;have hTs:s.TypeIs (.ref sl) "slice" := ⟨os,hos,hcs⟩;unfold getItem
 try with_reducible refine wpAny_holding ?_
 first|refine wpAny_bind (wpAny_pure ?_)|skip
 refine wpAny_bind (wpAny_sequenceKey ht.typeIs (by decide) ?_);refine wpAny_bind (wpAny_callSpecial?_slot (name:=Str.ofString "__getitem__") ht.typeIs PyProof.Rows.slot_tuple_getitem
  (wpAny_call_entry PyProof.Rows.slot_tuple_getitem ht.typeIs entry_tuple_getitem ?_ (args_tuple_getitem _ _)))
 show wpAny _ _ (Builtin.Tuple.tupleItemsOf (.ref t) >>= _) _ _ s;refine wpAny_bind (tupleItemsOf_ ht ?_);refine wpAny_bind (wpAny_typeOf hTs ?_);rw[if_pos (by decide)];refine wpAny_bind (Zbx hs pl pu ?_);have hno : ¬ ((((sIx items.size 0 lo:Nat):Int) == 0&&(1:Int) == 1&&(sIx items.size items.size hi-sIx items.size 0 lo) == items.size)=true):=by
  intro q;rw[Bool.and_eq_true,Bool.and_eq_true] at q;have q1:((sIx items.size 0 lo:Nat):Int)=0:=eq_of_beq q.1.1;have q2:sIx items.size items.size hi-sIx items.size 0 lo=items.size:=eq_of_beq q.2;exact hw ⟨by lia,by lia⟩
 show wpAny _ _ (if(((sIx items.size 0 lo:Nat):Int) == 0&&(1:Int) == 1&&(sIx items.size items.size hi-sIx items.size 0 lo) == items.size)=true then _ else _) _ _ s
 rw[if_neg hno,ZiM]
 first
  | exact wpAny_bind (m:=Builtin.Tuple.tupleExact _) (wpAny_newObj_type (wpAny_pure ⟨_,rfl,wpAny_pure h⟩) htake)
  | exact wpAny_bind (m:=Builtin.Tuple.tupleExact _) (wpAny_newObj_type (wpAny_bind (wpAny_pure (wpAny_pure ⟨_,rfl,wpAny_pure h⟩))) htake)
  | exact wpAny_bind (wpAny_bind (m:=Builtin.Tuple.tupleExact _) (wpAny_newObj_type (wpAny_pure (wpAny_pure ⟨_,rfl,wpAny_pure h⟩)) htake))
  | exact wpAny_bind (wpAny_bind (m:=Builtin.Tuple.tupleExact _) (wpAny_newObj_type (wpAny_pure ⟨_,rfl,wpAny_pure h⟩) htake))
end
end HT
namespace L2
open PySem PySem.Spec PyProof.Rows
abbrev TO:=St->Hp->(Option Int->Hp->Prop)->Prop
def PO(X:Cx)(e:Option Expr)(t:TO):Prop :=
 ∀(pins:List (Addr×Obj))(s:Shared)(σ : St)(H:Hp)(Q:Option Int->Hp->Prop),Inv X pins σ H s->t σ H Q ->
  wpAny (model X.prog X.w) X.A (evalPart e X.env) (fun u s'=>∃o H',Inv X pins σ H' s'/\IsPart u o/\Q o H') X.xe s
def ZjF:TO:=fun _ H Q=>Q none H
def ZlW(t:TE):TO:=fun σ H Q=>t σ H fun x H1=>∃i,x=.int i/\Q (some i) H1
section
variable{X:Cx}{e:Expr}{te:TE}{lo hi:Option Expr}{tl th:TO}{pos p2:Pos}
theorem Zbv:PO X none ZjF:=by
 intro pins s σ H Q I h;rw[evalPart_none];exact wpAny_pure ⟨none,H,I,.none,h⟩
theorem ZbC(h:PE X e te):PO X (some e) (ZlW te):=by
 intro pins s σ H Q I hw;rw[evalPart_some];refine thn (h pins s σ H _ I hw) fun u s1 ⟨x,H1,I1,r1,q1⟩=>?_;obtain⟨i,rfl,q⟩:=q1;obtain⟨t,rfl⟩:=r1;exact⟨some i,H1,I1,.int i t,q⟩
def SlR(X:Cx)(r:V->Option Int->Option Int->Hp->VK->Prop):Prop :=
 ∀(pins:List (Addr×Obj))(s:Shared)(σ : St)(H:Hp)(x:V)(v vl vu:Value)(lo hi:Option Int)(sl:Addr)(Q:VK),Inv X pins σ H s->RelV x v->s.heap.IsSliceOf sl vl vu .none->IsPart vl lo->IsPart vu hi->r x lo hi H Q ->
  ∃T id,typeLookup (.type T) "__getitem__" = pure (some (.builtin id))/\s.TypeIs v T/\wpAny (model X.prog X.w) X.A (getItem v (.ref sl)) (EP X pins σ Q) X.xe s
def tSl(r:V->Option Int->Option Int->Hp->VK->Prop)(te:TE)(tl th:TO):TE:=fun σ H Q=>te σ H fun x H1=>tl σ H1 fun l H2=>th σ H2 fun u H3=>r x l u H3 Q
theorem Zbt{r:V->Option Int->Option Int->Hp->VK->Prop}(hr:SlR X r)(he:PE X e te)(hl:PO X lo tl)(hu:PO X hi th):PE X (.Subscript e (.Slice lo hi none p2) pos) (tSl r te tl th):=by
 intro pins s σ H Q I h;refine Subscript_ (thn (he pins s σ H _ I h) fun v s1 ⟨x,H1,I1,r1,q1⟩=>?_);refine wpAny_Slice (thn (hl pins s1 σ H1 _ I1 q1) fun vl s2 ⟨l,H2,I2,pl,q2⟩=>thn (hu pins s2 σ H2 _ I2 q2) fun vu s3 ⟨u,H3,I3,pu,q3⟩=>?_);rw[evalPart_none];refine wpAny_pure ?_;have I4:Inv X pins σ H3 { s3 with heap:=s3.heap.push { cls:=.type "slice",data:=.fields #[vl,vu,.none] } }:=I3.kept (t':=s3.toks) fun b ob q=>Heap.get?_push_of_some _ q;obtain⟨T,id,hT,ht,hg⟩:=hr pins { s3 with heap:=s3.heap.push { cls:=.type "slice",data:=.fields #[vl,vu,.none] } } σ H3 x v vl vu l u s3.heap.objs.size Q I4 r1 (Heap.IsSliceOf.new ..) pl pu q3;show wpAny (model X.prog X.w) X.A (subscriptTail e (.Slice lo hi none p2) v (.ref s3.heap.objs.size)) (EP X pins σ Q) X.xe { s3 with heap:=s3.heap.push { cls:=.type "slice",data:=.fields #[vl,vu,.none] } };exact tail_any (ops:=[.ref s3.heap.objs.size,v]) ht hT hg (by with_unfolding_all rfl)
def Zd9(xs:List V)(lo hi:Option Int):List V:=(xs.drop (HT.sIx xs.length 0 lo)).take (HT.sIx xs.length xs.length hi-HT.sIx xs.length 0 lo)
theorem Zdk(xs:List V)(lo hi:Option Int):(Zd9 xs lo hi).length<=xs.length:=by
 unfold Zd9;rw[List.length_take,List.length_drop];lia
def ZmN(K:PySem.W.Frag):V->Option Int->Option Int->Hp->VK->Prop:=fun x lo hi H Q=>∃a xs,x=.ref a/\SqT K H a xs /\
 ¬ (HT.sIx xs.length 0 lo=0/\HT.sIx xs.length xs.length hi=xs.length)/\∀p,H p=none->Q (.ref p) (upd H p (.tup (Zd9 xs lo hi)))
theorem Zln:SlR X (ZmN X.K):=by
 intro pins s σ H x v vl vu lo hi sl Q I rx hs pl pu h;obtain⟨a,xs,rfl,hx,hw,q⟩:=h;cases rx;obtain⟨its,r,ht,hz⟩:=I.tuple hx;have hlen:its.toArray.size=xs.length:=by rw[List.size_toArray];exact r.length.symm
 refine⟨"tuple",_,PyProof.Rows.slot_tuple_getitem.lookup,ht.typeIs,?_⟩;refine HT.ZcH ht hs pl pu (by rw[hlen];exact hw) ?_ (by rw[hlen];exact hz);rw[hlen];refine⟨.ref s.heap.objs.size,_,I.laid (t':=s.toks) (o:=.tup (Zd9 xs lo hi)) (fun b ob q=>Heap.get?_push_of_some _ q) (Nat.le_refl _) ?_,rfl,q _ (I.hok.fresh (Nat.le_refl _))⟩;exact⟨Nat.le_trans (Zdk xs lo hi) hz,_,(r.drop (HT.sIx xs.length 0 lo)).take (HT.sIx xs.length xs.length hi-HT.sIx xs.length 0 lo),IsTup.new _ _⟩
def ZlI(K:PySem.W.Frag):R2:=fun x y H Q=>∃a b xs ys,x=.ref a/\y=.ref b/\SqT K H a xs/\SqT K H b ys/\xs ≠ []/\xs.length+ys.length<=sizeLine /\
 (ys=[]->Q (.ref a) H)/\(ys ≠ []->∀p,H p=none->Q (.ref p) (upd H p (.tup (xs++ys))))
theorem Vals.nil_iff{xs:List V}{us:List Value}(r:Vals xs us):us=[]↔xs=[]:=by
 cases r with
 | nil=>simp
 | cons _ _=>simp
theorem Zkd:OpR X (binaryOp .Add) (ZlI X.K):=by
 intro pins s σ H x y v u Q I rx ry h;obtain⟨a,b,xs,ys,rfl,rfl,ha,hb,hx,hz,q1,q2⟩:=h;cases rx;cases ry;obtain⟨its,r1,p1,_⟩:=I.tuple ha;obtain⟨its2,r2,p2,_⟩:=I.tuple hb;refine HT.ZjI p1 p2 (fun z=>hx (r1.nil_iff.mp z)) (fun z=>⟨.ref a,H,I,rfl,q1 (r2.nil_iff.mp z)⟩) (fun z=>?_) (by rw[<- r1.length,<- r2.length];exact hz);refine⟨.ref s.heap.objs.size,_,I.laid (t':=s.toks) (o:=.tup (xs++ys)) (fun b ob q=>Heap.get?_push_of_some _ q) (Nat.le_refl _) ?_,rfl,q2 (fun w=>z (r2.nil_iff.mpr w)) _ (I.hok.fresh (Nat.le_refl _))⟩;exact⟨by rw[List.length_append];exact hz,_,r1.append r2,IsTup.new _ _⟩
end
def ixN(n:Nat)(i:Int):Option Nat:=if 0<=i then(if i<n then some i.toNat else none) else if -(n:Int)<=i then some (i+n).toNat else none
def atI{α : Type}(xs:List α)(i:Int):Option α := (ixN xs.length i).bind fun j=>xs[j]?
theorem Zh8{n:Nat}{i:Int}{j:Nat}(h:ixN n i=some j):seqIndex? i n=some j/\j<n /\ -(n:Int)<=i/\i<n:=by
 unfold ixN at h;by_cases h0:0<=i
 ·rw[if_pos h0] at h;by_cases h1:i<n
  ·rw[if_pos h1] at h;have e:i.toNat=j:=Option.some.inj h;exact⟨by rw[seqIndex_of h0 h1,e],by lia,by lia,h1⟩
  ·rw[if_neg h1] at h;cases h
 ·rw[if_neg h0] at h;by_cases h1 : -(n:Int)<=i
  ·rw[if_pos h1] at h;have e:(i+n).toNat=j:=Option.some.inj h;exact⟨by rw[seqIndex_neg (by lia) h1,e],by lia,h1,by lia⟩
  ·rw[if_neg h1] at h;cases h
theorem Zfr{α : Type}{xs:List α}{i:Int}{v : α}(h:atI xs i=some v):∃j,seqIndex? i xs.length=some j/\xs[j]?= some v/\j<xs.length /\ -(xs.length:Int)<=i/\i<xs.length:=by
 unfold atI at h;cases e:ixN xs.length i with
 | none=>rw[e] at h;cases h
 | some j =>
  rw[e] at h;obtain⟨h1,h2,h3,h4⟩:=Zh8 e;exact⟨j,h1,h,h2,h3,h4⟩
theorem Zad{α : Type}{xs:List α}{j:Nat}{v : α}(h:xs[j]?= some v):atI xs (j:Int)=some v:=by
 have hj:j<xs.length:=(List.getElem?_eq_some_iff.mp h).1;have e:ixN xs.length (j:Int)=some j:=by
  unfold ixN;rw[if_pos (by lia),if_pos (by lia)];simp
 unfold atI;rw[e];exact h
theorem Ziu{α : Type}(xs:List α)(v : α):atI (xs ++ [v]) (-1)=some v:=by
 have hl:(xs ++ [v]).length=xs.length+1:=by simp
 have e:ixN (xs ++ [v]).length (-1)=some xs.length:=by
  unfold ixN;rw[hl,if_neg (by decide),if_pos (by lia)]
  congr 1
  lia
 unfold atI;rw[e];show(xs ++ [v])[xs.length]?= some v;simp
def ZjT(b:Expr):Prop := ∀o i,subscripted b false o i=operate [o,i] (getItem o i)
def IxR(X:Cx)(r:R2):Prop :=
 ∀(value slice:Expr)(pins:List (Addr×Obj))(s:Shared)(σ : St)(H:Hp)(x y:V)(v u:Value)(Q:VK),Inv X pins σ H s->RelV x v->RelV y u->r x y H Q ->
  subscripted slice false v u=operate [v,u] (getItem v u)->wpAny (model X.prog X.w) X.A (subscriptTail value slice v u) (EP X pins σ Q) X.xe s
def MtR(X:Cx)(id:String)(r:V->List V->Hp->VK->Prop):Prop :=
 ∀(pins:List (Addr×Obj))(s:Shared)(σ : St)(H:Hp)(x:V)(xs:List V)(v:Value)(us:List Value)(Q:VK),Inv X pins σ H s->RelV x v->Vals xs us->r x xs H Q ->
  wpAny (model X.prog X.w) X.A (call (.builtin id) (v::us)) (EP X pins σ Q) X.xe s
section
variable{X:Cx}{a b:Expr}{ta tb:TE}{pos:Pos}
theorem Zr{r:R2}(hr:IxR X r)(ha:PE X a ta)(hb:PE X b tb)(hs:ZjT b):PE X (.Subscript a b pos) (tOp r ta tb):=by
 intro pins s σ H Q I h;exact Subscript_ (ZlH ha hb I h fun v u s2 x y H2 I2 rx ry q=>hr a b pins s2 σ H2 x y v u Q I2 rx ry q (hs _ _))
def ZlO(K:PySem.W.Frag):R2:=fun x y H Q=>∃p xs i v,x=.ref p/\y=.int i/\SqL K H p xs/\atI xs i=some v/\Q v H
def ZlZ(K:PySem.W.Frag):R2:=fun x y H Q=>∃p xs i v,x=.ref p/\y=.int i/\SqT K H p xs/\atI xs i=some v/\Q v H
def Zmz:R2:=fun x y H Q=>∃z i c,x=.str z/\y=.int i/\z.length<=sizeLine/\atI z.cps.toList i=some c/\Q (.str ⟨#[c]⟩) H
theorem ZW:IxR X (ZlO X.K):=by
 intro value slice pins s σ H x y v u Q I rx ry h hs;obtain⟨p,xs,i,z,rfl,rfl,hq,he,q⟩:=h;cases rx;obtain⟨t,rfl⟩:=ry;obtain⟨its,r,pl,hz⟩:=I.list hq;obtain⟨j,h1,h2,h3,h4,h5⟩:=Zfr he;obtain⟨w,ew,rw'⟩:=r.get h2;have hl:=r.length;have hn:=ZdC;have fin:EP X pins σ Q w s:=⟨z,H,I,rw',q⟩;by_cases h0:0<=i
 ·have hj:i.toNat=j:=by
   rw[seqIndex_of h0 h5] at h1;exact Option.some.inj h1
  exact item_listR pl.isList h0 (by lia) (by rw[hj];simpa using ew) fin hs
 ·have hj:(i+(its.toArray.size:Int)).toNat=j:=by
   rw[seqIndex_neg (by lia) h4] at h1;rw[List.size_toArray,<- hl];exact Option.some.inj h1
  exact subscriptTail_builtinR (x:=w) pl.isList.typeIs slot_list_getitem.lookup
   (wpAny_getItem_list_neg (Q:=fun r s'=>r=w/\EP X pins σ Q r s') pl.isList (by lia) (by rw[List.size_toArray] <;> lia) (by lia) (by rw[hj];simpa using ew) ⟨rfl,fin⟩) hs
theorem Zv:IxR X (ZlZ X.K):=by
 intro value slice pins s σ H x y v u Q I rx ry h hs;obtain⟨p,xs,i,z,rfl,rfl,hq,he,q⟩:=h;cases rx;obtain⟨t,rfl⟩:=ry;obtain⟨its,r,pl,hz⟩:=I.tuple hq;obtain⟨j,h1,h2,h3,h4,h5⟩:=Zfr he;obtain⟨w,ew,rw'⟩:=r.get h2;have hl:=r.length;have hn:=ZdC;have fin:EP X pins σ Q w s:=⟨z,H,I,rw',q⟩;exact subscriptTail_builtinR (x:=w) pl.typeIs slot_tuple_getitem.lookup
  (getItem_tuple (j:=j) (Q:=fun r s'=>r=w/\EP X pins σ Q r s') pl (by lia) (by lia) (by rw[List.size_toArray,<- hl];exact h1) (by simpa using ew) ⟨rfl,fin⟩) hs
theorem Ze7:IxR X Zmz:=by
 intro value slice pins s σ H x y v u Q I rx ry h hs;obtain⟨z,i,c,rfl,rfl,hz,he,q⟩:=h;obtain⟨t,rfl⟩:=rx;obtain⟨t',rfl⟩:=ry;obtain⟨j,h1,h2,h3,h4,h5⟩:=Zfr he;have hl:z.cps.toList.length=z.length:=by simp[Str.length]
 rw[hl] at h1 h4 h5;have hn:=ZdC;exact tail_any (typeIs_str s z t) slot_str_getitem.lookup (getItem_str (c:=c) (by
  have e1:decide (i < -(2 ^ 63:Int))=false:=decide_eq_false (by lia);have e2:decide (i>=2 ^ 63)=false:=decide_eq_false (by lia);rw[e1,e2,Bool.or_false]) (by rw[h1];simpa using h2) ⟨.str ⟨#[c]⟩,H,I.tok _,⟨_,rfl⟩,q⟩) hs
theorem ZgC(its:List Value)(n j:Nat)(u:Value):Obj.mapSeq (·.setIfInBounds j u) { cls:=.type "list",data:=.seq its.toArray n }= { cls:=.type "list",data:=.seq (its.set j u).toArray n }:=by
 simp[Obj.mapSeq]
theorem Inv.lst{pins:List (Addr×Obj)}{σ : St}{H:Hp}{s:Shared}{p:Addr}{xs:List V}(I:Inv X pins σ H s)(h:H p=some (.lst xs)) :
  ∃(its:List Value)(n:Nat),Vals xs its/\s.heap.get? p=some { cls:=.type "list",data:=.seq its.toArray n }/\xs.length<=sizeLine:=by
 obtain⟨z,its,n,r,e⟩:=I.hok p _ h;exact⟨its,n,r,e,z⟩
theorem Inv.lstUpd{pins:List (Addr×Obj)}{σ : St}{H:Hp}{s:Shared}{p:Addr}{xs ys:List V}{its its':List Value}{n n':Nat}{f:Obj->Obj}(I:Inv X pins σ H s)(h:H p=some (.lst xs))
  (ho:s.heap.get? p=some { cls:=.type "list",data:=.seq its.toArray n }) (hf:f { cls:=.type "list",data:=.seq its.toArray n }= { cls:=.type "list",data:=.seq its'.toArray n' }) (r:Vals ys its') (hz:ys.length<=sizeLine) (t:Nat) :
  Inv X pins σ (upd H p (.lst ys)) { s with heap:=s.heap.update p f,toks:=t }:=by
 have e:(s.heap.update p f).get? p=some { cls:=.type "list",data:=.seq its'.toArray n' }:=by
  rw[Heap.get?_update_self f ho (by rw[hf] <;> rfl),hf]
 refine I.write (x:=p) (e:=p) (by rw[h];trivial) (.inl rfl) (fun b u hb q=>(Heap.get?_update_other _ _ (Ne.symm hb)).trans q) ⟨_,e⟩ ?_;exact⟨hz,its',n',r,e⟩
def Zma:V->V->V->Hp->(Hp->Prop)->Prop:=fun o i v H Q=>∃p xs k j,o=.ref p/\i=.int k/\H p=some (.lst xs)/\ixN xs.length k=some j/\Q (upd H p (.lst (xs.set j v)))
theorem set_list:Zmg X Zma:=by
 intro pins s σ H o i v ov iv u Q I ro ri rv h;obtain⟨p,xs,k,j,rfl,rfl,hp,hj,q⟩:=h;cases ro;obtain⟨t,rfl⟩:=ri;obtain⟨its,n,r,ho,hz⟩:=I.lst hp;obtain⟨h1,h2,h3,h4⟩:=Zh8 hj;have hl:=r.length;have hn:=ZdC;have I':Inv X pins σ (upd H p (.lst (xs.set j v))) { s with heap:=s.heap.update p (Obj.mapSeq (·.setIfInBounds j u)) } :=
  I.lstUpd hp ho (ZgC its n j u) (r.set rv j) (by rw[List.length_set];exact hz) s.toks
 by_cases h0:0<=k
 ·have hk:k.toNat=j:=by
   rw[seqIndex_of h0 h4] at h1;exact Option.some.inj h1
  exact PySem.W.ki_setAt ho h0 (by lia) (by rw[List.size_toArray,<- hl];exact h4) (by rw[hk];exact⟨_,I',q⟩)
 ·have hk:(k+(its.toArray.size:Int)).toNat=j:=by
   rw[seqIndex_neg (by lia) h3] at h1;rw[List.size_toArray,<- hl];exact Option.some.inj h1
  exact PySem.W.ki_setBack ho (by lia) (by rw[List.size_toArray,<- hl];exact h3) (by lia) (by rw[hk];exact⟨_,I',q⟩)
theorem ZeV(lo hi:Option Int)(n:Nat):(sliceBounds lo hi none n).1=((HT.sIx n 0 lo:Nat):Int)/\(sliceBounds lo hi none n).2.1=((HT.sIx n n hi:Nat):Int)/\(sliceBounds lo hi none n).2.2=1:=by
 refine⟨?_,?_,rfl⟩
 ·cases lo with
  | none=>simp[sliceBounds,HT.sIx]
  | some i =>
   simp only[sliceBounds,HT.sIx,Option.getD_none,show(1:Int) > 0 by decide,if_true];by_cases h:i<0
   ·simp only[h,if_true] <;> lia
   ·simp only[h,if_false] <;> lia
 ·cases hi with
  | none=>simp[sliceBounds,HT.sIx]
  | some i =>
   simp only[sliceBounds,HT.sIx,Option.getD_none,show(1:Int) > 0 by decide,if_true];by_cases h:i<0
   ·simp only[h,if_true] <;> lia
   ·simp only[h,if_false] <;> lia
theorem Zd5(its:List Value)(lo hi:Option Int):slicePick its.toArray lo hi none=((its.drop (HT.sIx its.length 0 lo)).take (HT.sIx its.length its.length hi-HT.sIx its.length 0 lo)).toArray:=by
 obtain⟨h1,h2,h3⟩:=ZeV lo hi its.toArray.size;unfold slicePick;rw[h1,h2,h3];simp only[sliceRange_one,pick_run,List.size_toArray] <;> rfl
def ZmM(K:PySem.W.Frag):V->Option Int->Option Int->Hp->VK->Prop:=fun x lo hi H Q=>∃a xs,x=.ref a/\SqL K H a xs/\∀p,H p=none->Q (.ref p) (upd H p (.lst (Zd9 xs lo hi)))
theorem Zd4:SlR X (ZmM X.K):=by
 intro pins s σ H x v vl vu lo hi sl Q I rx hs pl pu h;obtain⟨a,xs,rfl,hx,q⟩:=h;cases rx;obtain⟨its,r,ht,hz⟩:=I.list hx;have hlen:=r.length;refine⟨"list",_,slot_list_getitem.lookup,ht.isList.typeIs,?_⟩;refine wpAny_getItem_list_slice ht.isList hs pl pu .none (by simp) ?_ (by rw[List.size_toArray] <;> lia)
 rw[Zd5,<- hlen];refine⟨.ref s.heap.objs.size,_,I.laid (t':=s.toks) (o:=.lst (Zd9 xs lo hi)) (fun b ob q=>Heap.get?_push_of_some _ q) (Nat.le_refl _) ?_,rfl,q _ (I.hok.fresh (Nat.le_refl _))⟩;exact⟨Nat.le_trans (Zdk xs lo hi) hz,_,0,(r.drop (HT.sIx xs.length 0 lo)).take (HT.sIx xs.length xs.length hi-HT.sIx xs.length 0 lo),Heap.get?_push_size _ rfl⟩
def Zeo:V->Bool
 | .non=>true
 | .bl _=>true
 | .int _=>true
 | .str _=>true
 | _=>false
def eqV:V->V->Bool
 | .non,.non=>true
 | .bl a,.bl b=>a == b
 | .bl a,.int b=>(if a then 1 else 0) == b
 | .int a,.bl b=>a == (if b then 1 else 0)
 | .int a,.int b=>a == b
 | .str a,.str b=>a == b
 | _,_=>false
theorem Zk8{A:Around}{s:Shared}{y x:V}{u v:Value}(ry:RelV y u)(rx:RelV x v)(fy:Zeo y=true)(fx:Zeo x=true):SeqAt.EqAt A s u v (eqV y x):=by
 cases y with
 | non =>
  cases ry;cases x with
  | non=>cases rx;exact SeqAt.EqAt.same _
  | bl b=>cases rx;exact SeqAt.EqAt.none_bool b
  | int b=>obtain⟨t,rfl⟩:=rx;exact SeqAt.EqAt.none_int b t
  | str b=>obtain⟨t,rfl⟩:=rx;exact SeqAt.EqAt.none_str b t
  | _=>exact absurd (show false=true from fx) Bool.false_ne_true
 | bl a =>
  cases ry;cases x with
  | non=>cases rx;exact SeqAt.EqAt.bool_none a
  | bl b=>cases rx;exact SeqAt.EqAt.bool_bool a b
  | int b=>obtain⟨t,rfl⟩:=rx;exact SeqAt.EqAt.bool_int a b t
  | str b=>obtain⟨t,rfl⟩:=rx;exact SeqAt.EqAt.bool_str a b t
  | _=>exact absurd (show false=true from fx) Bool.false_ne_true
 | int a =>
  obtain⟨t',rfl⟩:=ry;cases x with
  | non=>cases rx;exact SeqAt.EqAt.int_none a t'
  | bl b=>cases rx;exact SeqAt.EqAt.int_bool a t' b
  | int b=>obtain⟨t,rfl⟩:=rx;exact SeqAt.EqAt.int_int a t' b t
  | str b=>obtain⟨t,rfl⟩:=rx;exact SeqAt.EqAt.int_str a t' b t
  | _=>exact absurd (show false=true from fx) Bool.false_ne_true
 | str a =>
  obtain⟨t',rfl⟩:=ry;cases x with
  | non=>cases rx;exact SeqAt.EqAt.str_none a t'
  | bl b=>cases rx;exact SeqAt.EqAt.str_bool a t' b
  | int b=>obtain⟨t,rfl⟩:=rx;exact SeqAt.EqAt.str_int a t' b t
  | str b=>obtain⟨t,rfl⟩:=rx;exact SeqAt.EqAt.str_str a t' b t
  | _=>exact absurd (show false=true from fx) Bool.false_ne_true
 | _=>exact absurd (show false=true from fy) Bool.false_ne_true
def eqU(x:V)(u:Value):Bool:=match u with
 | .none=>eqV .non x
 | .bool b=>eqV (.bl b) x
 | .int i _=>eqV (.int i) x
 | .str z _=>eqV (.str z) x
 | _=>false
theorem Zi9{x y:V}{u:Value}(r:RelV y u)(f:Zeo y=true):eqU x u=eqV y x:=by
 cases y with
 | non=>cases r;rfl
 | bl b=>cases r;rfl
 | int i=>obtain⟨t,rfl⟩:=r;rfl
 | str z=>obtain⟨t,rfl⟩:=r;rfl
 | _=>exact absurd (show false=true from f) Bool.false_ne_true
theorem Zdu{x:V}:∀{xs:List V}{us:List Value},Vals xs us->xs.all Zeo=true->us.any (eqU x)=xs.any fun y=>eqV y x
 | _,_,.nil,_=>rfl
 | y::xs,u::us,.cons r t,f=>by
  rw[List.all_cons,Bool.and_eq_true] at f;rw[List.any_cons,List.any_cons,Zi9 r f.1,Zdu t f.2]
theorem Zcl{A:Around}{s:Shared}{x:V}{v:Value}(rx:RelV x v)(fx:Zeo x=true):∀{xs:List V}{us:List Value},Vals xs us->xs.all Zeo=true->∀u∈us,SeqAt.EqAt A s u v (eqU x u)
 | _,_,.nil,_=>fun u hu=>by cases hu
 | y::xs,u::us,.cons r t,f=>fun u' hu=>by
  rw[List.all_cons,Bool.and_eq_true] at f;rcases List.mem_cons.mp hu with rfl|hu
  ·rw[Zi9 r f.1];exact Zk8 r rx f.1 fx
  ·exact Zcl rx fx t f.2 u' hu
def inV(x:V)(xs:List V):Bool:=xs.any fun y=>eqV y x
def rIn(K:PySem.W.Frag)(neg:Bool):R2:=fun x y H Q=>∃p xs,y=.ref p/\(SqL K H p xs\/SqT K H p xs)/\Zeo x=true/\xs.all Zeo=true/\Q (.bl (if neg then !inV x xs else inV x xs)) H
theorem ZaP:OpR X (compareOp .In) (rIn X.K false):=by
 intro pins s σ H x y v u Q I rx ry h;obtain⟨p,xs,rfl,hq,fx,fs,q⟩:=h;cases ry;rcases hq with hq|hq
 ·obtain⟨its,r,pl,hz⟩:=I.list hq;refine SeqAt.in_listAt (eqU x) pl.isList (fun w hw=>Zcl rx fx r fs w (by simpa using hw)) ⟨.bl _,H,I,rfl,?_⟩;rw[show its.toArray.any (eqU x)=its.any (eqU x) by simp,Zdu r fs];exact q
 ·obtain⟨its,r,pl,hz⟩:=I.tuple hq;refine SeqAt.in_tupleAt (eqU x) pl (fun w hw=>Zcl rx fx r fs w (by simpa using hw)) ⟨.bl _,H,I,rfl,?_⟩;rw[show its.toArray.any (eqU x)=its.any (eqU x) by simp,Zdu r fs];exact q
theorem ZeE:OpR X (compareOp .NotIn) (rIn X.K true):=by
 intro pins s σ H x y v u Q I rx ry h;obtain⟨p,xs,rfl,hq,fx,fs,q⟩:=h;cases ry;rcases hq with hq|hq
 ·obtain⟨its,r,pl,hz⟩:=I.list hq;refine SeqAt.notIn_listAt (eqU x) pl.isList (fun w hw=>Zcl rx fx r fs w (by simpa using hw)) ⟨.bl _,H,I,rfl,?_⟩;rw[show its.toArray.any (eqU x)=its.any (eqU x) by simp,Zdu r fs];exact q
 ·obtain⟨its,r,pl,hz⟩:=I.tuple hq;refine SeqAt.notIn_tupleAt (eqU x) pl (fun w hw=>Zcl rx fx r fs w (by simpa using hw)) ⟨.bl _,H,I,rfl,?_⟩;rw[show its.toArray.any (eqU x)=its.any (eqU x) by simp,Zdu r fs];exact q
theorem Z1:Zbk X (.builtin "len") (fun xs H Q=>∃p ys,xs=[.ref p]/\(SqL X.K H p ys\/SqT X.K H p ys)/\Q (.int ys.length) H):=by
 intro pins s σ H xs us Q I r h;obtain⟨p,ys,rfl,hq,q⟩:=h;obtain⟨u,rfl,rx⟩:=vals1 r;cases rx;have hn:=ZdC;rcases hq with hq|hq
 ·obtain⟨its,r',pl,hz⟩:=I.list hq;have hlen:=r'.length;exact Calls.call_len_list pl.isList (by simp only[List.size_toArray] <;> lia) ⟨.int ys.length,H,I.tok _,⟨s.toks+1,by rw[List.size_toArray,hlen]⟩,q⟩
 ·obtain⟨its,r',pl,hz⟩:=I.tuple hq;have hlen:=r'.length;exact len_tuple pl (by simp only[List.size_toArray] <;> lia) ⟨.int ys.length,H,I.tok _,⟨s.toks+1,by rw[List.size_toArray,hlen]⟩,q⟩
theorem Ze4:Zbk X (.builtin "len") (fun xs H Q=>∃z,xs=[.str z]/\z.length<=sizeLine/\Q (.int z.length) H):=by
 intro pins s σ H xs us Q I r h;obtain⟨z,rfl,hz,q⟩:=h;obtain⟨u,rfl,t,rfl⟩:=vals1 r;have hn:=ZdC;exact len_str (by lia) ⟨.int z.length,H,I.tok _,⟨_,rfl⟩,q⟩
theorem ZcN:Zbk X (.type "list") (fun xs H Q=>∃p ys,xs=[.ref p]/\(SqL X.K H p ys\/SqT X.K H p ys)/\∀l,H l=none->Q (.ref l) (upd H l (.lst ys))):=by
 intro pins s σ H xs us Q I r h;obtain⟨p,ys,rfl,hq,q⟩:=h;obtain⟨u,rfl,rx⟩:=vals1 r;cases rx;have fin:∀(its:List Value),Vals ys its->ys.length<=sizeLine->∀(h':Heap)(c':Nat),(∀b o',s.heap.get? b=some o'->h'.get? b=some o') ->
   h'.get? s.heap.objs.size=some { cls:=.type "list",dict:=none,data:=.seq its.toArray c',slots :=#[] }->EP X pins σ Q (.ref s.heap.objs.size) { s with heap:=h' }:=fun its r' hz h' c' kp e =>
  ⟨.ref s.heap.objs.size,_,I.laid (t':=s.toks) kp (Nat.le_refl _) (show ZaA X.prog X.w _ h' _ (.lst ys) from⟨hz,its,c',r',e⟩),rfl,q _ (I.hok.fresh (Nat.le_refl _))⟩
 rcases hq with hq|hq
 ·obtain⟨its,r',pl,hz⟩:=I.list hq;have hlen:=r'.length;obtain⟨o,ho,hc,n,hd⟩:=pl.isList;exact call_list_seq p (.inl rfl) ho hc hd (fun h' c' kp e=>fin its r' hz h' c' kp e) (by simp only[List.size_toArray] <;> lia)
 ·obtain⟨its,r',pl,hz⟩:=I.tuple hq;have hlen:=r'.length;obtain⟨o,ho,hc,n,hd⟩:=pl;exact call_list_seq p (.inr rfl) ho hc hd (fun h' c' kp e=>fin its r' hz h' c' kp e) (by simp only[List.size_toArray] <;> lia)
theorem Za0:Zbk X (.type "tuple") (fun xs H Q=>∃p ys,xs=[.ref p]/\((SqL X.K H p ys/\∀l,H l=none->Q (.ref l) (upd H l (.tup ys)))\/(SqT X.K H p ys/\Q (.ref p) H))):=by
 intro pins s σ H xs us Q I r h;obtain⟨p,ys,rfl,h⟩:=h;obtain⟨u,rfl,rx⟩:=vals1 r;cases rx;rcases h with⟨hq,q⟩|⟨hq,q⟩
 ·obtain⟨its,r',pl,hz⟩:=I.list hq;have hlen:=r'.length;refine call_tuple_list pl.isList (fun h' kp=>?_) (by simp only[List.size_toArray] <;> lia)
  have I1:Inv X pins σ H { s with heap:=h' }:=I.kept (t':=s.toks) kp;have I2:Inv X pins σ (upd H h'.objs.size (.tup ys)) { s with heap:=h'.push { cls:=.type "tuple",data:=.seq its.toArray } } :=
   I1.laid (t':=s.toks) (fun b o e=>Heap.get?_push_of_some _ e) (Nat.le_refl _) (show ZaA X.prog X.w _ _ _ (.tup ys) from⟨hz,its,r',IsTup.new _ _⟩)
  exact⟨.ref h'.objs.size,_,I2,rfl,q _ (I1.hok.fresh (Nat.le_refl _))⟩
 ·obtain⟨its,r',pl,hz⟩:=I.tuple hq;exact call_tuple_same pl ⟨.ref p,H,I,rfl,q⟩
def tyV(K:PySem.W.Frag)(T:String)(x:V)(H:Hp):Prop:=match x with
 | .str _=>T= "str"
 | .int _=>T= "int"
 | .ref p=>(T= "list" /\ ∃xs,SqL K H p xs)\/(T= "tuple" /\ ∃o,K.lookup p=some o/\o.cls=.type "tuple" /\ o.dict=none) \/
   (T= "dict" /\ ((∃kvs,H p=some (.dK kvs))\/∃kvs,H p=some (.dT kvs)))\/(T= "set" /\ ∃S n,H p=some (.set S n))
 | _=>False
theorem Zjn{pins:List (Addr×Obj)}{σ : St}{H:Hp}{s:Shared}{T:String}{x:V}{v:Value}(I:Inv X pins σ H s)(r:RelV x v)(ty:tyV X.K T x H) :
  s.TypeIs v T/\∀a,v=.ref a->∃ob,s.heap.get? a=some ob/\ob.dict=none:=by
 cases x with
 | str z =>
  obtain⟨t,rfl⟩:=r;cases (show T= "str" from ty);exact⟨typeIs_str s z t,fun _ e=>nomatch e⟩
 | int i =>
  obtain⟨t,rfl⟩:=r;cases (show T= "int" from ty);exact⟨typeIs_int s i t,fun _ e=>nomatch e⟩
 | ref p =>
  cases r;rcases ty with⟨rfl,xs,hq⟩|⟨rfl,o,hk,hc,hd⟩|⟨rfl,hk⟩|⟨rfl,S,n,hk⟩
  ·obtain⟨its,_,pl,_⟩:=I.list hq;refine⟨pl.isList.typeIs,fun a e=>?_⟩;cases e;obtain⟨o,n,e,c,hd,_⟩:=pl;exact⟨o,e,hd⟩
  ·refine⟨⟨o,I.kIn p o hk,hc⟩,fun a e=>?_⟩;cases e;exact⟨o,I.kIn _ o hk,hd⟩
  ·have z:∃o,s.heap.get? p=some o/\o.ExactDict:=by
    rcases hk with⟨kvs,hk⟩|⟨kvs,hk⟩
    ·obtain⟨_,_,_,_,o,_,_,e,ex,_⟩:=I.hok p _ hk;exact⟨o,e,ex⟩
    ·obtain⟨_,_,_,_,o,_,_,e,ex,_⟩:=I.hok p _ hk;exact⟨o,e,ex⟩
   obtain⟨o,e,ex⟩:=z;refine⟨⟨o,e,ex.1⟩,fun a e2=>?_⟩;cases e2;exact⟨o,e,ex.2.1⟩
  ·obtain⟨o,_,_,_,e,ex,_⟩:=I.hok p _ hk;refine⟨⟨o,e,ex.1⟩,fun a e2=>?_⟩;cases e2;exact⟨o,e,ex.2.1⟩
 | _=>exact False.elim ty
def ZmH(K:PySem.W.Frag)(T:String)(r:V->List V->Hp->VK->Prop)(to:TE):TE:=fun σ H Q=>to σ H fun x H1=>tyV K T x H1/\r x [] H1 Q
def tBM(K:PySem.W.Frag)(T:String)(r:V->List V->Hp->VK->Prop)(to:TE)(t:TA):TE:=fun σ H Q=>to σ H fun x H1=>tyV K T x H1/\t σ H1 fun xs H2=>r x xs H2 Q
variable{o e:Expr}{es:List Expr}{to:TE}{t:TA}{name:Str}{apos cpos:Pos}{T id:String}{r:V->List V->Hp->VK->Prop}
theorem Zla(pa:PlainAttrs T)(slot:Slot T name id)(hty:typeOf (.builtin id)=pure (.type "method_descriptor")) (hm:MtR X id r) (ho:PE X o to)
  (hbase:attributeBase o name X.env (eval o X.env)=eval o X.env:=by rfl) (hline:(apos.endLine == cpos.line)=true:=by rfl):PE X (.Call (.Attribute o name apos) [] [] cpos) (ZmH X.K T r to):=by
 intro pins s σ H Q I h;refine wpAny_Call_method0_late hbase hline (thn (ho pins s σ H _ I h) fun v s1 ⟨x,H1,I1,r1,ty,q1⟩=>?_);obtain⟨h1,h2⟩:=Zjn I1 r1 ty;exact⟨T,id,pa,slot,hty,h1,h2,Calls.callWith_builtin rfl (PySem.evalArgs_none (hm pins s1 σ H1 x [] v [] Q I1 r1 .nil q1))⟩
theorem ZhZ(pa:PlainAttrs T)(slot:Slot T name id)(hty:typeOf (.builtin id)=pure (.type "method_descriptor")) (hm:MtR X id r) (ho:PE X o to) (ha:PA X (e::es) t)
  (hbase:attributeBase o name X.env (eval o X.env)=eval o X.env:=by rfl)
  (hfew:((backTo cpos (starEach (e::es) X.env)).all (fun x=>!x.1)&&(backToKw cpos (keywordEach [] X.env)).all (fun x=>x.1.isSome)
   && decide ((e::es).length+([]:List Keyword).length+(if([]:List Keyword).isEmpty then 0 else 1)<30))=true:=by rfl)
  (hline:(apos.endLine == cpos.line)=true:=by rfl) (hs:starEach (e::es) X.env=(false,eval e X.env)::starEach es X.env:=by rfl) (hplain:(backTo cpos (starEach es X.env)).any (·.1)=false:=by rfl) :
  PE X (.Call (.Attribute o name apos) (e::es) [] cpos) (tBM X.K T r to t):=by
 intro pins s σ H Q I h;refine wpAny_Call_method_late hbase hfew hline rfl (thn (ho pins s σ H _ I h) fun v s1 ⟨x,H1,I1,r1,ty,q1⟩=>?_);obtain⟨h1,h2⟩:=Zjn I1 r1 ty;refine⟨T,id,pa,slot,hty,h1,h2,?_⟩;have hA:=ha cpos pins s1 σ H1 _ I1 q1;rw[hs] at hA ⊢;refine Calls.callWith_builtin (by show(false || (backTo cpos (starEach es X.env)).any (·.1))=false;rw[hplain] <;> rfl) (Calls.evalArgs_plain ?_)
 exact thn hA fun us s2 ⟨vs,H2,I2,r2,q2⟩=>hm pins s2 σ H2 x vs v us Q I2 r1 r2 q2
/- xs.append(e),list.index on a module's tuple .. are MtR facts of 06m -/
end
def MtM(X:Cx)(id:String)(r:V->List V->Hp->VK->Prop):Prop :=
 ∀(pins:List (Addr×Obj))(s:Shared)(σ : St)(H:Hp)(x:V)(xs:List V)(v:Value)(us:List Value)(Q:VK),Inv X pins σ H s->RelV x v->Vals xs us->r x xs H Q ->
  wpAny (model X.prog X.w) X.A (call (.builtin id) (v::us)) (EP X pins σ Q) X.xe s
theorem Vals.one:∀{x:V}{us:List Value},Vals [x] us->∃u,us=[u]/\RelV x u
 | _,_,.cons r .nil=>⟨_,rfl,r⟩
theorem Vals.two:∀{x y:V}{us:List Value},Vals [x,y] us->∃u v,us=[u,v]/\RelV x u/\RelV y v
 | _,_,_,.cons r (.cons q .nil)=>⟨_,_,rfl,r,q⟩
theorem Vals.zero:∀{us:List Value},Vals [] us->us=[]
 | _,.nil=>rfl
theorem Vals.reverse{xs:List V}{us:List Value}(h:Vals xs us):Vals xs.reverse us.reverse:=by
 induction h with
 | nil=>exact .nil
 | cons r t ih=>rw[List.reverse_cons,List.reverse_cons];exact Vals.append ih (.cons r .nil)
theorem Vals.rep{xs:List V}{us:List Value}(h:Vals xs us):∀k:Nat,Vals (List.replicate k xs).flatten (List.replicate k us).flatten
 | 0=>.nil
 | k+1=>by
  rw[List.replicate_succ,List.replicate_succ,List.flatten_cons,List.flatten_cons];exact Vals.append h (Vals.rep h k)
theorem foldl_rep(its:List Value):∀(k:Nat)(acc:List Value),
  List.foldl (fun x1 x2=>x1++x2) acc.toArray (List.replicate k its.toArray)=(acc++(List.replicate k its).flatten).toArray
 | 0,acc=>by simp
 | k+1,acc=>by
  have e:acc.toArray++its.toArray=(acc++its).toArray:=by simp
  have e2:(acc++its)++(List.replicate k its).flatten=acc++(List.replicate (k+1) its).flatten:=by
   rw[List.replicate_succ,List.flatten_cons,List.append_assoc]
  rw[<- e2,<- foldl_rep its k (acc++its),<- e,List.replicate_succ,List.foldl_cons]
section
variable{X:Cx}{pins:List (Addr×Obj)}{σ : St}{H:Hp}{s:Shared}{l b:Addr}{xs ys zs:List V}
theorem Inv.lset{its its':List Value}{n:Nat}{f:Array Value->Array Value}{t':Nat}(I:Inv X pins σ H s)(hH:H l=some (.lst xs))
  (e:s.heap.get? l=some { cls:=.type "list",data:=.seq its.toArray n }) (hf:f its.toArray=its'.toArray) (hv:Vals ys its') (hz:ys.length<=sizeLine) :
  Inv X pins σ (upd H l (.lst ys)) { s with heap:=s.heap.update l (Obj.mapSeq f),toks:=t' }:=by
 have q:=PySem.IsL.update e f;rw[hf] at q;refine I.write (x:=l) (e:=l) (by rw[hH];exact trivial) (.inl rfl) (fun b' u hb hu=>(Heap.get?_update_other s.heap (Obj.mapSeq f) (Ne.symm hb)).trans hu) ⟨_,q⟩ ?_;exact⟨hz,its',_,hv,q⟩
theorem Inv.lnew{its:List Value}{t':Nat}(I:Inv X pins σ H s)(hv:Vals ys its)(hz:ys.length<=sizeLine) :
  Inv X pins σ (upd H s.heap.objs.size (.lst ys)) { s with heap:=s.heap.push { cls:=.type "list",data:=.seq its.toArray },toks:=t' } :=
 I.laid (fun _ _ q=>Heap.get?_push_of_some _ q) (Nat.le_refl _) ⟨hz,its,0,hv,Heap.get?_push_size _ rfl⟩
theorem Inv.fresh(I:Inv X pins σ H s):H s.heap.objs.size=none:=I.hok.fresh (Nat.le_refl _)
theorem Inv.lstM(I:Inv X pins σ H s)(hH:H l=some (.lst xs)):xs.length<=sizeLine/\∃(its:List Value)(n:Nat),Vals xs its/\xs.length=its.length/\s.heap.get? l=some { cls:=.type "list",data:=.seq its.toArray n }:=by
 obtain⟨z,its,n,r,e⟩:=I.hok l _ hH;exact⟨z,its,n,r,r.length,e⟩
theorem ZiD{n:Nat}(h:n<=sizeLine):Builtin.List.listTooLong n=false:=by
 unfold Builtin.List.listTooLong;exact decide_eq_false (by lia)
end
section
variable{X:Cx}
def Zjw:V->List V->Hp->VK->Prop:=fun x vs H Q=>∃l xs y,x=.ref l/\vs=[y]/\H l=some (.lst xs)/\xs.length<sizeLine/\Q .non (upd H l (.lst (xs ++ [y])))
theorem Zct:MtM X "list.append" Zjw:=by
 intro pins s σ H x vs v us Q I rx rv h;obtain⟨l,xs,y,rfl,rfl,hH,hz,q⟩:=h;cases rx;obtain⟨u,rfl,ru⟩:=rv.one;obtain⟨z,its,n,r,hl,e⟩:=I.lstM hH;refine call_meets F.slot_list_append ⟨_,e,rfl⟩ F.entry_list_append (F.args_list_append_2 _ _) (PySem.list_append l its.toArray n u (by rw[List.size_toArray];lia)) ⟨e,?_⟩;refine⟨.non,_,I.lset (its':=its ++ [u]) hH e (by simp) (r.append (.cons ru .nil)) ?_,rfl,q⟩;rw[List.length_append,List.length_singleton];lia
def Zl4:R2:=fun x y H Q=>∃l b xs zs,x=.ref l/\y=.ref b/\H l=some (.lst xs)/\H b=some (.lst zs)/\xs.length+zs.length<=sizeLine/\∀p,H p=none->Q (.ref p) (upd H p (.lst (xs++zs)))
theorem ZbE:OpR X (binaryOp .Add) Zl4:=by
 intro pins s σ H x y v u Q I rx ry h;obtain⟨l,b,xs,zs,rfl,rfl,hH,hB,hz,q⟩:=h;cases rx;cases ry;obtain⟨z,its,n,r,hl,e⟩:=I.lstM hH;obtain⟨z2,its2,n2,r2,hl2,e2⟩:=I.lstM hB;refine PySem.P.add_list e e2 ?_ (by rw[List.size_toArray,List.size_toArray];lia);have ea:its.toArray++its2.toArray=(its++its2).toArray:=by simp
 rw[ea];exact⟨.ref _,_,I.lnew (t':=s.toks) (r.append r2) (by rw[List.length_append];lia),rfl,q _ I.fresh⟩
def Zmn:R2:=fun x y H Q=>∃l k xs,x=.ref l/\y=.int k/\H l=some (.lst xs) /\ -(2 ^ 63)<=k/\k<2 ^ 63/\xs.length*k.toNat<=sizeLine /\
 ∀p,H p=none->Q (.ref p) (upd H p (.lst (List.replicate k.toNat xs).flatten))
theorem len_rep{α : Type}(xs:List α)(k:Nat):(List.replicate k xs).flatten.length=k*xs.length:=by
 induction k with
 | zero=>simp
 | succ k ih=>rw[List.replicate_succ,List.flatten_cons,List.length_append,ih,Nat.succ_mul,Nat.add_comm]
theorem ZfV:OpR X (binaryOp .Mult) Zmn:=by
 intro pins s σ H x y v u Q I rx ry h;obtain⟨l,k,xs,rfl,rfl,hH,h1,h2,hz,q⟩:=h;cases rx;obtain⟨t,rfl⟩:=ry;obtain⟨z,its,n,r,hl,e⟩:=I.lstM hH;have hlen:its.toArray.size*k.toNat<=sizeLine:=by rw[List.size_toArray,<- hl];exact hz
 have hcap : ¬ its.toArray.size*k.toNat > (2 ^ 63-1) / 8:=by
  have:(sizeLine:Nat)<=(2 ^ 63-1) / 8:=by decide
  lia
 have hfit : ¬ (!Builtin.List.listFitsIndex k)=true:=by
  rw[fitsIndex_both h1 h2];exact Bool.false_ne_true
 have hlong : ¬ Builtin.List.listTooLong (its.toArray.size*k.toNat)=true:=by
  rw[ZiD hlen];exact Bool.false_ne_true
 have hnew:List.foldl (fun x1 x2=>x1++x2) #[] (List.replicate (if its.toArray.isEmpty=true then 0 else k.toNat) its.toArray)=(List.replicate k.toNat its).flatten.toArray:=by
  have f0:∀m:Nat,List.foldl (fun x1 x2=>x1++x2) #[] (List.replicate m its.toArray)=(List.replicate m its).flatten.toArray:=fun m=>by
   have:=foldl_rep its m [];rw[List.nil_append] at this;exact this
  rw[f0];cases its with
  | nil=>simp
  | cons a r'=>rw[if_neg (by simp)]
 refine wpAny_binaryOp_repeat_ref (T := "list") (U := "int") (by decide) ⟨_,e,rfl⟩ (fun s'=>typeIs_int s' k t) noFill_list_mul F.fills_int_mul F.slot_int_rmul repeat_list F.slot_int_index.lookup
  (call_meets F.slot_int_rmul (typeIs_int s k t) F.entry_int_rmul (F.args_int_rmul_2 _ _) (int___rmul___int_list k t l its.toArray n)
   ⟨e,rfl,⟨_,e,rfl⟩,call_meets F.slot_list_mul ⟨_,e,rfl⟩ F.entry_list_mul (F.args_list_mul_2 _ _) (AutoListH.list___mul___list_int_3 l its.toArray n k t hfit hcap hlong) ⟨e,?_⟩⟩)
 rw[hnew];exact⟨.ref _,_,I.lnew (t':=s.toks) (r.rep k.toNat) (by rw[len_rep,Nat.mul_comm];exact hz),rfl,q _ I.fresh⟩
end
end L2
namespace Att
open PySem PySem.W PySem.Calls PyProof.Rows
theorem Zdq{P:Params}{h:Heap}:∀(ns:List Int)(vs:List Value),WellAll P h vs (ns.map WData.int)->IntsAre vs ns:=by
 intro ns
 induction ns with
 | nil =>
  intro vs w;rw[List.map_nil] at w;cases w;exact .nil
 | cons n ns ih =>
  intro vs w;rw[List.map_cons] at w;cases w with
  | cons a b =>
   cases a;exact .cons _ _ (ih _ b)
theorem ZhY{l:OpenLaw}{n:Nat}(hn:l.most=some n){P:Params}{h:Heap}{args:List WData}{vals:List Value}
  (hpre:l.row.toRowW.claim.pre args=true) (hwl:WellAll P h vals args) :
  ∃a vs ns,vals=[Value.ref a]/\args=[WData.list (ns.map WData.int)]/\h.get? a=some { cls:=.type "list",data:=.seq vs.toArray }/\IntsAre vs ns/\ns.length<=n:=by
 have hsh:WShape.hasAll [] args [.list .int]=true:=(pre_splitW hpre).1;have hc:l.pre.holds [] { args:=args }=true:=(pre_splitW hpre).2;obtain⟨d,r,rfl,h1,h2⟩:=hasAllW_cons hsh;obtain rfl:=hasAllW_nil h2;obtain⟨xs,rfl,h3⟩:=hasW_list h1;obtain⟨ns,rfl⟩:=items_int h3;have hlen:ns.length<=n:=by
  unfold OpenLaw.pre at hc;have h4:(WTm.not (.lt (.lit (.int (n:Int))) (.len (.arg 0)))).holds [] { args:=[.list (ns.map .int)] }=true:=by
   have h4:=(holds_andW hc).1;rw[hn] at h4;exact h4
  have h5:=condW_of h4 (w_not (w_lt w_lit (w_len_list (w_arg rfl))));rw[List.length_map] at h5;refine Nat.le_of_not_lt fun q=>?_;have q':(n:Int)<((ns.length:Nat):Int):=by lia
  first
   | (rw[decide_eq_true q'] at h5;exact absurd h5 (by decide))
   | (simp at h5;lia)
 cases hwl with
 | cons w1 w2 =>
  cases w2;cases w1 with
  | list ho hall=>exact⟨_,_,ns,rfl,rfl,ho,Zdq ns _ hall,hlen⟩
theorem Zho(l:OpenLaw)(args:List WData):l.row.toRowW.claim.post args (.bool true) args=true :=
 postW_of (r:=l.row.toRowW) (X:=(true == true))
  (show WShape.has [] (.bool true) .bool=true by first|rfl|decide|simp[WShape.has,WShape.arms,WShape.armsAll])
  (show(WTm.eq .res (.lit (.bool true))).value [] { args:=args,res:=some (.bool true),after:=args }=some (.bool (true == true)) from w_eq_bool (w_res rfl) w_lit) rfl
theorem Zfz{l:OpenLaw}{n:Nat}{q:Program}{loose:List Str}{XP:(Str->Option Value)->Heap->Prop}{YP:World->Heap->Prop}{d:DefRec}
  (hn:l.most=some n) (hdf:d.params.defaults=[])
  (call:∀(w:World)(s₀ s₁ : Shared)(mg mb:Str->Option Value)(fa:Addr)(o:Obj)(pm cd doc:Value)(a:Addr)(vs:List Value)(ns:List Int),
   Ground q loose [] XP w s₀ mg mb s₁.heap->YP w s₁.heap ->
   s₁.heap.get? fa=some o->o.data=.func (docDef d.name d.params d.body d.scope pm cd doc)->s₁.heap.CodeRec cd d.name->mg d.name=some (.ref fa) ->
   s₁.heap.get? a=some { cls:=.type "list",data:=.seq vs.toArray }->IntsAre vs ns->ns.length<=n->s₁.gens=#[] ->
   codeAny (model l.prog w) callerA (.call (.ref fa) ⟨[.ref a],[]⟩) (fun r s'=>r=.ok (.ret (.bool true))/\OldK s₁.heap s'.heap/\s'.os=s₁.os/\AllBare s'.gens) s₁) :
  WalkO q loose XP YP l.row.toRowW d [] (fun f vs=>PySem.call f vs):=by
 intro w s₀ s₁ mg mb G Y fa o pm cd doc dV kV ho hd hcd hD hmg hg args vals as hpre hlay hrd hwl hlo;obtain rfl:dV=.none:=Dflts.none hD hdf;obtain rfl:kV=.none:=Dflts.noKw hD;obtain⟨a,vs,ns,rfl,rfl,hobj,hints,hlen⟩:=ZhY hn hpre hwl;refine enter_call (codeAny_mono (call w s₀ s₁ mg mb fa o pm cd doc a vs ns G Y ho (fd_plain hd) hcd hmg hobj hints hlen hg) fun r s' hq=>?_);obtain⟨rfl,h2,h3,h4⟩:=hq;exact⟨.inl ⟨.bool true,.bool true,[],rfl,fun _=>rfl,.bool true,Zho l _,fun _=>⟨List.Pairwise.nil,fun _ hm=>(nomatch hm)⟩⟩,h2,h3,h4⟩
end Att
namespace L2
open PySem PySem.Spec PyProof.Rows
theorem ZeQ:∀{vs:List Value}{ns:List Int},IntsAre vs ns->Vals (ns.map V.int) vs
 | _,_,.nil=>.nil
 | _,_,.cons n t h=>.cons ⟨t,rfl⟩ (ZeQ h)
def Only(H:Hp):Prop := ∀b,H b=none\/∃o xs,H b=some (.frz o (.lst xs))
theorem ZiZ{P:Program}{w:World}{K:PySem.W.Frag}{mg mb:Str->Option Value}{CX:CXT}{k:Nat}{fa a:Addr}{fd:FuncData}{x:Str}{sp:Sp}{s₁ : Shared}{vs:List Value}{ns:List Int}
  (KX:K.In s₁.heap) (hns:s₁.heap.Ns mainGlobals mg) (hb:s₁.heap.Ns builtinsNs mb) (hbb:∀x:Str,x ≠ "__name__" -> mb x=bootBuiltins x) (hlim:s₁.heap.NoLimit) (hg:s₁.gens=#[])
  (ha:s₁.heap.get? a=some { cls:=.type "list",data:=.seq vs.toArray }) (hi:IntsAre vs ns) (hl:ns.length<=sizeLine) (hr:Room k callerA)
  (F:∀base:Heap,K.In base->base.Ns mainGlobals mg->FnOk P w K mg base CX k fa fd [x] sp) (hbind:∀(s:Shared)(u:Value),BindsTo s fd ⟨[u],[]⟩ [(x,u)])
  (hsp:∀H:Hp,Only H->SqL K H a (ns.map V.int)->sp [.ref a] H (fun v _=>v=.bl true) fun _ _ _=>False)
  (hCX:∀H e s',CX [] H s₁ (fun _ _ _=>False) e s'->False) :
  codeAny (model P w) callerA (.call (.ref fa) ⟨[.ref a],[]⟩) (fun r s'=>r=.ok (.ret (.bool true))/\OldK s₁.heap s'.heap/\s'.os=s₁.os/\AllBare s'.gens) s₁ := by
 have rv:=ZeQ hi;have lenV:=hi.length;have core:∀H:Hp,Only H->SqL K H a (ns.map V.int)->HOk P w H s₁.heap->(∀b,H b≠none->b=a)->(H a≠none->K.lookup a=none) ->
   codeAny (model P w) callerA (.call (.ref fa) ⟨[.ref a],[]⟩) (fun r s'=>r=.ok (.ret (.bool true))/\OldK s₁.heap s'.heap/\s'.os=s₁.os/\AllBare s'.gens) s₁ := by
  intro H hO hS hok hA hK;have base_of:∀{b:Addr}{o:Obj},s₁.heap.get? b=some o->H b=none->(ZiR s₁.heap H).get? b=some o:=fun e n=>ZiL e n;have noA:∀{b:Addr}{o:Obj}{es:Array DictEntry}{ep:Nat},s₁.heap.get? b=some o->o.data=.dict es ep->H b=none:=fun{b o es ep} e d=>by
   cases q:H b with
   | none=>rfl
   | some u =>
    have e':b=a:=hA b (by rw[q];simp);subst e';rw[ha] at e;cases e;have d':Data.seq vs.toArray _=Data.dict es ep:=d;cases d'
  have nsK:∀{b:Addr}{m:Str->Option Value},s₁.heap.Ns b m->(ZiR s₁.heap H).Ns b m:=fun{b m} ⟨o,es,ep,e,d,r⟩=>⟨o,es,ep,base_of e (noA e d),d,r⟩;have hKb:K.In (ZiR s₁.heap H):=fun b o e=>base_of (KX b o e) (by
   cases q:H b with
   | none=>rfl
   | some u =>
    have e':b=a:=hA b (by rw[q];simp);subst e';rw[hK (by rw[q];simp)] at e;cases e)
  have hM:Mod K mg (ZiR s₁.heap H):=⟨hKb,nsK hns,⟨mb,nsK hb,hbb⟩,let ⟨mc,h1,h2⟩:=hlim;⟨mc,nsK h1,h2⟩⟩;have e0:Env0 P w K mg (ZiR s₁.heap H) callerA [] s₁ H:=⟨rfl,hM,fun b o e=>ZjX e,Nat.le_of_eq (Zg4 _ _),trivial,fun b hb=>absurd (show b∈([]:List Addr) from hb) (by simp),hok,.of_eq hg⟩;refine codeAny_mono ((F _ hKb (nsK hns)).run callerA [] s₁ H ⟨[.ref a],[]⟩ [.ref a] [.ref a] _ _ hr e0 (hbind s₁ (.ref a)) (.cons rfl .nil) (hsp H hO hS)) fun r s' h=>?_;cases r with
  | error e=>exact(hCX H e s' h).elim
  | ok fl =>
   cases fl with
   | next=>exact False.elim h
   | brk=>exact False.elim h
   | cont=>exact False.elim h
   | ret u =>
    obtain⟨v,H',os,bare,un,hok',r',q⟩:=h;have q':v=.bl true:=q;subst q';obtain rfl:u=Value.bool true:=r';refine⟨rfl,OldK.of_keep fun b o e=>?_,os,bare⟩;cases q:H b with
    | none=>exact un.keep b o e q (by intro z;exact absurd (show b∈([]:List Addr) from z) (by simp)) (by simp)
    | some u =>
     rcases hO b with z|⟨ob,xs,z⟩
     ·rw[q] at z;cases z
     ·have z2:=un.frzs b ob _ z;obtain⟨e1,_⟩:=hok b _ z;obtain⟨e2,_⟩:=hok' b _ z2;rw[e] at e1;cases e1;exact e2
 cases hk:K.lookup a with
 | some o =>
  have e:=KX a o hk;rw[ha] at e;cases e;refine core (fun _=>none) (fun _=>.inl rfl) (.inr ⟨_,vs.toArray,_,hk,rfl,rfl,rfl,by rw[List.size_toArray,lenV];exact hl,by simpa using rv⟩) (fun b u z=>by have z':(none:Option HO)=some u:=z;cases z') (fun b z=>absurd rfl z) fun z=>absurd rfl z
 | none =>
  refine core (fun b=>if b=a then some (.frz { cls:=.type "list",data:=.seq vs.toArray } (.lst (ns.map V.int))) else none) (fun b=>?_) (.inl (.inr ⟨{ cls:=.type "list",data:=.seq vs.toArray },if_pos rfl⟩)) (fun b u z=>?_) (fun b z=>?_) fun _=>hk
  ·by_cases hb:b=a
   ·exact .inr ⟨_,_,if_pos hb⟩
   ·exact .inl (if_neg hb)
  ·by_cases hb:b=a
   ·have z':=(if_pos hb).symm.trans z;cases z';subst hb;exact⟨ha,by rw[List.length_map];exact hl,vs,_,rv,ha⟩
   ·have z':=(if_neg hb).symm.trans z;cases z'
  ·by_cases hb:b=a
   ·exact hb
   ·exact absurd (if_neg hb) z
theorem Zhn{l:PySem.W.OpenLaw}{n k:Nat}{q:Program}{loose:List Str}{XP:(Str->Option Value)->Heap->Prop}{YP:World->Heap->Prop}{d:DefRec}{K:Params->PySem.W.Frag}{CX:World->CXT}{sp:World->Sp}{x:Str}
  (hn:l.most=some n) (hn2:n<=sizeLine) (hdf:d.params.defaults=[]) (hr:Room k callerA)
  (hY:∀(w:World)(h:Heap),YP w h->(K w.params).In h)
  (F:∀(w:World)(mg:Str->Option Value)(fa:Addr)(h:Heap),(K w.params).In h->h.Ns mainGlobals mg->mg d.name=some (.ref fa) ->
   ∃fd:FuncData,(∀(s:Shared)(u:Value),BindsTo s fd ⟨[u],[]⟩ [(x,u)]) /\
    ∀base:Heap,(K w.params).In base->base.Ns mainGlobals mg->FnOk l.prog w (K w.params) mg base (CX w) k fa fd [x] (sp w))
  (hsp:∀(w:World)(H:Hp)(a:Addr)(ns:List Int),ns.length<=n->Only H->SqL (K w.params) H a (ns.map V.int)->sp w [.ref a] H (fun v _=>v=.bl true) fun _ _ _=>False)
  (hCX:∀(w:World)(H:Hp)(s:Shared)(e:Value)(s':Shared),CX w [] H s (fun _ _ _=>False) e s'->False) :
  PySem.W.WalkO q loose XP YP l.row.toRowW d [] (fun f vs=>PySem.call f vs):=by
 refine Att.Zfz hn hdf fun w s₀ s₁ mg mb fa o pm cd doc a vs ns G Y ho hd hcd hmg hobj hints hlen hg=>?_;have KX:=hY w _ Y;obtain⟨fd,hb,hF⟩:=F w mg fa _ KX G.T.g hmg;exact ZiZ KX G.T.g G.T.b G.T.builtins G.T.nolimit hg hobj hints (Nat.le_trans hlen hn2) hr hF hb (fun H hO hS=>hsp w H a ns hlen hO hS) fun H e s'=>hCX w H s₁ e s'
end L2
/- THE LAST THEOREM (shape;LID,My.* are yours):
   My.Adr: a structure of the addresses that your layer names (classes,functions);My.Txt K t: a structure (Prop) of the equations over K;
   My.txt_mk:{K} {implicit addresses ..} (e1:nsIn K mainGlobals "law" = some (some (.ref f))) (e2:K.lookup f=some ⟨oc,od,.func (fnOf "law" "law" params body scope dV kV doc pm an cdv ct),sl⟩) (e3:codeIn K cdv "law" = true) .. : ∃t,My.Txt K t
set_option maxRecDepth 100000 in
set_option maxHeartbeats 0 in
theorem PySem.Challenge.cw_LID_holds : PySem.Challenge.rw_LID.Holds := by
 w_on;o_law;k_head;(case hw=>w_witness2)
 k_fill
 refine L2.Zhn (l:=PySem.Challenge.rw_LID) (n:=63) (k:=40) (x := "script") (CX:=fun w=>..) (sp:=fun _=>My.sp_law) rfl (by decide) rfl ⟨rfl,by decide,by decide⟩ (fun w h Y=>PySem.W.kIn_of Y) ?F ?S ?C
 case F =>
  intro w mg fa h KX G hmg;have T:∃t,My.Txt (L2.KOf KX) t:=by
   dsimp only[L2.KOf]                          -- K must stand as «<heap const> w.params» for k_is
   refine' My.txt_mk ?e1 ?e2 ?e3 ..
   (case e1=>PySem.W.k_is)                    -- in the order: a name->its address->its object->its parts
   (case e2=>PySem.W.k_is)
   ..
  obtain⟨t,T⟩:=T;have e0:=hmg.symm.trans (PySem.W.mg_of KX G T.law);cases e0                                       -- fa is the law's own address
  exact⟨_,fun s u=>.of_eq rfl,fun base kb nb=>My.law_fn T kb nb⟩     -- if «.of_eq rfl» comes too early: refine' ⟨_,?b,fun base kb nb=>My.law_fn T kb nb⟩;exact fun s u=>.of_eq rfl
 case S=>exact fun w H a ns hl hO hS=>..
 case C=>exact ..
(the tactic k_is has no namespace: write k_is) -/
namespace L2
open PySem PySem.Spec PyProof.Rows
def inClass(s:Stmt)(j:Nat):Stmt:=match s with
 | .ClassDef _ _ _ body _ _ _ _ _ _ _=>body.getD j (.Pass ⟨0,0,0,0⟩)
 | _=>.Pass ⟨0,0,0,0⟩
def ZZ(s:Stmt):Arguments:=match s with
 | .FunctionDef _ a _ _ _ _ _ _ _ _=>a
 | _=>{ posonlyargs:=[],args:=[],vararg:=none,kwonlyargs:=[],kw_defaults:=[],kwarg:=none,defaults:=[] }
def Zc(s:Stmt):List Stmt:=match s with
 | .FunctionDef _ _ b _ _ _ _ _ _ _=>b
 | _=>[]
def Zh(s:Stmt):Scope:=match s with
 | .FunctionDef _ _ _ _ _ _ sc _ _ _=>sc
 | _=>{ kind:=.function,names:=[],isGenerator:=false,isCoroutine:=false }
abbrev CX0:CXT:=fun _ _ _ _ _ _=>False
abbrev E0:XK:=fun _ _ _=>False
theorem ZjC{X:Cx}:ZdZ CX0 X E0:=fun _ _ _ _ _ _ _ h=>h.elim
structure Fun(K:PySem.W.Frag)(x qual:Str)(st:Stmt)(f:Addr)(fd:FuncData):Prop where
 ex:∃(oc:Value)(od:Option Addr)(kV doc pm:Value)(an:Option Addr)(cdv ct:Value)(osl:Array (Option Value)),
  fd=PySem.W.fnOf x qual (ZZ st) (Zc st) (Zh st) .none kV doc pm an cdv ct/\K.lookup f=some ⟨oc,od,.func fd,osl⟩/\PySem.W.codeIn K cdv qual=true
 kp:PySem.W.keepIn K (.ref f)=true
section
variable{P:Program}{w:World}{K:PySem.W.Frag}{mg:Str->Option Value}{base:Heap}
theorem Fun.ok{x qual:Str}{st:Stmt}{f:Addr}{fd:FuncData}{N ps:List Str}{k:Nat}{sp:Sp}(F:Fun K x qual st f fd)(S:FnScope N ps (Zh st))(len:∀vs H Q E,sp vs H Q E->vs.length=ps.length)
  (hbody:∀(cdv:Value)(A:Around)(outer:List Env)(s:Shared)(H:Hp)(vs:List V)(Q:VK)(E:XK),Room k (A.deeper (envOfC qual (Zh st) s.heap.objs.size f cdv))->sp vs H Q E ->
   ∃t,PSs (ZiG CX0 P w K mg base N qual (Zh st) f cdv A outer s H E).nox (Zc st) t/\t { nx:=fun _ H'=>Q .non H',rt:=Q } (start N vs) H):FnOk P w K mg base CX0 (k+1) f fd ps sp:=by
 obtain⟨oc,od,kV,doc,pm,an,cdv,ct,osl,rfl,lk,hcd⟩:=F.ex;refine Zlg lk hcd S len fun A outer s H vs Q E hr hsp=>?_;obtain⟨t,h,q⟩:=hbody cdv A outer s H vs Q E hr hsp;exact⟨t,h.nox,q⟩
theorem Fun.binds{x qual:Str}{st:Stmt}{f:Addr}{fd:FuncData}{ps:List Str}(F:Fun K x qual st f fd)
  (h:∀(kV doc pm:Value)(an:Option Addr)(cdv ct:Value)(us:List Value),us.length=ps.length->bindArgs (PySem.W.fnOf x qual (ZZ st) (Zc st) (Zh st) .none kV doc pm an cdv ct) ⟨us,[]⟩=pure (ps.zip us)):Binds K fd ps []:=by
 obtain⟨oc,od,kV,doc,pm,an,cdv,ct,osl,rfl,lk,hcd⟩:=F.ex;exact .all (h kV doc pm an cdv ct)
theorem Zat{x qual:Str}{st:Stmt}{f:Addr}{oc:Value}{od an:Option Addr}{osl:Array (Option Value)}{kV doc pm cdv ct:Value}(l:K.lookup f=some ⟨oc,od,.func (PySem.W.fnOf x qual (ZZ st) (Zc st) (Zh st) .none kV doc pm an cdv ct),osl⟩)
  (c:PySem.W.codeIn K cdv qual=true) (k:PySem.W.keepIn K (.ref f)=true):Fun K x qual st f (PySem.W.fnOf x qual (ZZ st) (Zc st) (Zh st) .none kV doc pm an cdv ct):=⟨⟨oc,od,kV,doc,pm,an,cdv,ct,osl,rfl,l,c⟩,k⟩
end
section
variable{X:Cx}
theorem pv(i:Nat){x:Str}{pos:Pos}(hN:X.N[i]?= some x:=by rfl)(hv:Vis X.env.scope x:=by first|exact Or.inl rfl|exact Or.inr (Or.inl rfl)|exact Or.inr (Or.inr rfl))(hd:(x == ("__debug__" : Str))=false:=by decide)
  (hcd:(x == ("__classdict__" : Str))=false:=by decide):PE X (.Name x pos) (Zme i):=ZkL hN hv hd hcd
end
theorem Zby{A B:Prop}(h:B):if false=true then A else B:=by
 rw[if_neg Bool.false_ne_true];exact h
theorem Zdb{A B:Prop}(h:A):if true=true then A else B:=by
 rw[if_pos rfl];exact h
theorem Zax{c A B:Prop}[Decidable c](h1:c->A)(h2 : ¬ c->B):if c then A else B:=by
 by_cases h:c
 ·rw[if_pos h];exact h1 h
 ·rw[if_neg h];exact h2 h
def Zg(H H':Hp):Prop := ∀b o,H b=some o->H' b=some o
theorem Zg.refl(H:Hp):Zg H H:=fun _ _ h=>h
theorem Zg.trans{H H1 H2:Hp}(a:Zg H H1)(b:Zg H1 H2):Zg H H2:=fun c o h=>b c o (a c o h)
theorem Zg.free{H H':Hp}(e:Zg H H'){l:Addr}(h:H' l=Option.none):H l=Option.none:=by
 cases q:H l with
 | none=>rfl
 | some o =>
  rw[e l o q] at h;cases h
theorem Zg.seq{K:PySem.W.Frag}{H H':Hp}{a:Addr}{xs:List V}(e:Zg H H')(h:SqL K H a xs):SqL K H' a xs:=by
 rcases h with(h|⟨o,h⟩)|h
 ·exact .inl (.inl (e _ _ h))
 ·exact .inl (.inr ⟨o,e _ _ h⟩)
 ·exact .inr h
theorem Zd7:bootBuiltins "list" = some (.type "list"):=by decide +kernel
theorem Zbf:bootBuiltins "tuple" = some (.type "tuple"):=by decide +kernel
theorem Zjl:bootBuiltins "str" = some (.type "str"):=by decide +kernel
theorem ZdT:bootBuiltins "int" = some (.type "int"):=by decide +kernel
theorem Zfx:bootBuiltins "bool" = some (.type "bool"):=by decide +kernel
theorem Zke:bootBuiltins "dict" = some (.type "dict"):=by decide +kernel
theorem Zjk:bootBuiltins "min" = some (.builtin "min"):=by decide +kernel
theorem ZS:bootBuiltins "isinstance" = some (.builtin "isinstance"):=by decide +kernel
section
variable{X:Cx}
theorem ZcX{x:Str}{n:String}{pos:Pos}(hg:Gl X x)(hm:X.mg x=none)(hv:bootBuiltins x=some (.type n))(hn:x ≠ "__name__" := by decide) (hd:(x == ("__debug__" : Str))=false:=by decide):PE X (.Name x pos) (tC (.ty n)) :=
 Zkf (v:=.ty n) hg hm hv rfl hn hd
theorem ZfB:Zbk X (.builtin "isinstance") (fun xs H Q=>∃x n t b,xs=[x,.ty n]/\TyOf X.K H x t/\PySem.W.kitOne X.K t (.type n)=some b/\Q (.bl b) H):=by
 intro pins s σ H xs us Q I r h;obtain⟨x,n,t,b,rfl,ty,e,q⟩:=h;obtain⟨u,v,rfl,rx,ry⟩:=Vals.two r;obtain rfl:v=Value.type n:=ry;exact Zh5 I rx ty e fun tk=>⟨.bl b,H,I.tok tk,rfl,q⟩
end
structure Has(P:Program)(w:World)(K:PySem.W.Frag)(mg:Str->Option Value)(base:Heap)(x:Str)(ps:List Str)(k:Nat)(sp:Sp):Prop where
 ex:∃(f:Addr)(fd:FuncData),FnOk P w K mg base CX0 k f fd ps sp/\Binds K fd ps []/\PySem.W.keepIn K (.ref f)=true/\mg x=some (.ref f)
section
variable{X:Cx}{x:Str}{ps:List Str}{j k:Nat}{sp:Sp}{e:Expr}{es:List Expr}{t:TA}{p pos:Pos}
theorem FnOk.room{P:Program}{w:World}{K:PySem.W.Frag}{mg:Str->Option Value}{base:Heap}{CX:CXT}{f:Addr}{fd:FuncData}(F:FnOk P w K mg base CX j f fd ps sp)(h:j<=k):FnOk P w K mg base CX k f fd ps sp :=
 ⟨F.len,fun A outer s H args us vs Q E hr=>F.run A outer s H args us vs Q E (hr.mono h)⟩
theorem Zaa(G:Has X.prog X.w X.K X.mg X.base x ps j sp)(hr:Room k X.A)(hg:Gl X x)(ha:PA X (e::es) t)(hk:j<=k:=by decide)(hdb:(x == ("__debug__" : Str))=false:=by decide)
  (he:starEach (e::es) X.env=(false,eval e X.env)::starEach es X.env:=by rfl) (hpl:(backTo pos (starEach es X.env)).any (·.1)=false:=by rfl) :
  PE X (.Call (.Name x p) (e::es) [] pos) (Zlr sp [] E0 t):=by
 obtain⟨f,fd,F,b,kp,m⟩:=G.ex;exact Zkh (F.room hk) hr hg m kp b .nil ZjC ha hdb he hpl
end
end L2
namespace HT
open PySem PyProof.Rows
section
variable{prog:Program}{w:World}{A:Around}{E:Value->Shared->Prop}{s:Shared}
theorem ZgK(n:Nat):Builtin.Slice.sliceAdjust none none (-1) (n:Int)=((n:Int)-1,-1):=by
 unfold Builtin.Slice.sliceAdjust;rfl
theorem ZgE(n:Nat):Builtin.Slice.slicePlaces ((n:Int)-1) (-1) (-1)=n:=by
 unfold Builtin.Slice.slicePlaces;have h1 : ¬ ((-1:Int) > 0):=by lia
 have h2:(-(-1:Int))=1:=rfl;simp only[h1,if_false,h2,Int.ediv_one]
 split <;> lia
theorem ZcW{sl:Addr}{vl vu vs:Value}{n:Nat}{Q:Int×Int×Nat->Shared->Prop}(hs:s.heap.IsSliceOf sl vl vu vs)(pl:IsPart vl none)(pu:IsPart vu none)(ps:IsPart vs (some (-1)))
  (h:Q ((n:Int)-1,-1,n) s):wpAny (model prog w) A (Builtin.Slice.sliceApplied (.ref sl) (pure (n:Int))) Q E s:=by
 obtain⟨os,hos,hcs,hds⟩:=id hs;unfold Builtin.Slice.sliceApplied Builtin.Slice.sliceFields;refine wpAny_bind (wpAny_bind (wpAny_field hos hds (x:=vl) rfl (wpAny_bind (wpAny_field hos hds (x:=vu) rfl (wpAny_bind (wpAny_field hos hds (x:=vs) rfl (wpAny_pure ?_)))))));refine wpAny_bind (Zbl ps ?_);show wpAny _ _ (if((-1:Int) == 0)=true then _ else _) _ _ s
 rw[if_neg (by decide)];refine wpAny_bind (Zbl pl (wpAny_bind (Zbl pu (wpAny_bind (wpAny_pure ?_)))));show wpAny _ _ (match Builtin.Slice.sliceAdjust none none (-1) (n:Int) with|(lo,hi)=>pure (lo,(-1:Int),Builtin.Slice.slicePlaces lo hi (-1))) _ _ s
 rw[ZgK n];show wpAny _ _ (pure ((n:Int)-1,(-1:Int),Builtin.Slice.slicePlaces ((n:Int)-1) (-1) (-1))) _ _ s;rw[ZgE];exact wpAny_pure h
theorem Zf8{α : Type}(l:List α):∀k:Nat,k<=l.length->((List.range k).filterMap fun(m:Nat)=>l.toArray[((l.length:Int)-1+(m:Int)*(-1)).toNat]?)=l.reverse.take k
 | 0,_=>by simp
 | k+1,hk=>by
  rw[List.range_succ,List.filterMap_append,Zf8 l k (by lia),List.take_succ]
  congr 1
  have e:((l.length:Int)-1+(k:Int)*(-1)).toNat=l.length-1-k:=by lia
  simp only[List.filterMap_cons,List.filterMap_nil,e,List.getElem?_toArray];rw[List.getElem?_reverse (by lia)];cases l[l.length-1-k]? <;> rfl
theorem ZcK{t sl:Addr}{its:List Value}{vl vu vs:Value}{Q:Value->Shared->Prop}(ht:IsTup s.heap t its.toArray)(hs:s.heap.IsSliceOf sl vl vu vs)(pl:IsPart vl none)(pu:IsPart vu none)(ps:IsPart vs (some (-1)))
  (h:Q (.ref s.heap.objs.size) { s with heap:=s.heap.push { cls:=.type "tuple",data:=.seq its.reverse.toArray } })
  (hsz:its.length<=sizeLine):wpAny (model prog w) A (getItem (.ref t) (.ref sl)) Q E s:=by
 have hok:sizeOk (.seq its.reverse.toArray):=by
  show its.reverse.toArray.size<=sizeLine;rw[List.size_toArray,List.length_reverse];exact hsz
 obtain⟨os,hos,hcs,hds⟩:=id hs;have hTs:s.TypeIs (.ref sl) "slice" := ⟨os,hos,hcs⟩;unfold getItem
 try with_reducible refine wpAny_holding ?_
 first|refine wpAny_bind (wpAny_pure ?_)|skip
 refine wpAny_bind (wpAny_sequenceKey ht.typeIs (by decide) ?_);refine wpAny_bind (wpAny_callSpecial?_slot (name:=Str.ofString "__getitem__") ht.typeIs PyProof.Rows.slot_tuple_getitem
  (wpAny_call_entry PyProof.Rows.slot_tuple_getitem ht.typeIs entry_tuple_getitem ?_ (args_tuple_getitem _ _)))
 show wpAny _ _ (Builtin.Tuple.tupleItemsOf (.ref t) >>= _) _ _ s;refine wpAny_bind (tupleItemsOf_ ht ?_);refine wpAny_bind (wpAny_typeOf hTs ?_);rw[if_pos (by decide)];refine wpAny_bind (ZcW (n:=its.toArray.size) hs pl pu ps ?_);have hno : ¬ (((its.toArray.size:Int)-1 == 0&&(-1:Int) == 1&&its.toArray.size == its.toArray.size)=true):=by
  intro q;rw[Bool.and_eq_true,Bool.and_eq_true] at q;exact absurd q.1.2 (by decide)
 show wpAny _ _ (if((its.toArray.size:Int)-1 == 0&&(-1:Int) == 1&&its.toArray.size == its.toArray.size)=true then _ else _) _ _ s
 have hp:=Zf8 its its.length (Nat.le_refl _);rw[List.take_of_length_le (by simp)] at hp;rw[if_neg hno];simp only[List.size_toArray];rw[hp]
 first
  | exact wpAny_bind (m:=Builtin.Tuple.tupleExact _) (wpAny_newObj_type (wpAny_pure ⟨_,rfl,wpAny_pure h⟩) hok)
  | exact wpAny_bind (m:=Builtin.Tuple.tupleExact _) (wpAny_newObj_type (wpAny_bind (wpAny_pure (wpAny_pure ⟨_,rfl,wpAny_pure h⟩))) hok)
  | exact wpAny_bind (wpAny_bind (m:=Builtin.Tuple.tupleExact _) (wpAny_newObj_type (wpAny_pure (wpAny_pure ⟨_,rfl,wpAny_pure h⟩)) hok))
  | exact wpAny_bind (wpAny_bind (m:=Builtin.Tuple.tupleExact _) (wpAny_newObj_type (wpAny_pure ⟨_,rfl,wpAny_pure h⟩) hok))
theorem Zb2{t sl:Addr}{items:Array Value}{vl vu:Value}{lo hi:Option Int}{Q:Value->Shared->Prop}(ht:IsTup s.heap t items)(hs:s.heap.IsSliceOf sl vl vu .none)(pl:IsPart vl lo)(pu:IsPart vu hi)
  (h1:sIx items.size 0 lo=0) (h2:sIx items.size items.size hi=items.size) (h:Q (.ref t) s):wpAny (model prog w) A (getItem (.ref t) (.ref sl)) Q E s:=by
 obtain⟨os,hos,hcs,hds⟩:=id hs;have hTs:s.TypeIs (.ref sl) "slice" := ⟨os,hos,hcs⟩;unfold getItem
 try with_reducible refine wpAny_holding ?_
 first|refine wpAny_bind (wpAny_pure ?_)|skip
 refine wpAny_bind (wpAny_sequenceKey ht.typeIs (by decide) ?_);refine wpAny_bind (wpAny_callSpecial?_slot (name:=Str.ofString "__getitem__") ht.typeIs PyProof.Rows.slot_tuple_getitem
  (wpAny_call_entry PyProof.Rows.slot_tuple_getitem ht.typeIs entry_tuple_getitem ?_ (args_tuple_getitem _ _)))
 show wpAny _ _ (Builtin.Tuple.tupleItemsOf (.ref t) >>= _) _ _ s;refine wpAny_bind (tupleItemsOf_ ht ?_);refine wpAny_bind (wpAny_typeOf hTs ?_);rw[if_pos (by decide)];refine wpAny_bind (Zbx hs pl pu ?_);rw[h1,h2];have hyes:((((0:Nat):Int) == 0&&(1:Int) == 1&&(items.size-0) == items.size)=true):=by simp
 show wpAny _ _ (if(((0:Nat):Int) == 0&&(1:Int) == 1&&(items.size-0) == items.size)=true then _ else _) _ _ s
 rw[if_pos hyes];refine wpAny_bind (m:=Builtin.Tuple.tupleIsExact (.ref t)) ?_;unfold Builtin.Tuple.tupleIsExact;refine wpAny_bind (wpAny_typeOf ht.typeIs (wpAny_pure ?_));show wpAny _ _ (if((Value.type "tuple") ==.type "tuple")=true then _ else _) _ _ s
 rw[if_pos (by decide)];refine wpAny_bind (wpAny_rule ?_)
 first
  | exact wpAny_pure ⟨_,rfl,wpAny_pure h⟩
  | exact wpAny_bind (wpAny_pure (wpAny_pure ⟨_,rfl,wpAny_pure h⟩))
end
end HT
namespace L2
open PySem PySem.Spec PyProof.Rows
mutual
inductive Dp(K:PySem.W.Frag)(H:Hp):V->PyData->Prop
 | non:Dp K H .non .none
 | bl (b:Bool):Dp K H (.bl b) (.bool b)
 | int (i:Int):Dp K H (.int i) (.int i)
 | str (x:Str):Dp K H (.str x) (.str x)
 | lst {a:Addr} {xs:List V} {ds:List PyData}:SqL K H a xs->DpAll K H xs ds->Dp K H (.ref a) (.list ds)
 | tup {a:Addr} {xs:List V} {ds:List PyData}:SqT K H a xs->DpAll K H xs ds->Dp K H (.ref a) (.tuple ds)
inductive DpAll(K:PySem.W.Frag)(H:Hp):List V->List PyData->Prop
 | nil:DpAll K H [] []
 | cons {v:V} {vs:List V} {d:PyData} {ds:List PyData}:Dp K H v d->DpAll K H vs ds->DpAll K H (v::vs) (d::ds)
end
section
variable{X:Cx}{pins:List (Addr×Obj)}{σ : St}{H:Hp}{s:Shared}
mutual
theorem Dp.reads(I:Inv X pins σ H s):∀{v:V}{d:PyData}{u:Value},Dp X.K H v d->RelV v u->∃as,Reads s.heap u d as
 | _,_,u,.non,r=>by
  obtain rfl:u=Value.none:=r;exact⟨_,.none⟩
 | _,_,u,.bl b,r=>by
  obtain rfl:u=Value.bool b:=r;exact⟨_,.bool b⟩
 | _,_,_,.int i,⟨t,e⟩=>by
  subst e;exact⟨_,.int i t⟩
 | _,_,_,.str x,⟨t,e⟩=>by
  subst e;exact⟨_,.str x t⟩
 | _,_,u,@Dp.lst _ _ a xs ds hq hall,r=>by
  obtain rfl:u=Value.ref a:=r;obtain⟨its,rv,⟨o,n,e,hc,_,hd⟩,_⟩:=I.list hq;obtain⟨as,ha⟩:=DpAll.reads I hall rv;exact⟨_,.list e hc hd (by simpa using ha)⟩
 | _,_,u,@Dp.tup _ _ a xs ds hq hall,r=>by
  obtain rfl:u=Value.ref a:=r;obtain⟨its,rv,⟨o,e,hc,n,hd⟩,_⟩:=I.tuple hq;obtain⟨as,ha⟩:=DpAll.reads I hall rv;exact⟨_,.tuple e hc hd (by simpa using ha)⟩
theorem DpAll.reads(I:Inv X pins σ H s):∀{vs:List V}{ds:List PyData}{us:List Value},DpAll X.K H vs ds->Vals vs us->∃as,ReadsAll s.heap us ds as
 | _,_,_,.nil,.nil=>⟨_,.nil⟩
 | _,_,_,.cons h t,.cons r rs=>by
  obtain⟨as,ha⟩:=Dp.reads I h r;obtain⟨bs,hb⟩:=DpAll.reads I t rs;exact⟨_,.cons ha hb⟩
end
end
section
variable{X:Cx}
def Zmo(K:PySem.W.Frag)(neg:Bool):R2:=fun x y H Q=>∃d e,Dp K H x d/\Dp K H y e/\d.canLay0=true/\e.canLay0=true/\min d.depth e.depth<=200/\Q (.bl (if neg then !PyData.eqv d e else PyData.eqv d e)) H
theorem ZkR(hu:X.A.units+200<cLine):OpR X (compareOp .Eq) (Zmo X.K false):=by
 intro pins s σ H x y v u Q I rx ry h;obtain⟨d,e,hx,hy,h1,h2,hd,q⟩:=h;obtain⟨as,ra⟩:=hx.reads I rx;obtain⟨bs,rb⟩:=hy.reads I ry;exact PySem.SeqAt.compareEq_reads ra rb h1 h2 (by lia) ⟨.bl _,H,I,rfl,q⟩
theorem Zkb{A:Around}{k:Nat}(hr:Room k A):A.units+200<cLine:=by
 have:=hr.un;lia
end
section
variable{X:Cx}{e:Expr}{te:TE}{pos p2 p3 p4:Pos}{j:Nat}
def Zl3(K:PySem.W.Frag):V->Option Int->Option Int->Hp->VK->Prop:=fun x lo hi H Q=>∃a xs,x=.ref a/\SqT K H a xs /\
 ((HT.sIx xs.length 0 lo=0/\HT.sIx xs.length xs.length hi=xs.length)->Q (.ref a) H)/\∀p,H p=none->Q (.ref p) (upd H p (.tup (Zd9 xs lo hi)))
theorem ZjD:SlR X (Zl3 X.K):=by
 intro pins s σ H x v vl vu lo hi sl Q I rx hs pl pu h;obtain⟨a,xs,rfl,hx,q1,q2⟩:=h;by_cases c:HT.sIx xs.length 0 lo=0/\HT.sIx xs.length xs.length hi=xs.length
 ·cases rx;obtain⟨its,r,ht,hz⟩:=I.tuple hx;have hlen:its.toArray.size=xs.length:=by rw[List.size_toArray];exact r.length.symm
  refine⟨"tuple",_,PyProof.Rows.slot_tuple_getitem.lookup,ht.typeIs,?_⟩;exact HT.Zb2 ht hs pl pu (by rw[hlen];exact c.1) (by rw[hlen];exact c.2) ⟨.ref a,H,I,rfl,q1 c⟩
 ·exact Zln pins s σ H (.ref a) v vl vu lo hi sl Q I rx hs pl pu ⟨a,xs,rfl,hx,c,q2⟩
end
def TK(H H':Hp):Prop := ∀b xs,H b=some (.tup xs)->H' b=some (.tup xs)
theorem TK.trans{H H1 H2:Hp}(a:TK H H1)(b:TK H1 H2):TK H H2:=fun c xs h=>b c xs (a c xs h)
theorem TK.lst{H:Hp}{p:Addr}{xs:List V}{o:HO}(h:H p=some (.lst xs)):TK H (upd H p o):=fun b ys q=>by
 by_cases e:b=p
 ·subst e;rw[h] at q;cases q
 ·rw[Zu e];exact q
theorem Zg.tk{H H':Hp}(h:Zg H H'):TK H H':=fun b xs q=>h b _ q
theorem Zg.new{H:Hp}{p:Addr}{o:HO}(h:H p=none):Zg H (upd H p o):=fun b u q=>by
 rw[Zu (Zq q h)];exact q
theorem Zg.upd_new{H H':Hp}{p:Addr}{o:HO}(h:Zg H H')(hp:H p=none):Zg H (upd H' p o):=fun b u q=>by
 rw[Zu (Zq q hp)];exact h b u q
theorem ZaH{H:Hp}{p b:Addr}{o:HO}(h:upd H p o b=none):b≠p/\H b=none:=by
 by_cases e:b=p
 ·subst e;rw[Zb] at h;cases h
 ·rw[Zu e] at h;exact⟨e,h⟩
theorem Paired.app{α β : Type}{F : α -> β -> Prop}:∀{l₁ k₁ : List α}{l₂ k₂ : List β},Paired F l₁ l₂ -> Paired F k₁ k₂ -> Paired F (l₁ ++ k₁) (l₂ ++ k₂)
 | _,_,_,_,.nil,s=>s
 | _,_,_,_,.cons r t,s=>.cons r (Paired.app t s)
end L2
namespace Fg
open PySem L2 FgM
theorem ZdS{α β : Type}{F : α -> β -> Prop}:∀{l₁ : List α}{l₂ : List β},Paired F l₁ l₂ -> Paired F l₁.reverse l₂.reverse
 | _,_,.nil=>.nil
 | _,_,.cons r t=>by
  rw[List.reverse_cons,List.reverse_cons];exact Paired.app (ZdS t) (.cons r .nil)
theorem Zj0(x y:Str):(x++y).cps.toList=x.cps.toList++y.cps.toList:=by
 show(x.cps++y.cps).toList=_;simp
theorem Zkk{ns:List Int}{k:Int}(h0:0<=k)(h:k<(ns.length:Int)):∃v:Int,atI (ns.map V.int) k=some (.int v):=by
 obtain⟨n,rfl⟩:=Int.eq_ofNat_of_zero_le h0;have hn:n<ns.length:=by lia
 exact⟨ns[n],Zad (by rw[List.getElem?_map,List.getElem?_eq_getElem hn];rfl)⟩
def Ziv(K:PySem.W.Frag):Sp:=fun vs H Q _=>∃(a:Addr)(ns:List Int),vs=[.ref a]/\SqL K H a (ns.map V.int)/\ns.length<=63/\∀H',Q (.bl true) H'
theorem Z9{n:Nat}(h:n<=100000):n<=sizeLine:=Nat.le_trans h (by decide)
theorem Z4{n:Nat}(h:n<=100000):n<sizeLine:=Nat.lt_of_le_of_lt h (by decide)
theorem Zec(x y:Str):(x++y).length=x.length+y.length:=by
 show(x.cps++y.cps).size=_;rw[Array.size_append];rfl
theorem ZiQ(xs:List V)(n:Nat):Zd9 xs (some (n:Int)) none=xs.drop n:=by
 unfold Zd9;rw[HT.Zhv,HT.ZfM];rw[List.take_of_length_le (by rw[List.length_drop];exact Nat.le_refl _)];by_cases h:n<=xs.length
 ·rw[Nat.min_eq_left h]
 ·rw[Nat.min_eq_right (by lia),List.drop_length,List.drop_eq_nil_of_le (by lia)]
theorem Zc5(xs:List V)(n:Nat):Zd9 xs none (some (n:Int))=xs.take n:=by
 unfold Zd9;rw[HT.Zhv,HT.ZfM,List.drop_zero,Nat.sub_zero];by_cases h:n<=xs.length
 ·rw[Nat.min_eq_left h]
 ·rw[Nat.min_eq_right (by lia),List.take_length,List.take_of_length_le (by lia)]
end Fg
namespace L2
open PySem PySem.Spec PyProof.Rows
section
variable{X:Cx}
theorem ZhI(hu:X.A.units+200<cLine):OpR X (compareOp .Eq) (fun x y H Q=>∃a b xs,x=.ref a/\y=.ref b/\SqL X.K H a xs/\SqL X.K H b []/\Q (.bl xs.isEmpty) H):=by
 intro pins s σ H x y v u Q I rx ry h;obtain⟨a,b,xs,rfl,rfl,ha,hb,q⟩:=h;cases xs with
 | nil=>exact ZkR hu pins s σ H _ _ v u Q I rx ry ⟨.list [],.list [],.lst ha .nil,.lst hb .nil,rfl,rfl,by decide,q⟩
 | cons x xs =>
  cases rx;cases ry;obtain⟨its,r,pl,_⟩:=I.list ha;obtain⟨its2,r2,pl2,_⟩:=I.list hb;have l1:=r.length;have l2:=r2.length;refine PySem.SeqAt.RcAt.lists_lengths pl.isList pl2.isList ?_ (by lia) X.prog X.w X.xe _ ⟨.bl _,H,I,rfl,q⟩;rw[List.size_toArray,List.size_toArray,<- l1,<- l2];rfl
end
end L2
namespace Fg
open PySem L2 FgM
def cs(x:Str):List Nat:=x.cps.toList
theorem ZeZ(x y:Str):cs (x++y)=cs x++cs y:=Zj0 x y
end Fg
namespace L2
open PySem PySem.Spec PyProof.Rows
section
variable{X:Cx}
theorem Zjm:SlR X (fun x lo hi H Q=>∃z,x=.str z/\z.length<=sizeLine/\Q (.str (PySem.StrLaws.sliceText z lo hi)) H):=by
 intro pins s σ H x v vl vu lo hi sl Q I rx hs pl pu h;obtain⟨z,rfl,hz,q⟩:=h;obtain⟨t,rfl⟩:=rx;refine⟨"str",_,F.slot_str_getitem.lookup,typeIs_str s z t,?_⟩;have key:∀l u:Option (Int×Tok),s.heap.IsSlice sl l u none->l.map (·.1)=lo->u.map (·.1)=hi->wpAny (model X.prog X.w) X.A (getItem (.str z t) (.ref sl)) (EP X pins σ Q) X.xe s:=by
  intro l u hsl el eu;refine wpAny_getItem_str_slice hsl rfl ?_;unfold sliceMade slicePicked;rw[el,eu];unfold PySem.StrLaws.sliceText at q;by_cases c:((1:Int) == 1&&(Builtin.Str.strSliceIndices lo hi 1 z.length).length == z.length)=true
  ·rw[if_pos c] at q;rw[if_pos (show((((none:Option (Int×Tok)).map (·.1)).getD 1 == 1)&&(Builtin.Str.strSliceIndices lo hi (((none:Option (Int×Tok)).map (·.1)).getD 1) z.length).length == z.length)=true from c)];exact⟨.str z,H,I,⟨_,rfl⟩,q⟩
  ·rw[if_neg c] at q;rw[if_neg (show ¬ ((((none:Option (Int×Tok)).map (·.1)).getD 1 == 1)&&(Builtin.Str.strSliceIndices lo hi (((none:Option (Int×Tok)).map (·.1)).getD 1) z.length).length == z.length)=true from c)];refine⟨?_,.str _,H,I.tok _,⟨_,rfl⟩,q⟩;show(((Builtin.Str.strSliceIndices lo hi 1 z.length).filterMap (z.cps[·]?)).toArray).size<=sizeLine;rw[List.size_toArray];refine Nat.le_trans (List.length_filterMap_le _ _) (Nat.le_trans ?_ hz);refine sliceRange_length_le _ _ _ _ (fun _=>?_) (fun z=>absurd (by decide) z);cases lo with
   | none =>
    cases hi with
    | none=>exact⟨Int.le_refl 0,Int.le_refl _⟩
    | some j=>exact⟨Int.le_refl 0,by simp only[show(1:Int) > 0 by decide,if_true];lia⟩
   | some i =>
    cases hi with
    | none=>exact⟨by simp only[show(1:Int) > 0 by decide,if_true];lia,Int.le_refl _⟩
    | some j=>exact⟨by simp only[show(1:Int) > 0 by decide,if_true];lia,by simp only[show(1:Int) > 0 by decide,if_true];lia⟩
 cases pl with
 | none =>
  cases pu with
  | none=>exact key none none hs rfl rfl
  | int j tj=>exact key none (some (j,tj)) hs rfl rfl
 | int i ti =>
  cases pu with
  | none=>exact key (some (i,ti)) none hs rfl rfl
  | int j tj=>exact key (some (i,ti)) (some (j,tj)) hs rfl rfl
end
section
variable{prog:Program}{w:World}{A:Around}{s:Shared}{R:Result->Shared->Prop}
abbrev no0:Value->Shared->Prop:=fun _ _=>False
theorem ZgQ{elt target iter:Expr}{scope:Scope}{pos:Pos}{it acc:Value}{env:Env}(I:Nat->Shared->Prop)
  (turn:∀n s,I n s->wpAny (model prog w) A (pyNext it) (fun r s1=>match r with
   | none=>R (.ok .next) s1
   | some v=>wpAny (model prog w) A (letOwnedTupleGo target it v) (fun _ s2=>wpAny (model prog w) A (assign target env v) (fun _ s3=>wpAny (model prog w) A (eval elt env) (fun x s4 =>
     wpAny (model prog w) A (call (.builtin "list.append") [acc,x]) (fun _ s5=>∃m,m<n/\I m s5) no0 s4) no0 s3) no0 s2) no0 s1) no0 s)
  (n:Nat) (h:I n s):codeAny (model prog w) A (.compLoop (.ListComp elt [⟨target,iter,[],0⟩] scope pos) 0 it acc env) R s:=by
 refine codeAny_loop rfl I (fun n s hI=>?_) n h;show wpAny _ _ ((compTurn (.ListComp elt [⟨target,iter,[],0⟩] scope pos) 0 it acc env).onRaise (fun x=>do noteFrame x env;theTreesLotGoes x)) _ _ s;refine wpAny_noted ?_;rw[compTurn_list1];refine wpAny_bind (wpAny_standAt (wpAny_bind (wpAny_mono (turn n s hI) (fun r s1 h1=>?_) fun _ _ h'=>h'.elim)));cases r with
 | none=>exact wpAny_pure h1
 | some v =>
  refine wpAny_bind (wpAny_mono h1 (fun _ s2 h2=>?_) fun _ _ h'=>h'.elim);refine wpAny_bind (wpAny_mono h2 (fun _ s3 h3=>?_) fun _ _ h'=>h'.elim);refine wpAny_bind (wpAny_bind (wpAny_mono h3 (fun x s4 h4=>?_) fun _ _ h'=>h'.elim));exact wpAny_bind (wpAny_mono h4 (fun _ s5 h5=>wpAny_pure (wpAny_pure ⟨rfl,h5⟩)) fun _ _ h'=>h'.elim)
end
def Zbm(X:Cx)(N:List Str)(scope:Scope)(cl:List (Str×Addr))(C:Addr)(fp:List Addr)(s:Shared)(H:Hp):Cx where
 prog:=X.prog
 w:=X.w
 K:=X.K
 mg:=X.mg
 base:=X.base
 A:=X.A
 N:=N
 s₀ := s
 H₀ := H
 env:=compEnvC scope cl C X.env
 outer:=X.stack
 stack:=X.stack
 ex:=fp
 fn:=fun _=>false
 calm:=X.calm
 pn:=[]
 xe:=no0
section
variable{X:Cx}{pins:List (Addr×Obj)}{σ : St}{H:Hp}{s:Shared}
theorem Zhz{N:List Str}{scope:Scope}{cl:List (Str×Addr)}{C:Addr}{fp:List Addr}(I:Inv X pins σ H s)(hk:scope.kind=.function)(hC:s.heap.objs.size<=C)(hcl:∀x c,cl.lookup x=some c->X.env.cells.lookup x=some c)
  (hhas:∀x,((compEnvC scope cl C X.env).kindOf x=some .cell\/(compEnvC scope cl C X.env).kindOf x=some .free)->∃c,cl.lookup x=some c)
  (hf:∀b∈fp,Zcx X pins H b) (hlt:∀b∈fp,b<s.heap.objs.size):(Zbm X N scope cl C fp s H).Ok where
 mod:=I.ok.mod
 kind:=hk
 glob:=I.ok.glob
 blt:=I.ok.blt
 above:=hC
 inj:=fun x y c e1 e2=>I.ok.inj x y c (hcl x c e1) (hcl y c e2)
 has:=hhas
 cab:=fun x c e=>by cases e
 hd:=I.ok.hd
 frames:=I.ok.frames
 stk:=.inl rfl
 exf:=fun b hb=>⟨fun z=>absurd (Nat.lt_of_lt_of_le (hlt b hb) hC) (by rw[show b=C from z];exact Nat.lt_irrefl _),fun x c e=>(hf b hb).2.2.2.2.1 x c (hcl x c e)⟩
 bs:=fun b o e=>⟨(I.bs b o e).1,(I.bs b o e).2⟩
 bsz:=Nat.le_trans I.ok.bsz I.sz
 noex:=fun b o e hb=>by
  rcases(hf b hb).2.2.2.1 with z|z
  ·exact I.ok.noex b o e z
  ·exact absurd (Nat.lt_of_lt_of_le (Heap.lt_size e) (Nat.le_trans I.ok.bsz z)) (Nat.lt_irrefl _)
 exfs:=fun b hb hm=>by
  rcases List.mem_cons.mp (I.stkSub b hm) with z|z
  ·exact(hf b hb).2.1 z
  ·exact(hf b hb).2.2.1 z
 funs:=I.stack
 frf:=I.stkFree
def capσ(σ : St)(k:Nat)(cap:List (Str×Nat)):St:=List.replicate k none++cap.map fun p=>(σ[p.2]?).getD none
theorem ZeU{scope:Scope}{cl:List (Str×Addr)}{fp:List Addr}{tn:List Str}{cap:List (Str×Nat)}{h1:Heap}(I:Inv X pins σ H s)(hk:scope.kind=.function)(hcl:∀x c,cl.lookup x=some c->X.env.cells.lookup x=some c)
  (hhas:∀x,((compEnvC scope cl s.heap.objs.size X.env).kindOf x=some .cell\/(compEnvC scope cl s.heap.objs.size X.env).kindOf x=some .free)->∃c,cl.lookup x=some c)
  (hf:∀b∈fp,Zcx X pins H b) (hlt:∀b∈fp,b<s.heap.objs.size)
  (hcap:∀p∈cap,X.N[p.2]?= some p.1/\X.env.scope.names.lookup p.1=some .cell/\((compEnvC scope cl s.heap.objs.size X.env).kindOf p.1=some .cell\/(compEnvC scope cl s.heap.objs.size X.env).kindOf p.1=some .free))
  (hns:h1.Ns s.heap.objs.size (fun _=>none)) (hkp:∀b o,s.heap.get? b=some o->h1.get? b=some o) :
  Inv (Zbm X (tn++cap.map (·.1)) scope cl s.heap.objs.size fp s H) [] (capσ σ tn.length cap) H { s with heap:=h1 } where
 ok:=Zhz I hk (Nat.le_refl _) hcl hhas hf hlt
 os:=rfl
 bare:=I.bare
 base:=Un.kept hkp
 loc:=by
  refine⟨fun _=>none,hns,fun i x v e1 e2 hv=>?_⟩;unfold capσ at e2;by_cases hi:i<tn.length
  ·rw[List.getElem?_append_left (by rw[List.length_replicate];exact hi),List.getElem?_replicate,if_pos hi] at e2;cases e2
  ·have hN:(cap.map (·.1))[i-tn.length]?= some x:=by
    have:(tn++cap.map (·.1))[i]?= some x:=e1;rw[List.getElem?_append_right (by lia)] at this;exact this
   rw[List.getElem?_append_right (by rw[List.length_replicate];lia),List.length_replicate,List.getElem?_map] at e2;rw[List.getElem?_map] at hN;cases hp:cap[i-tn.length]? with
   | none=>rw[hp] at hN;cases hN
   | some p =>
    rw[hp] at hN e2;have hx:p.1=x:=Option.some.inj hN;have he:(σ[p.2]?).getD none=some v:=Option.some.inj e2;obtain⟨c1,c2,c3⟩:=hcap p (List.mem_of_getElem? hp);subst hx;have hs : σ[p.2]?= some (some v):=by
     cases q : σ[p.2]? with
     | none=>rw[q] at he;cases he
     | some z=>rw[q] at he;rw[show z=some v from he]
    obtain⟨m,hn,hl⟩:=I.loc;obtain⟨u,r,l⟩:=hl p.2 p.1 v c1 hs (.inr (.inl c2));refine⟨u,r,.inr ⟨c3,?_⟩⟩;obtain⟨c,hc⟩:=hhas p.1 c3;refine⟨c,hc,?_⟩;rcases l with⟨l1,_⟩|⟨_,c',l2,o,ho,hd⟩
    ·have:X.env.kindOf p.1=some .cell:=c2;rw[this] at l1;cases l1
    ·have:c=c':=Option.some.inj ((hcl p.1 c hc).symm.trans l2);subst this;exact⟨o,hkp _ _ ho,hd⟩
 cell:=fun x c e=>by
  obtain⟨v,o,ho,hd⟩:=I.cell x c (hcl x c e);exact⟨v,o,hkp _ _ ho,hd⟩
 free:=I.hok.fresh (Nat.le_refl _)
 freeC:=fun x c e=>I.freeC x c (hcl x c e)
 pin:=fun p hp=>by cases hp
 hok:=I.hok.kept hkp
 len:=by
  unfold capσ;show _=(tn++cap.map (·.1)).length;rw[List.length_append,List.length_append,List.length_replicate,List.length_map,List.length_map]
end
def Zlj(wi:TI)(k:Nat)(cap:List (Str×Nat))(g:TG)(te:TE):TE:=fun σ H Q=>wi σ H fun J H1=>∀p,H1 p=none->∃W:Nat->Nat->List V->St->Hp->Prop,(∃m,W 0 m [] (capσ σ k cap) (upd H1 p (.lst []))) /\
 ∀i m ys σc H2,W i m ys σc H2->H2 p=some (.lst ys)/\((J.stop i H2/\Q (.ref p) H2)\/(J.go i H2/\∀x H3,J.yld i H2 x H3->g x σc H3 fun σ3 H4=>te σ3 H4 fun v H5 =>
  H5 p=some (.lst ys)/\ys.length<sizeLine/\∃m',m'<m/\W (i+1) m' (ys ++ [v]) σ3 (upd H5 p (.lst (ys ++ [v])))))
section
variable{X:Cx}{elt iter tg:Expr}{scope:Scope}{pos:Pos}{wi:TI}{g:TG}{te:TE}{cl:List (Str×Addr)}
theorem ZdR{pins:List (Addr×Obj)}{σ : St}{H2:Hp}{s2:Shared}{it:Addr}{fp:List Addr}{tnn:Nat->Heap->Prop}{J:It}{R:Addr->Hp->Prop}{use:Option (Value->Sem Unit)}{Qp:Value->Shared->Prop}(tn:List Str)(cap:List (Str×Nat))(hg:∀C fp s H,PG (Zbm X (tn++cap.map (·.1)) scope cl C fp s H) tg g)(he:∀C fp s H,PE (Zbm X (tn++cap.map (·.1)) scope cl C fp s H) elt te)(hc:X.calm=true)(hcell:∀y∈scope.names,y.2 ≠ .cell)(hk:scope.kind=.function)(hcl:∀x c,cl.lookup x=some c->X.env.cells.lookup x=some c)(hhas:∀C x,((compEnvC scope cl C X.env).kindOf x=some .cell\/(compEnvC scope cl C X.env).kindOf x=some .free)->∃c,cl.lookup x=some c)(hcap:∀C,∀p∈cap,X.N[p.2]?= some p.1/\X.env.scope.names.lookup p.1=some .cell/\((compEnvC scope cl C X.env).kindOf p.1=some .cell\/(compEnvC scope cl C X.env).kindOf p.1=some .free))
  (I2:Inv X pins σ H2 s2) (T:Turn X.prog X.w X.K tg J fp it tnn) (st2:tnn 0 s2.heap) (f2:∀b∈fp,Zcx X pins H2 b) (q2:∀p,H2 p=none->∃W:Nat->Nat->List V->St->Hp->Prop,(∃m,W 0 m [] (capσ σ tn.length cap) (upd H2 p (.lst []))) /\
 ∀i m ys σc H2,W i m ys σc H2->H2 p=some (.lst ys)/\((J.stop i H2/\R p H2)\/(J.go i H2/\∀x H3,J.yld i H2 x H3->g x σc H3 fun σ3 H4=>te σ3 H4 fun v H5=>H5 p=some (.lst ys)/\ys.length<sizeLine/\∃m',m'<m/\W (i+1) m' (ys ++ [v]) σ3 (upd H5 p (.lst (ys ++ [v]))))))
  (hfin:∀(s3:Shared)(H3:Hp),Inv X pins σ H3 s3->(∀b∈fp,Zcx X pins H3 b)->∀(acc:Addr)(σ6:St)(H6:Hp)(s6:Shared),Inv (Zbm X (tn++cap.map (·.1)) scope cl s3.heap.objs.size fp s3 H3) [] σ6 H6 s6->R acc H6->compPost (model X.prog X.w) X.A X.xe use Qp (.ref acc) s3.heap.objs.size (.ok .next) s6) :
  wpAny (model X.prog X.w) X.A (newList []) (fun acc s₃=>wpAny (model X.prog X.w) X.A (newFunctionEnv scope X.env.globals cl [] X.env.qual none Value.none (some X.env)) (fun cenv s₄=>codeAny (model X.prog X.w) X.A (Code.compStart (.ListComp elt [⟨tg,iter,[],0⟩] scope pos) 0 (Value.ref it) acc { cenv with scope:=relabel scope X.env }) (compPost (model X.prog X.w) X.A X.xe use Qp acc cenv.locals) s₄) X.xe s₃) X.xe s2:=by
 have fresh:H2 s2.heap.objs.size=none:=I2.fresh;obtain⟨W,⟨m0,w0⟩,turn⟩:=q2 s2.heap.objs.size fresh;have lt2:∀b∈fp,b<s2.heap.objs.size:=fun b hb=>by
  obtain⟨o,ho,_⟩:=T.obj _ _ st2 b hb;exact Heap.lt_size ho
 have I3:Inv X pins σ (upd H2 s2.heap.objs.size (.lst [])) { s2 with heap:=s2.heap.push { cls:=.type "list",data:=.seq ([]:List Value).toArray } }:=I2.lnew (its:=[]) (t':=s2.toks) .nil (Nat.zero_le _);refine wpAny_newObj_type (wpAny_newFunctionEnv hcell (by intro y hy;simp at hy) (fun h1 hns1 hsb1=>?_) hk);dsimp only at hns1 hsb1 ⊢;generalize hS3:({ s2 with heap:=s2.heap.push { cls:=.type "list",dict:=none,data:=.seq ([]:List Value).toArray } }:Shared)=s3 at I3;have hh3:s2.heap.push { cls:=.type "list",dict:=none,data:=.seq ([]:List Value).toArray }=s3.heap:=by rw[<- hS3]
 rw[hh3] at hns1 hsb1 ⊢;have sz3:s3.heap.objs.size=s2.heap.objs.size+1:=by rw[<- hh3,Heap.size_push]
 have lt3:∀b∈fp,b<s3.heap.objs.size:=fun b hb=>Nat.lt_of_lt_of_le (lt2 b hb) (by rw[sz3];exact Nat.le_succ _);have f3:∀b∈fp,Zcx X pins (upd H2 s2.heap.objs.size (.lst [])) b:=fun b hb=>⟨by rw[Zu (Nat.ne_of_lt (lt2 b hb))];exact(f2 b hb).1,(f2 b hb).2⟩;have keep3:∀b o,s3.heap.get? b=some o->h1.get? b=some o:=fun b o q=>hsb1.extBut b o (Nat.ne_of_lt (Heap.lt_size q)) (Heap.get?_push_of_some _ q);have st3:tnn 0 h1:=T.keep _ _ _ st2 fun b hb o q=>keep3 b o (by rw[<- hh3];exact Heap.get?_push_of_some _ q);have I4:=(ZeU (tn:=tn) I3 hk hcl (hhas _) f3 lt3 (hcap _) hns1 keep3).tok (s2.toks+([]:List (Str×Value)).length);have loop:codeAny (model X.prog X.w) X.A (.compLoop (.ListComp elt [⟨tg,iter,[],0⟩] scope pos) 0 (.ref it) (.ref s2.heap.objs.size) (compEnvC scope cl s3.heap.objs.size X.env))
   (compPost (model X.prog X.w) X.A X.xe use Qp (.ref s2.heap.objs.size) s3.heap.objs.size) { s3 with heap:=h1,toks:=s2.toks+([]:List (Str×Value)).length }:=by
  refine ZgQ (fun n s'=>∃i ys σ' H',Inv (Zbm X (tn++cap.map (·.1)) scope cl s3.heap.objs.size fp s3 (upd H2 s2.heap.objs.size (.lst []))) [] σ' H' s'/\tnn i s'.heap/\(∀b∈fp,H' b=none)/\W i n ys σ' H') ?_ m0
   ⟨0,[],_,_,I4,st3,fun b hb=>(f3 b hb).1,w0⟩
  rintro n s5 ⟨i,ys,σ5,H5,I5,st5,fr5,w5⟩;obtain⟨hD,alt⟩:=turn i n ys σ5 H5 w5;have stat:∀{H':Hp},(∀b∈fp,H' b=none)->∀b∈fp,Zcx (Zbm X (tn++cap.map (·.1)) scope cl s3.heap.objs.size fp s3 (upd H2 s2.heap.objs.size (.lst []))) [] H' b :=
   fun hn b hb=>⟨hn b hb,(I4.ok.exf b hb).1,I4.ok.exfs b hb,.inl hb,(I4.ok.exf b hb).2,fun p hp=>by cases hp⟩
  rcases alt with⟨stop,qn⟩|⟨go,step⟩
  ·refine thn (T.done (Zbm X (tn++cap.map (·.1)) scope cl s3.heap.objs.size fp s3 (upd H2 s2.heap.objs.size (.lst []))) rfl rfl rfl hc i [] s5 σ5 H5 no0 I5 (stat fr5) st5 stop) fun r s6 ⟨hr,I6⟩=>?_;subst hr;exact hfin s3 _ I3 f3 _ σ5 H5 s6 I6 qn
  ·refine thn (T.item (Zbm X (tn++cap.map (·.1)) scope cl s3.heap.objs.size fp s3 (upd H2 s2.heap.objs.size (.lst []))) rfl rfl rfl hc i [] s5 σ5 H5 no0 I5 (stat fr5) st5 go) fun r s6 ⟨u,hr,h6⟩=>?_;subst hr;refine thn h6 fun _ s7 ⟨x,H7,I7,r7,y7,st7,fr7⟩=>?_;have I7':=I7.pinned (stat fr7) (T.obj _ _ st7);refine thn (hg _ _ _ _ _ s7 σ5 H7 x u _ I7' r7 (step x H7 y7)) fun _ s8 ⟨σ8,H8,I8,q8⟩=>?_;refine thn (he _ _ _ _ _ s8 σ8 H8 _ I8 q8) fun xv s9 ⟨v9,H9,I9,r9,q9⟩=>?_;obtain⟨hD9,hl9,m',hm',w9⟩:=q9;refine thn (Zct _ s9 σ8 H9 (.ref s2.heap.objs.size) [v9] (.ref s2.heap.objs.size) [xv] (fun z H'=>z=.non/\H'=upd H9 s2.heap.objs.size (.lst (ys ++ [v9]))) I9 rfl (.cons r9 .nil)
    ⟨s2.heap.objs.size,ys,v9,rfl,rfl,hD9,hl9,rfl,rfl⟩) fun z s10 ⟨zv,H10,I10,_,_,eH⟩=>?_
   subst eH;refine⟨m',hm',i+1,ys ++ [v9],σ8,_,I10.unpinned,T.keep _ _ _ st7 fun b hb o q=>(I10.pin (b,o) (List.mem_append_right _ (List.mem_append_right _ (ZbM hb q)))).1,fun b hb=>?_,w9⟩;obtain⟨o,q,d⟩:=T.obj _ _ st7 b hb;exact(I10.pin (b,o) (List.mem_append_right _ (List.mem_append_right _ (ZbM hb q)))).2.1
 subst hS3;exact codeAny_compStart_list loop (T.self X.A 0 _ _ _ st3 loop)
theorem Zcd(tn:List Str)(cap:List (Str×Nat))(hi:PI X tg iter wi)(hg:∀C fp s H,PG (Zbm X (tn++cap.map (·.1)) scope cl C fp s H) tg g)(he:∀C fp s H,PE (Zbm X (tn++cap.map (·.1)) scope cl C fp s H) elt te)
  (hc:X.calm=true) (hclos:closureFor scope X.env=pure cl) (hcell:∀y∈scope.names,y.2 ≠ .cell) (hk:scope.kind=.function) (hnames:∀y∈scope.names,y.2=.local->scope.names.lookup y.1=some .local)
  (hcl:∀x c,cl.lookup x=some c->X.env.cells.lookup x=some c)
  (hhas:∀C x,((compEnvC scope cl C X.env).kindOf x=some .cell\/(compEnvC scope cl C X.env).kindOf x=some .free)->∃c,cl.lookup x=some c)
  (hcap:∀C,∀p∈cap,X.N[p.2]?= some p.1/\X.env.scope.names.lookup p.1=some .cell/\((compEnvC scope cl C X.env).kindOf p.1=some .cell\/(compEnvC scope cl C X.env).kindOf p.1=some .free))
  (hs:∀v,foldedSetIterable iter X.env v=pure v):PE X (.ListComp elt [⟨tg,iter,[],0⟩] scope pos) (Zlj wi tn.length cap g te):=by
 intro pins s σ H Q I h;rw[eval_ListComp];refine wpAny_comprehension_free (use:=none) rfl hs hclos hk hnames (thn (hi pins s σ H _ I h) fun v s1 h1=>thn h1 fun itv s2 h2=>?_);obtain⟨it,fp,tnn,J,H2,e,I2,T,st2,f2,q2⟩:=h2;subst e;refine ZdR (R:=fun p H6=>Q (.ref p) H6) tn cap hg he hc hcell hk hcl hhas hcap I2 T st2 f2 q2 fun s3 H3 I3 f3 acc σ6 H6 s6 I6 q6=>?_;obtain⟨m,hn,_⟩:=I6.loc;refine⟨m,hn,fun h' sb=>?_⟩;have nC:∀b o,s3.heap.get? b=some o->b≠s3.heap.objs.size:=fun b o q=>Nat.ne_of_lt (Heap.lt_size q);have u:Un (frs X.stack) fp H3 H6 s3.heap h':=by
  have u0:=I6.base;refine⟨fun b o q n hb hx=>(sb.2 b (nC b o q)).trans (u0.keep b o q n hb hx),fun b o q n hb hx=>?_,u0.free,fun b o q hx=>?_,u0.tups,u0.frzs,u0.tbls⟩
  ·obtain⟨sl,e⟩:=u0.slot b o q n hb hx;exact⟨sl,(sb.2 b (nC b o q)).trans e⟩
  ·obtain⟨o',e⟩:=u0.there b o q hx;exact⟨o',(sb.2 b (nC b o q)).trans e⟩
 have free6:H6 s3.heap.objs.size=none:=I6.free;have ok6:HOk X.prog X.w H6 h':=fun b o q=>(I6.hok b o q).stay (fun c v hcv r=>(sb.2 c (by
  rcases hcv with z|z
  ·rw[z];exact Zq q free6
  ·exact Zq z free6)).trans r) (fun _ q=>q) fun _ _ q=>q
 have I':=I3.call (g':=s6.gens) (d':=s6.drawn) (t':=s6.toks) (ch:=fp) u ok6 I6.bare fun b hb=>⟨(f3 b hb).2.2.2.1,(f3 b hb).2.1,(f3 b hb).2.2.2.2.1,(f3 b hb).2.2.2.2.2⟩;have e:({ s6 with heap:=h' }:Shared)= { s3 with heap:=h',gens:=s6.gens,drawn:=s6.drawn,toks:=s6.toks }:=by
  have ho:s6.os=s3.os:=I6.os;obtain⟨a1,a2,a3,a4,a5⟩:=s6;obtain⟨b1,b2,b3,b4,b5⟩:=s3;simp only at ho;subst ho;rfl
 rw[e];exact⟨.ref _,H6,I',rfl,q6⟩
end
end L2
namespace PySem.SeqAt
open AutoSeq1 (wpAny_loadPart')
open MeetsSeq MeetsSeq2 MeetsSeq3 SeqRoads2
end PySem.SeqAt
namespace L2
open PySem PySem.Spec PyProof.Rows PySem.SeqAt
def Zbi(X:Cx):Cx where
 prog:=X.prog
 w:=X.w
 K:=X.K
 mg:=X.mg
 base:=X.base
 A:=X.A.in1
 N:=X.N
 s₀ := X.s₀
 H₀ := X.H₀
 env:=X.env
 outer:=X.outer
 stack:=X.stack
 ex:=X.ex
 fn:=X.fn
 calm:=X.calm
 pn:=X.pn
 xe:=no0
section
variable{X:Cx}{pins:List (Addr×Obj)}{σ : St}{H:Hp}{s:Shared}
theorem Cx.Ok.in1(o:X.Ok):(Zbi X).Ok :=
 ⟨o.mod,o.kind,o.glob,o.blt,o.above,o.inj,o.has,o.cab,o.hd,o.frames,o.stk,o.exf,o.bs,o.bsz,o.noex,o.exfs,o.funs,o.frf⟩
theorem Inv.in1(I:Inv X pins σ H s):Inv (Zbi X) pins σ H s:=⟨I.ok.in1,I.os,I.bare,I.base,I.loc,I.cell,I.free,I.freeC,I.pin,I.hok,I.len⟩
theorem Inv.out1(o:X.Ok)(I:Inv (Zbi X) pins σ H s):Inv X pins σ H s:=⟨o,I.os,I.bare,I.base,I.loc,I.cell,I.free,I.freeC,I.pin,I.hok,I.len⟩
end
section
variable{X:Cx}{pins:List (Addr×Obj)}{σ : St}{H:Hp}{s:Shared}{k:Nat}{f:Addr}{fd:FuncData}{ps:List Str}{sp:Sp}{Q:VK}{l p it:Addr}{xs:List V}{W:Nat->V->V->Hp->Prop}
abbrev Zmw(X:Cx)(pins:List (Addr×Obj))(σ : St)(Q:VK):Result->Shared->Prop:=fun r s'=>match r with | .ok (.ret v)=>EP X pins σ Q v s' | .ok _=>False | .error e=>X.xe e s'
theorem ZiU{i:Nat}{x:V}{Q':Option Value->Shared->Prop}{E:Value->Shared->Prop}(I:Inv (Zbi X) pins σ H s)(st:s.heap.IsListIter it l i)(hq:SqL X.K H l xs)(hx:xs[i]?= some x)(hf:Zcx (Zbi X) pins H it)
  (h:∀u s',Inv (Zbi X) pins σ H s'->s'.heap.IsListIter it l (i+1)->RelV x u->Q' (some u) s'):wpAny (model X.prog X.w) X.A.in1 (pyNext (.ref it)) Q' E s:=by
 obtain⟨its,rv,p,hz⟩:=I.list hq;obtain⟨u,hu,ru⟩:=rv.get hx;obtain⟨f0,f1,f2,f3,f4,f5⟩:=hf;exact wpAny_pyNext_list_item st p.isList (x:=u) (by simpa using hu) fun h' st' sb=>h u _ (I.turned (t':=s.toks) (fun b o hb e=>(sb.2 b hb).trans e) f0 f1 f3 f4 f5) st' ru
theorem Zj8{i:Nat}{Q':Option Value->Shared->Prop}{E:Value->Shared->Prop}(hc:X.calm=true)(I:Inv (Zbi X) pins σ H s)(st:s.heap.IsListIter it l i)(hq:SqL X.K H l xs)(hx:xs.length<=i)(hf:Zcx (Zbi X) pins H it)
  (h:∀s',Inv (Zbi X) pins σ H s'->Q' none s'):wpAny (model X.prog X.w) X.A.in1 (pyNext (.ref it)) Q' E s:=by
 obtain⟨its,rv,p,hz⟩:=I.list hq;obtain⟨f0,f1,f2,f3,f4,f5⟩:=hf;have hl:=rv.length;exact wpAny_pyNext_list_end (I.ok.hd hc) st p.isList (by simp;lia) fun h' eb=>h _ (I.turned (t':=s.toks) (fun b o hb e=>eb b o hb e) f0 f1 f3 f4 f5)
end
section
variable{X:Cx}{pins:List (Addr×Obj)}{σ : St}{H:Hp}{s:Shared}{k:Nat}{f:Addr}{fd:FuncData}{ps:List Str}{sp:Sp}{Q:VK}{l p it:Addr}{xs:List V}{W:Nat->V->V->Hp->Prop}{ud:Value}
theorem ZkA{o:HO}(h:Zcx X pins H it)(hp:∃u,H p=some u):Zcx X pins (upd H p o) it:=by
 refine⟨?_,h.2⟩;obtain⟨u,hu⟩:=hp;rw[Zu (Zq hu h.1).symm];exact h.1
theorem ZeF{h:Heap}{i:Nat}(st:h.IsListIter it l i):∃o,h.get? it=some o/\(∀v,o.data ≠ .cell v)/\∀h':Heap,h'.get? it=some o->h'.IsListIter it l i:=by
 obtain⟨o,e,c,d⟩:=st;exact⟨o,e,fun v z=>(by rw[d] at z;cases z),fun h' e'=>⟨o,e',c,d⟩⟩
end
end L2
namespace L2
open PySem PySem.Spec PyProof.Rows
def CW(n:Nat)(Pv:Nat->List V->St->Hp->Prop):Nat->Nat->List V->St->Hp->Prop:=fun i m ys σ H=>m=n-i/\i<=n/\Pv i ys σ H
theorem CW.next{n i:Nat}{Pv:Nat->List V->St->Hp->Prop}{ys:List V}{σ : St}{H:Hp}(hi:i<n)(h:Pv (i+1) ys σ H):∃m',m'<n-i/\CW n Pv (i+1) m' ys σ H:=⟨_,by lia,rfl,hi,h⟩
theorem nd1{x:Str}:[x].Nodup:=by simp
theorem ZbB{K:PySem.W.Frag}{a p:Addr}{xs:List V}{g:TG}{te:TE}{R:Hp->Prop}{σ0:St}{H0:Hp}(Pv:Nat->List V->St->Hp->Prop)(h0:Pv 0 [] σ0 H0)
  (hl:∀i ys σ H,i<=xs.length->Pv i ys σ H->SqL K H a xs/\H p=some (.lst ys))
  (hs:∀i ys x σ H,i<xs.length->xs[i]?= some x->Pv i ys σ H->g x σ H fun σ3 H4=>te σ3 H4 fun v H5=>H5 p=some (.lst ys)/\ys.length<sizeLine/\∃m',m'<xs.length-i/\CW xs.length Pv (i+1) m' (ys ++ [v]) σ3 (upd H5 p (.lst (ys ++ [v]))))
  (hd:∀ys σ H,Pv xs.length ys σ H->R H) :
  ∃W:Nat->Nat->List V->St->Hp->Prop,(∃m,W 0 m [] σ0 H0)/\∀i m ys σc H2,W i m ys σc H2->H2 p=some (.lst ys)/\(((Itl K a).stop i H2/\R H2)\/((Itl K a).go i H2/\∀x H3,(Itl K a).yld i H2 x H3->g x σc H3 fun σ3 H4=>te σ3 H4 fun v H5 =>
   H5 p=some (.lst ys)/\ys.length<sizeLine/\∃m',m'<m/\W (i+1) m' (ys ++ [v]) σ3 (upd H5 p (.lst (ys ++ [v]))))):=by
 refine⟨CW xs.length Pv,⟨_,rfl,Nat.zero_le _,h0⟩,?_⟩;rintro i m ys σ H ⟨rfl,hi,hp⟩;obtain⟨h1,h2⟩:=hl i ys σ H hi hp;refine⟨h2,?_⟩;by_cases hlt:i<xs.length
 ·refine .inr ⟨⟨xs,xs[i],h1,List.getElem?_eq_getElem hlt⟩,?_⟩;rintro x H3 ⟨rfl,hx⟩;exact hs i ys x σ _ hlt (hx xs h1) hp
 ·refine .inl ⟨⟨xs,h1,by lia⟩,hd ys σ H ?_⟩;have e:i=xs.length:=by lia
  rw[<- e];exact hp
theorem Ze3{scope:Scope}{env:Env}(h:∀y∈scope.names,y.2 ≠ .cell/\y.2 ≠ .free){cl:List (Str×Addr)}:∀(C:Addr)(x:Str),((compEnvC scope cl C env).kindOf x=some .cell\/(compEnvC scope cl C env).kindOf x=some .free)->∃c,cl.lookup x=some c:=by
 have key:∀(l:List (Str×NameKind))(x:Str),(∀y∈l,y.2 ≠ .cell/\y.2 ≠ .free)->∀k,(l.map fun(n,k)=>if(k ==.free&&env.scope.kind ==.function&&env.kindOf n == some .cell) then(n,.cell) else(n,k)).lookup x=some k->k ≠ .cell/\k ≠ .free:=by
  intro l
  induction l with
  | nil=>intro x _ k e;simp at e
  | cons y l ih =>
   intro x hy k e;obtain⟨n,kd⟩:=y;have hk:=hy _ (List.mem_cons_self ..);have e0:(kd == NameKind.free&&env.scope.kind ==.function&&env.kindOf n == some .cell)=false:=by
    have:(kd == NameKind.free)=false:=by
     cases kd <;> first|rfl|exact absurd rfl hk.2
    rw[this];rfl
   simp only[List.map_cons,e0,Bool.false_eq_true,if_false,List.lookup_cons] at e;cases hx:x == n with
   | true =>
    rw[hx] at e;cases e;exact hk
   | false =>
    rw[hx] at e;exact ih x (fun y hm=>hy y (List.mem_cons_of_mem _ hm)) k e
 intro C x hx;rcases hx with e|e
 ·exact absurd rfl (key _ x h _ e).1
 ·exact absurd rfl (key _ x h _ e).2
section
variable{X:Cx}{elt iter tg:Expr}{scope:Scope}{pos:Pos}{wi:TI}{g:TG}{te:TE}{cl:List (Str×Addr)}
theorem Zcf{y:Str}{py spos:Pos}{n0:Nat}(hN:X.N.Nodup)(hi0:X.N[n0]?= some y)(hx:Loc X.env.scope y)(tn:List Str)(cap:List (Str×Nat))(hi:PI X tg iter wi)(hg:∀C fp s H,PG (Zbm X (tn++cap.map (·.1)) scope cl C fp s H) tg g)(he:∀C fp s H,PE (Zbm X (tn++cap.map (·.1)) scope cl C fp s H) elt te)
  (hc:X.calm=true) (hclos:closureFor scope X.env=pure cl) (hcell:∀y∈scope.names,y.2 ≠ .cell) (hk:scope.kind=.function) (hnames:∀y∈scope.names,y.2=.local->scope.names.lookup y.1=some .local)
  (hcl:∀x c,cl.lookup x=some c->X.env.cells.lookup x=some c)
  (hhas:∀C x,((compEnvC scope cl C X.env).kindOf x=some .cell\/(compEnvC scope cl C X.env).kindOf x=some .free)->∃c,cl.lookup x=some c)
  (hcap:∀C,∀p∈cap,X.N[p.2]?= some p.1/\X.env.scope.names.lookup p.1=some .cell/\((compEnvC scope cl C X.env).kindOf p.1=some .cell\/(compEnvC scope cl C X.env).kindOf p.1=some .free))
  (hs:∀v,foldedSetIterable iter X.env v=pure v) (hsw:swapsWith (.ListComp elt [⟨tg,iter,[],0⟩] scope pos) (some (.Name y py)) spos.line X.env=pure true) (hf:X.fn y=true\/X.env.scope.names.lookup y=some .local:=by first|exact .inl rfl|exact .inr rfl|assumption) :
  PS X (.Assign [.Name y py] (.ListComp elt [⟨tg,iter,[],0⟩] scope pos) spos) (Zlw (Zlj wi tn.length cap g te) (ZgZ n0)):=by
 intro pins s σ H D I h;rw[exec_Assign_Name_used _ _ _ _ hsw];refine wpAny_bind (wpAny_standAt (wpAny_bind ?_));show wpAny _ X.A (do let _ <- comprehension (.ListComp elt [⟨tg,iter,[],0⟩] scope pos) scope X.env _ (newList []) false (eval iter X.env) (some (assign (.Name y py) X.env))) _ _ s;refine wpAny_bind (wpAny_mono (wpAny_comprehension_free (use:=some (assign (.Name y py) X.env)) (Q:=fun _ s'=>SP X pins D .next s') rfl hs hclos hk hnames (thn (hi pins s σ H _ I h) fun v s1 h1=>thn h1 fun itv s2 h2=>?_)) (fun _ s' hq=>wpAny_pure (wpAny_pure hq)) fun _ _ e=>e)
 obtain⟨it,fp,tnn,J,H2,e,I2,T,st2,f2,q2⟩:=h2;subst e;refine ZdR (R:=fun p H6=>ZgZ n0 (.ref p) σ H6 (fun σ' H'=>D.nx σ' H')) tn cap hg he hc hcell hk hcl hhas hcap I2 T st2 f2 q2 fun s3 H3 I3 f3 acc σ6 H6 s6 I6 q6=>?_;obtain⟨m,hn,_⟩:=I6.loc;have I':Inv X pins σ H6 s6:=I3.call' (ch:=fp) I6.os I6.base I6.hok I6.bare fun b hb=>⟨(f3 b hb).2.2.2.1,(f3 b hb).2.1,(f3 b hb).2.2.2.2.1,(f3 b hb).2.2.2.2.2⟩;have fC:Zcx X pins H6 s3.heap.objs.size:=I3.fpOk (Nat.le_refl _) I6.free;show wpAny _ X.A (assign (.Name y py) X.env (.ref acc)) _ _ s6;refine wpAny_assign_Name (ZeM (v:=.ref acc) I' hN hi0 hx rfl (fun s7 I7 ⟨a,sb,ha⟩=>?_) hf);have nCa:s3.heap.objs.size≠a:=by
  rcases ha with z|z
  ·rw[z];exact fC.2.1
  ·exact(fC.2.2.2.2.1 _ _ z).symm
 exact⟨m,hn.sameBut sb nCa,fun h' sb'=>⟨_,H6,I7.turned (t':=s7.toks) (fun b o hb e=>(sb'.2 b hb).trans e) fC.1 fC.2.1 fC.2.2.2.1 fC.2.2.2.2.1 fC.2.2.2.2.2,q6⟩⟩
end
section
variable{κ : Type}[DecidableEq κ]
def Zbs(kvs:List (κ × V))(k : κ):Option V:=(kvs.find? fun kv=>decide (kv.1=k)).map (·.2)
def putK(kvs:List (κ × V))(k : κ)(v:V):List (κ × V) :=
 if(kvs.any fun kv=>decide (kv.1=k))=true then kvs.map (fun kv=>if kv.1=k then(kv.1,v) else kv) else kvs ++ [(k,v)]
theorem ZaK{p : κ × V}{r:List (κ × V)}{k : κ}(e:p.1=k):Zbs (p::r) k=some p.2:=by simp[Zbs,List.find?_cons,e]
theorem ZaL{p : κ × V}{r:List (κ × V)}{k : κ}(e : ¬ p.1=k):Zbs (p::r) k=Zbs r k:=by simp[Zbs,List.find?_cons,e]
theorem ZaQ(k : κ):∀kvs:List (κ × V),(kvs.any fun kv=>decide (kv.1=k))=(Zbs kvs k).isSome
 | []=>rfl
 | p::r=>by
  rw[List.any_cons];by_cases e:p.1=k
  ·simp only[ZaK e,decide_eq_true e,Bool.true_or,Option.isSome_some]
  ·rw[ZaL e,decide_eq_false e,Bool.false_or];exact ZaQ k r
theorem Zf2(k j : κ)(y:V):∀kvs:List (κ × V),Zbs (kvs.map fun kv=>if kv.1=k then(kv.1,y) else kv) j=(Zbs kvs j).map fun x=>if j=k then y else x
 | []=>rfl
 | p::r=>by
  have ih:=Zf2 k j y r;rw[List.map_cons];by_cases h:p.1=k
  ·rw[if_pos h];by_cases e:p.1=j
   ·rw[ZaK (p:=(p.1,y)) e,ZaK e,Option.map_some,if_pos (e.symm.trans h)]
   ·rw[ZaL (p:=(p.1,y)) e,ZaL e,ih]
  ·rw[if_neg h];by_cases e:p.1=j
   ·rw[ZaK (p:=p) e,ZaK e,Option.map_some,if_neg (fun z=>h (e.trans z))]
   ·rw[ZaL (p:=p) e,ZaL e,ih]
theorem ZeY(k j : κ)(y:V):∀kvs:List (κ × V),Zbs kvs k=none->Zbs (kvs ++ [(k,y)]) j=if j=k then some y else Zbs kvs j
 | [],_=>by
  by_cases e:k=j
  ·rw[if_pos e.symm];exact ZaK (p:=(k,y)) e
  ·rw[if_neg (fun z=>e z.symm)];exact ZaL (p:=(k,y)) e
 | p::r,hn=>by
  rw[List.cons_append];have hk : ¬ p.1=k:=fun z=>by rw[ZaK z] at hn;cases hn
  rw[ZaL hk] at hn;have ih:=ZeY k j y r hn;by_cases e:p.1=j
  ·rw[ZaK e,ZaK e,if_neg (fun z=>hk (e.trans z))]
  ·rw[ZaL e,ZaL e,ih]
theorem Zen(kvs:List (κ × V))(k j : κ)(y:V):Zbs (putK kvs k y) j=if j=k then some y else Zbs kvs j:=by
 unfold putK;by_cases a:(kvs.any fun kv=>decide (kv.1=k))=true
 ·rw[if_pos a,Zf2];rw[ZaQ] at a;by_cases e:j=k
  ·obtain⟨x,hx⟩:=Option.isSome_iff_exists.mp a;rw[if_pos e,e,hx,Option.map_some,if_pos rfl]
  ·rw[if_neg e];cases Zbs kvs j with
   | none=>rfl
   | some x=>rw[Option.map_some,if_neg e]
 ·rw[if_neg a];refine ZeY k j y kvs ?_;rw[ZaQ] at a;cases q:Zbs kvs k with
  | none=>rfl
  | some x=>rw[q] at a;exact(a rfl).elim
theorem Zb5(kvs:List (κ × V))(k : κ)(v:V):(putK kvs k v).length<=kvs.length+1:=by
 unfold putK
 split
 ·rw[List.length_map];lia
 ·rw[List.length_append,List.length_cons,List.length_nil];lia
theorem Zc3{kvs:List (κ × V)}{k : κ}(v:V)(h:Zbs kvs k=none):putK kvs k v=kvs ++ [(k,v)]:=by
 unfold putK;rw[ZaQ,h];exact if_neg (by decide)
theorem Zfa.isSome_eq{o:Option V}{u:Option Value}(r:Zfa o u):o.isSome=u.isSome:=by
 cases o with
 | none=>cases u with
  | none=>rfl
  | some _=>exact(show False from r).elim
 | some _=>cases u with
  | none=>exact(show False from r).elim
  | some _=>rfl
theorem KV.val{kvs:List (κ × V)}{vs:List (κ × Value)}(r:KV kvs vs)(k : κ):Zfa (Zbs kvs k) (valueAt vs k):=by
 unfold KV at r
 induction r with
 | nil=>exact True.intro
 | @cons p q ps qs h t ih =>
  obtain⟨h1,h2⟩:=h;by_cases e:p.1=k
  ·have e':q.1=k:=h1.symm.trans e;have b:valueAt (q::qs) k=some q.2:=by simp[valueAt,List.find?_cons,e']
   rw[ZaK e,b];exact h2
  ·have e' : ¬ q.1=k:=fun z=>e (h1.trans z);have b:valueAt (q::qs) k=valueAt qs k:=by simp[valueAt,List.find?_cons,e']
   rw[ZaL e,b];exact ih
theorem KV.any{kvs:List (κ × V)}{vs:List (κ × Value)}(r:KV kvs vs)(k : κ):(kvs.any fun kv=>decide (kv.1=k))=vs.any fun kv=>decide (kv.1=k):=by
 unfold KV at r
 induction r with
 | nil=>rfl
 | cons h t ih=>rw[List.any_cons,List.any_cons,ih,h.1]
theorem KV.repl{kvs:List (κ × V)}{vs:List (κ × Value)}(r:KV kvs vs)(k : κ){y:V}{u:Value}(ry:RelV y u) :
  KV (kvs.map fun kv=>if kv.1=k then(kv.1,y) else kv) (vs.map fun kv=>if kv.1=k then(kv.1,u) else kv):=by
 unfold KV at r ⊢
 induction r with
 | nil=>exact .nil
 | @cons p q ps qs h t ih =>
  rw[List.map_cons,List.map_cons];refine .cons ?_ ih;obtain⟨h1,h2⟩:=h;by_cases e:p.1=k
  ·rw[if_pos e,if_pos (h1.symm.trans e)];exact⟨h1,ry⟩
  ·rw[if_neg e,if_neg (fun z=>e (h1.trans z))];exact⟨h1,h2⟩
theorem KV.put{kvs:List (κ × V)}{vs:List (κ × Value)}(r:KV kvs vs)(k : κ){y:V}{u:Value}(ry:RelV y u):KV (putK kvs k y) (stored vs k u):=by
 unfold putK stored;rw[r.any k];by_cases e:(vs.any fun kv=>decide (kv.1=k))=true
 ·rw[if_pos e,if_pos e];exact r.repl k ry
 ·rw[if_neg e,if_neg e];exact Paired.snoc r ⟨rfl,ry⟩
theorem KV.length{kvs:List (κ × V)}{vs:List (κ × Value)}(r:KV kvs vs):kvs.length=vs.length:=Paired.length r
end
theorem Zgt{P:Program}{w:World}{k:Key}{u:Value}(r:RelV (kV k) u):(ZaB P w).is k u=true:=by
 cases k with
 | inl i=>obtain⟨t,e⟩:=(show ∃t,u=Value.int i t from r);subst e;exact Zfg P w i t
 | inr x=>obtain⟨t,e⟩:=(show ∃t,u=Value.str x t from r);subst e;exact Zfm P w x t
theorem Ze9{P:Program}{w:World}:∀{ks:List Key}{us:List Value},Vals (ks.map kV) us->ItemsAre (ZaB P w) ks us
 | [],_,r=>by rw[List.map_nil] at r;cases r;exact .nil
 | k::ks,_,r=>by
  rw[List.map_cons] at r;cases r with
  | cons h t=>exact .cons (Zgt h) (Ze9 t)
abbrev KT(H:Hp):List (List Key×V)->List (List Key×Addr×Value)->Prop:=Paired fun p q=>p.1=q.1/\H q.2.1=some (.tup (p.1.map kV))/\RelV p.2 q.2.2
theorem KT.val{H:Hp}{kvs:List (List Key×V)}{xs:List (List Key×Addr×Value)}(r:KT H kvs xs)(k:List Key):Zfa (Zbs kvs k) ((atKey xs k).map (·.2)):=by
 induction r with
 | nil=>exact True.intro
 | @cons p q ps qs h t ih =>
  obtain⟨h1,_,h2⟩:=h;by_cases e:p.1=k
  ·have e':q.1=k:=h1.symm.trans e;have b:atKey (q::qs) k=some q.2:=by simp[atKey,List.find?_cons,e']
   rw[ZaK e,b];exact h2
  ·have e' : ¬ q.1=k:=fun z=>e (h1.trans z);have b:atKey (q::qs) k=atKey qs k:=by simp[atKey,List.find?_cons,e']
   rw[ZaL e,b];exact ih
theorem KT.repl{H:Hp}{kvs:List (List Key×V)}{xs:List (List Key×Addr×Value)}(r:KT H kvs xs)(k:List Key){y:V}{u:Value}(ry:RelV y u) :
  KT H (kvs.map fun kv=>if kv.1=k then(kv.1,y) else kv) (xs.map (putAt k u)):=by
 induction r with
 | nil=>exact .nil
 | @cons p q ps qs h t ih =>
  rw[List.map_cons,List.map_cons];refine .cons ?_ ih;obtain⟨h1,h2,h3⟩:=h;unfold putAt;by_cases e:p.1=k
  ·rw[if_pos e,if_pos (h1.symm.trans e)];exact⟨h1,h2,ry⟩
  ·rw[if_neg e,if_neg (fun z=>e (h1.trans z))];exact⟨h1,h2,h3⟩
theorem KT.put{H:Hp}{kvs:List (List Key×V)}{xs:List (List Key×Addr×Value)}(r:KT H kvs xs)(k:List Key){b:Addr}{y:V}{u:Value}(hb:H b=some (.tup (k.map kV)))(ry:RelV y u) :
  KT H (putK kvs k y) (storedH xs k b u):=by
 have e:(kvs.any fun kv=>decide (kv.1=k))=(atKey xs k).isSome:=by
  rw[ZaQ,(r.val k).isSome_eq,Option.isSome_map]
 unfold putK storedH;rw[e];by_cases q:(atKey xs k).isSome=true
 ·rw[if_pos q,if_pos q];exact r.repl k ry
 ·rw[if_neg q,if_neg q];exact Paired.snoc r ⟨rfl,hb,ry⟩
theorem KT.keeps{H H':Hp}{kvs:List (List Key×V)}{xs:List (List Key×Addr×Value)}(r:KT H kvs xs)(ht:∀b ys,H b=some (.tup ys)->H' b=some (.tup ys)):KT H' kvs xs :=
 Paired.mapP r fun _ _ z=>⟨z.1,ht _ _ z.2.1,z.2.2⟩
section
variable{P:Program}{w:World}{H:Hp}{h:Heap}{a:Addr}
theorem Zky{u:HO}(ok:HOk P w H h)(e:Rd H a u):ZaA P w H h a u:=e.ok ok
theorem Zig{kvs:List (Key×V)}(ok:HOk P w H h)(e:Rd H a (.dK kvs)):kvs.length<=sizeLine/\(a == sysModules)=false/\∃vs,KV kvs vs/\h.DictOf (ZaB P w) a vs :=
 show ZaA P w H h a (.dK kvs) from Zky ok e
theorem ZlM{kvs:List (Key×V)}(ok:HOk P w H h)(e:H a=some (.dK kvs)):kvs.length<=sizeLine/\(a == sysModules)=false/\∃vs,KV kvs vs/\h.DictOf (ZaB P w) a vs:=Zig ok (.inl e)
theorem ZdW{ks:List Key}(ok:HOk P w H h)(e:H a=some (.tup (ks.map kV))):(tupleKind (ZaB P w)).is h ks a:=by
 obtain⟨_,its,r,o,h1,h2,n,h3⟩:=(show ZaA P w H h a (.tup (ks.map kV)) from ok a _ e);exact⟨o,its.toArray,n,h1,h2,h3,by simpa using Ze9 r⟩
theorem Zhk{kvs:List (List Key×V)}(ok:HOk P w H h)(e:Rd H a (.dT kvs)):kvs.length<=sizeLine/\(a == sysModules)=false /\
  ∃xs,KT H kvs xs/\h.DictOfH (tupleKind (ZaB P w)) a xs:=by
 obtain⟨z,y,xs,r,o,es,ep,h1,h2,h3,h4,h5⟩:=(show ZaA P w H h a (.dT kvs) from Zky ok e);refine⟨z,y,xs,r,o,es,ep,h1,h2,h3,h4,fun x hx=>?_,h5⟩;have all:∀{l:List (List Key×V)}{m:List (List Key×Addr×Value)},KT H l m->∀x∈m,(tupleKind (ZaB P w)).is h x.1 x.2.1:=by
  intro l m q
  induction q with
  | nil=>intro x hx;exact nomatch hx
  | @cons p q ps qs hq t ih =>
   intro x hx;rcases List.mem_cons.mp hx with e|hx
   ·subst e;exact ZdW ok (by rw[<- hq.1];exact hq.2.1)
   ·exact ih x hx
 exact all r x hx
theorem Zmb{kvs:List (List Key×V)}(ok:HOk P w H h)(e:H a=some (.dT kvs)):kvs.length<=sizeLine/\(a == sysModules)=false /\
  ∃xs,KT H kvs xs/\h.DictOfH (tupleKind (ZaB P w)) a xs:=Zhk ok (.inl e)
end
def Zev(H:Hp)(a:Addr)(y:V)(r:Option V):Prop :=
 (∃kvs k,Rd H a (.dK kvs)/\y=kV k/\r=Zbs kvs k)\/∃kvs k b,Rd H a (.dT kvs)/\y=.ref b/\H b=some (.tup (k.map kV))/\r=Zbs kvs k
def Zg6(H:Hp)(a:Addr)(y v:V)(H':Hp):Prop :=
 (∃kvs k,H a=some (.dK kvs)/\y=kV k/\kvs.length<sizeLine/\H'=upd H a (.dK (putK kvs k v))) \/
 ∃kvs k b,H a=some (.dT kvs)/\y=.ref b/\H b=some (.tup (k.map kV))/\kvs.length<sizeLine/\H'=upd H a (.dT (putK kvs k v))
theorem Zev.k{H:Hp}{a:Addr}{kvs:List (Key×V)}{k:Key}(e:H a=some (.dK kvs)):Zev H a (kV k) (Zbs kvs k):=.inl ⟨kvs,k,.inl e,rfl,rfl⟩
theorem Zg6.k{H:Hp}{a:Addr}{kvs:List (Key×V)}{k:Key}{v:V}(e:H a=some (.dK kvs))(hl:kvs.length<sizeLine):Zg6 H a (kV k) v (upd H a (.dK (putK kvs k v))):=.inl ⟨kvs,k,e,rfl,hl,rfl⟩
theorem Zg6.t{H:Hp}{a b:Addr}{kvs:List (List Key×V)}{k:List Key}{v:V}(e:H a=some (.dT kvs))(eb:H b=some (.tup (k.map kV)))(hl:kvs.length<sizeLine) :
  Zg6 H a (.ref b) v (upd H a (.dT (putK kvs k v))):=.inr ⟨kvs,k,b,e,rfl,eb,hl,rfl⟩
section
variable{X:Cx}{pins:List (Addr×Obj)}{σ : St}{H:Hp}{s:Shared}{a:Addr}{y v:V}{u r:Value}{o:Option V}{A:Around}{E:Value->Shared->Prop}
theorem Inv.big(I:Inv X pins σ H s):sysModules<s.heap.objs.size:=by
 have h:mainGlobals<s.heap.objs.size:=(I.mod.glob.keeps I.bk).lt;exact Nat.lt_trans (by decide) h
theorem ZhS{Q:Value->Shared->Prop}(hu:A.units+1<cLine)(I:Inv X pins σ H s)(g:Zev H a y (some v))(ry:RelV y u)(h:∀w' s',Inv X pins σ H s'->RelV v w'->Q w' s') :
  wpAny (model X.prog X.w) A (getItem (.ref a) u) Q E s:=by
 rcases g with⟨kvs,k,e,ey,l⟩|⟨kvs,k,b,e,ey,eb,l⟩
 ·subst ey;obtain⟨z,hd,vs,rel,dd⟩:=Zig I.hok e;obtain⟨w',hw,rw'⟩:=Zfa.some_of (v:=v) (o:=valueAt vs k) (by rw[l];exact rel.val k);exact wpAny_getItem_of (Zgt ry) dd.mapOf hw (h w' _ (I.tok _) rw')
 ·subst ey;cases (show u=Value.ref b from ry);obtain⟨z,hd,xs,rel,dd⟩:=Zhk I.hok e;obtain⟨w',hw,rw'⟩:=Zfa.some_of (v:=v) (o:=(atKey xs k).map (·.2)) (by rw[l];exact rel.val k);obtain⟨p,hp,hp2⟩:=Option.map_eq_some_iff.mp hw;refine wpAny_getItem_heap (tupleKind_room_in1 hu) (ZdW I.hok eb) dd hp ?_;rw[hp2];exact h w' _ (I.tok _) rw'
theorem ZmE{Q:Value->Shared->Prop}(hu:A.units+1<cLine)(I:Inv X pins σ H s)(g:Zev H a y o)(ry:RelV y u)(h:∀s',Inv X pins σ H s'->Q (.bool o.isSome) s') :
  wpAny (model X.prog X.w) A (compareOp .In u (.ref a)) Q E s:=by
 rcases g with⟨kvs,k,e,ey,l⟩|⟨kvs,k,b,e,ey,eb,l⟩
 ·subst ey;obtain⟨z,hd,vs,rel,dd⟩:=Zig I.hok e;refine wpAny_in_of (Zgt ry) hd dd.mapOf ?_;rw[<- (rel.val k).isSome_eq,<- l];exact h _ (I.tok _)
 ·subst ey;cases (show u=Value.ref b from ry);obtain⟨z,hd,xs,rel,dd⟩:=Zhk I.hok e;refine wpAny_in_heap (tupleKind_room_in1 hu) (ZdW I.hok eb) hd dd ?_;have q:=(rel.val k).isSome_eq;rw[Option.isSome_map] at q;rw[<- q,<- l];exact h _ (I.tok _)
theorem Zj1{Q:Value->Shared->Prop}(hu:A.units+1<cLine)(I:Inv X pins σ H s)(g:Zev H a y o)(ry:RelV y u)(h:∀s',Inv X pins σ H s'->Q (.bool (!o.isSome)) s') :
  wpAny (model X.prog X.w) A (compareOp .NotIn u (.ref a)) Q E s:=by
 rcases g with⟨kvs,k,e,ey,l⟩|⟨kvs,k,b,e,ey,eb,l⟩
 ·subst ey;obtain⟨z,hd,vs,rel,dd⟩:=Zig I.hok e;refine wpAny_notIn_of (Zgt ry) hd dd.mapOf ?_;rw[<- (rel.val k).isSome_eq,<- l];exact h _ (I.tok _)
 ·subst ey;cases (show u=Value.ref b from ry);obtain⟨z,hd,xs,rel,dd⟩:=Zhk I.hok e;refine wpAny_notIn_heap (tupleKind_room_in1 hu) (ZdW I.hok eb) hd dd ?_;have q:=(rel.val k).isSome_eq;rw[Option.isSome_map] at q;rw[<- q,<- l];exact h _ (I.tok _)
theorem Zhy{h':Heap}{t':Nat}{ob:HO}(I:Inv X pins σ H s)(mu:Mut (H a))(hs:Heap.SameBut a s.heap h')(he:∃q,h'.get? a=some q)(new:ZaA X.prog X.w (upd H a ob) h' a ob) :
  Inv X pins σ (upd H a ob) { s with heap:=h',toks:=t' } :=
 I.write (x:=a) (e:=a) mu (.inl rfl) (fun b q hb z=>(hs.2 b hb).trans z) he new
theorem Zlk{P:Program}{w:World}{H':Hp}{h':Heap}{kvs:List (Key×V)}{vs:List (Key×Value)}(z:kvs.length<=sizeLine)(hd:(a == sysModules)=false)(rel:KV kvs vs)(dd:h'.DictOf (ZaB P w) a vs) :
  ZaA P w H' h' a (.dK kvs):=⟨z,hd,vs,rel,dd⟩
theorem ZhN{H':Hp}{Q:Unit->Shared->Prop}(hu:A.units+1<cLine)(I:Inv X pins σ H s)(g:Zg6 H a y v H')(ry:RelV y u)(rv:RelV v r)(h:∀s',Inv X pins σ H' s'->Q () s') :
  wpAny (model X.prog X.w) A (setItem (.ref a) u r) Q E s:=by
 rcases g with⟨kvs,k,e,ey,l,eH⟩|⟨kvs,k,b,e,ey,eb,l,eH⟩
 ·subst ey eH;obtain⟨z,hd,vs,rel,dd⟩:=ZlM I.hok e;have hz:vs.length<=sizeLine:=by rw[<- rel.length];exact z
  have hl:(putK kvs k v).length<=sizeLine:=by have:=Zb5 kvs k v;lia
  refine wpAny_setItem_pairs (hsz:=hz) (Zgt ry) dd fun h' dd' hs=>h _ ?_;have he:∃q,h'.get? a=some q:=let ⟨q,_,_,hq,_⟩:=dd';⟨q,hq⟩;exact Zhy I (by rw[e];exact True.intro) hs he (Zlk hl hd (rel.put k rv) dd')
 ·subst ey eH;cases (show u=Value.ref b from ry);obtain⟨z,hd,xs,rel,dd⟩:=Zmb I.hok e;have hz:xs.length<=sizeLine:=by rw[<- Paired.length rel];exact z
  have hl:(putK kvs k v).length<=sizeLine:=by have:=Zb5 kvs k v;lia
  refine wpAny_setItem_heap (hsz:=hz) (tupleKind_room_in1 hu) (ZdW I.hok eb) dd fun h' dd' hs=>h _ ?_;obtain⟨q,es,ep,hq,h2,h3,h4,_,h5⟩:=dd';refine Zhy I (by rw[e];exact True.intro) hs ⟨q,hq⟩ ⟨hl,hd,_,(rel.put k eb rv).keeps fun c ys ec=>?_,q,es,ep,hq,h2,h3,h4,h5⟩;rw[Zu (Zl5 ec e (fun z=>nomatch z))]
  exact ec
end
def Zmf(i:Expr):Prop := ∀ov iv,subscripted i false ov iv=operate [ov,iv] (getItem ov iv)
theorem ZjO{prog:Program}{w:World}{A:Around}{E:Value->Shared->Prop}{s:Shared}{env:Env}{value slice:Expr}{pos:Pos}{T id:String}{Q:Value->Shared->Prop}
  (hl:typeLookup (.type T) "__getitem__" = pure (some (.builtin id))) (hs:Zmf slice)
  (h:wpAny (model prog w) A (eval value env) (fun o s₁=>wpAny (model prog w) A (eval slice env) (fun i s₂=>s₂.TypeIs o T/\wpAny (model prog w) A (getItem o i) Q E s₂) E s₁) E s) :
  wpAny (model prog w) A (eval (.Subscript value slice pos) env) Q E s:=by
 refine Subscript_ (wpAny_mono h (fun o s₁ h₁=>wpAny_mono h₁ (fun i s₂ h₂=>?_) fun _ _ x=>x) fun _ _ x=>x);obtain⟨hT,h₂⟩:=h₂;unfold subscriptTail;refine wpAny_bind ?_;rw[getitemInPython_of_ne hT.not_modules];refine wpAny_bind (wpAny_specialOf hT hl ?_);have fin:wpAny (model prog w) A (subscripted slice false o i) (fun r s₃=>wpAny (model prog w) A (letTemporaryGo value o r >>= fun _=>pure r) Q E s₃) E s₂ := by
  rw[hs o i];exact wpAny_operating (wpAny_mono h₂ (fun r s₃ h₃=>wpAny_bind (wpAny_letTemporaryGo (wpAny_pure h₃))) fun _ _ x=>x)
 first
  | exact wpAny_pure (wpAny_bind fin)
  | exact wpAny_bind (wpAny_pure (wpAny_bind fin))
  | exact wpAny_bind fin
theorem Zfy{X:Cx}{pins:List (Addr×Obj)}{σ : St}{H:Hp}{s:Shared}{a:Addr}{y:V}{o:Option V}(I:Inv X pins σ H s)(g:Zev H a y o):s.TypeIs (.ref a) "dict" := by
 rcases g with⟨kvs,k,e,_,_⟩|⟨kvs,k,b,e,_,_,_⟩
 ·obtain⟨_,_,vs,_,dd⟩:=Zig I.hok e;exact dd.typeIs
 ·obtain⟨_,_,xs,_,dd⟩:=Zhk I.hok e;exact dd.typeIs
def ZlL(td ty:TE):TE:=fun σ H Q=>td σ H fun x H1=>ty σ H1 fun y H2=>∃a v,x=.ref a/\Zev H2 a y (some v)/\Q v H2
def Zmm(ty td:TE):TE:=fun σ H Q=>ty σ H fun y H1=>td σ H1 fun x H2=>∃a o,x=.ref a/\Zev H2 a y o/\Q (.bl o.isSome) H2
def ZjK(ty td:TE):TE:=fun σ H Q=>ty σ H fun y H1=>td σ H1 fun x H2=>∃a o,x=.ref a/\Zev H2 a y o/\Q (.bl (!o.isSome)) H2
def Zl0(td ty tv:TE):TS:=fun D σ H=>tv σ H fun v H1=>td σ H1 fun x H2=>ty σ H2 fun y H3=>∃a H4,x=.ref a/\Zg6 H3 a y v H4/\D.nx σ H4
section
variable{X:Cx}{o i e value:Expr}{pos pos' tpos:Pos}{td ty tv:TE}
theorem ZcB(hu:X.A.units+1<cLine)(ho:PE X o td)(hi:PE X i ty)(hs:Zmf i):PE X (.Subscript o i pos) (ZlL td ty):=by
 intro pins s σ H Q I h;refine ZjO PySem.F.slot_dict_getitem.lookup hs (thn (ho pins s σ H _ I h) fun u s1 ⟨x,H1,I1,rx,q1⟩=>thn (hi pins s1 σ H1 _ I1 q1) fun iv s2 ⟨y,H2,I2,ry,a,v,ex,g,q2⟩=>?_);subst ex;obtain rfl:u=Value.ref a:=rx;exact⟨Zfy I2 g,ZhS hu I2 g ry fun w' s3 I3 rw'=>⟨v,H2,I3,rw',q2⟩⟩
theorem ZkH(hu:X.A.units+1<cLine)(hi:PE X i ty)(ho:PE X o td):PC X .In i o (Zmm ty td):=by
 intro pins s σ H Q I h;refine thn (hi pins s σ H _ I h) fun iv s1 ⟨y,H1,I1,ry,q1⟩=>thn (ho pins s1 σ H1 _ I1 q1) fun u s2 ⟨x,H2,I2,rx,a,ov,ex,g,q2⟩=>?_;subst ex;obtain rfl:u=Value.ref a:=rx;exact ZmE hu I2 g ry fun s3 I3=>⟨.bl ov.isSome,H2,I3,rfl,q2⟩
theorem Zew(hu:X.A.units+1<cLine)(hi:PE X i ty)(ho:PE X o td):PC X .NotIn i o (ZjK ty td):=by
 intro pins s σ H Q I h;refine thn (hi pins s σ H _ I h) fun iv s1 ⟨y,H1,I1,ry,q1⟩=>thn (ho pins s1 σ H1 _ I1 q1) fun u s2 ⟨x,H2,I2,rx,a,ov,ex,g,q2⟩=>?_;subst ex;obtain rfl:u=Value.ref a:=rx;exact Zj1 hu I2 g ry fun s3 I3=>⟨.bl (!ov.isSome),H2,I3,rfl,q2⟩
theorem Zdx(hu:X.A.units+1<cLine)(ho:PE X o td)(hi:PE X i ty)(hv:PE X value tv)(hs:swapsWith value (some (.Subscript o i pos')) pos.line X.env=pure false) :
  PS X (.Assign [.Subscript o i pos'] value pos) (Zl0 td ty tv):=by
 intro pins s σ H D I h;refine wpAny_Assign_Subscript (thn (hv pins s σ H _ I h) fun r s1 ⟨v,H1,I1,rv,q1⟩=>thn (ho pins s1 σ H1 _ I1 q1) fun u s2 ⟨x,H2,I2,rx,q2⟩=>thn (hi pins s2 σ H2 _ I2 q2) fun iv s3 ⟨y,H3,I3,ry,a,H4,ex,g,q3⟩=>?_) hs;subst ex;obtain rfl:u=Value.ref a:=rx;exact ZhN hu I3 g ry rv fun s4 I4=>⟨σ,H4,I4,q3⟩
end
theorem ZiO{P:Program}{w:World}{H:Hp}(h:Heap)(hb:sysModules<h.objs.size):ZaA P w H (h.push { cls:=.type "dict",data:=.dict #[] }) h.objs.size (.dK []) :=
 ⟨Nat.zero_le _,beq_eq_false_iff_ne.mpr (Ne.symm (Nat.ne_of_lt hb)),[],.nil,Heap.DictOf.new h⟩
theorem Zii{P:Program}{w:World}{H:Hp}(h:Heap)(hb:sysModules<h.objs.size):ZaA P w H (h.push { cls:=.type "dict",data:=.dict #[] }) h.objs.size (.dT []) :=
 ⟨Nat.zero_le _,beq_eq_false_iff_ne.mpr (Ne.symm (Nat.ne_of_lt hb)),[],.nil,_,#[],0,Heap.get?_push_size _ rfl,⟨rfl,rfl,rfl⟩,rfl,rfl,List.nodup_nil⟩
def Zk5:TE:=fun _ H Q=>∀p,H p=none->Q (.ref p) (upd H p (.dK []))
def Zk1:TE:=fun _ H Q=>∀p,H p=none->Q (.ref p) (upd H p (.dT []))
section
variable{X:Cx}{pos:Pos}
theorem Zem:PE X (.Dict [] [] pos) Zk5:=fun pins s σ H Q I h =>
 wpAny_Dict_empty ⟨.ref s.heap.objs.size,_,I.laid (a:=s.heap.objs.size) (o:=.dK []) (t':=s.toks) (fun _ _ q=>Heap.get?_push_of_some _ q) (Nat.le_refl _) (ZiO s.heap I.big),rfl,h _ (I.hok.fresh (Nat.le_refl _))⟩
theorem Zge:PE X (.Dict [] [] pos) Zk1:=fun pins s σ H Q I h =>
 wpAny_Dict_empty ⟨.ref s.heap.objs.size,_,I.laid (a:=s.heap.objs.size) (o:=.dT []) (t':=s.toks) (fun _ _ q=>Heap.get?_push_of_some _ q) (Nat.le_refl _) (Zii s.heap I.big),rfl,h _ (I.hok.fresh (Nat.le_refl _))⟩
end
section
variable{κ : Type}[DecidableEq κ]
theorem Zeb{kvs:List (κ × V)}{k : κ}(h:Zbs kvs k=none) : ¬ k∈kvs.map (·.1):=by
 intro m;obtain⟨p,hp,e⟩:=List.mem_map.mp m;have q:(kvs.any fun kv=>decide (kv.1=k))=true:=List.any_eq_true.mpr ⟨p,hp,decide_eq_true e⟩;rw[ZaQ,h] at q;exact absurd q (by simp)
theorem Zd2{kvs:List (κ × V)}{k : κ}{v:V}(h:Zbs kvs k=some v):k∈kvs.map (·.1):=by
 have q:(kvs.any fun kv=>decide (kv.1=k))=true:=by
  rw[ZaQ,h]
  all_goals rfl
 obtain⟨p,hp,e⟩:=List.any_eq_true.mp q;exact List.mem_map.mpr ⟨p,hp,of_decide_eq_true e⟩
end
structure HasM(P:Program)(w:World)(K:PySem.W.Frag)(mg:Str->Option Value)(base:Heap)(C:Addr)(m:Str)(ps:List Str)(j:Nat)(sp:Sp):Prop where
 ex:∃f fd,FnOk P w K mg base CX0 j f fd ps sp/\Binds K fd ps []/\Meth K C m f
structure HasC(P:Program)(w:World)(K:PySem.W.Frag)(mg:Str->Option Value)(base:Heap)(C:Addr)(x:Str)(ps:List Str)(j:Nat)(sp:Sp):Prop where
 ex:∃f fd,FnOk P w K mg base CX0 j f fd ps sp/\Binds K fd ps []/\Mk K C f/\mg x=some (.ref C)
section
variable{X:Cx}{C:Addr}{m x:Str}{ps:List Str}{j k:Nat}{sp:Sp}{o e:Expr}{es:List Expr}{ta:TE}{t:TA}{p pos apos:Pos}
theorem ZaT{pl:Sem Bool}(G:HasM X.prog X.w X.K X.mg X.base C m ps j sp)(hr:Room k X.A)(he:PE X o ta)(c:Cls X.K C)(ha:PA X (e::es) t)(hk:j<=k:=by decide)
  (hst:starEach (e::es) X.env=(false,eval e X.env)::starEach es X.env:=by rfl) (hpl:(backTo pos (starEach es X.env)).any (·.1)=false:=by rfl)
  (ht:eval (.Call (.Attribute o m apos) (e::es) [] pos) X.env=(do
   let ov <- eval o X.env
   standAt apos.atName
   let (f,first) <- holding [ov] (getMethod ov m pl)
   callWith pos f first (backTo pos (starEach (e::es) X.env)) (backToKw pos (keywordEach [] X.env))):=by rfl):PE X (.Call (.Attribute o m apos) (e::es) [] pos) (ZkB C m sp [] E0 ta t):=by
 obtain⟨f,fd,F,b,hm⟩:=G.ex;exact ZjB (pl:=pl) he c hm (F.room hk) hr b .nil ZjC ha hst hpl ht
end
theorem Zco{X:Cx}:Zbk X (.type "int") (fun xs H Q=>∃b,xs=[.bl b]/\Q (.int (if b=true then 1 else 0)) H):=by
 intro pins s σ H xs us Q I r h;obtain⟨b,rfl,q⟩:=h;obtain⟨u,rfl,ru⟩:=vals1 r;cases ru;exact call_int_bool ⟨.int (if b=true then 1 else 0),H,I.tok _,⟨_,rfl⟩,q⟩
end L2
namespace FgM
end FgM
namespace L2
open PySem PySem.Spec PyProof.Rows
theorem FnOk.none{P:Program}{w:World}{K:PySem.W.Frag}{mg:Str->Option Value}{base:Heap}{CX:CXT}{k:Nat}{f:Addr}{fd:FuncData}{ps:List Str}{sp:Sp}(h:∀vs H Q E,¬ sp vs H Q E):FnOk P w K mg base CX k f fd ps sp :=
 ⟨fun vs H Q E z=>absurd z (h vs H Q E),fun A outer s H args us vs Q E hr e0 hb r z=>absurd z (h vs H Q E)⟩
theorem lookup_mem{β : Type}{x:Str}{c : β}:∀{l:List (Str × β)},l.lookup x=some c->(x,c)∈l
 | [],h=>by cases h
 | (y,d)::l,h=>by
  rw[List.lookup_cons] at h;cases e:x == y with
  | true =>
   rw[e] at h;cases h;rw[beq_iff_eq.mp e];exact List.mem_cons_self ..
  | false =>
   rw[e] at h;exact List.mem_cons_of_mem _ (lookup_mem h)
theorem Zdp{env:Env}{cl:List (Str×Addr)}(h:∀p∈cl,env.cells.lookup p.1=some p.2):∀x c,cl.lookup x=some c->env.cells.lookup x=some c:=fun x c e=>h (x,c) (lookup_mem e)
theorem Zcg{scope:Scope}{env:Env}{cl:List (Str×Addr)}(h:∀y∈scope.names,(y.2=.cell\/y.2=.free)->∃c,cl.lookup y.1=some c):∀(C:Addr)(x:Str),((compEnvC scope cl C env).kindOf x=some .cell\/(compEnvC scope cl C env).kindOf x=some .free)->∃c,cl.lookup x=some c:=by
 have key:∀(k:NameKind)(x:Str),(k=.cell\/k=.free)->(scope.names.map fun(n,k)=>if(k ==.free&&env.scope.kind ==.function&&env.kindOf n == some .cell) then(n,.cell) else(n,k)).lookup x=some k->∃c,cl.lookup x=some c:=by
  intro k x hk e;obtain⟨⟨n,k0⟩,hy,he⟩:=List.mem_map.mp (lookup_mem e);by_cases hc:(k0 ==.free&&env.scope.kind ==.function&&env.kindOf n == some .cell)=true
  ·simp only[hc,if_true] at he;have h0:k0=.free:=by
    simp only[Bool.and_eq_true] at hc;have:=hc.1.1;cases k0 <;> first|rfl|exact absurd this (by decide)
   injection he with e1 e2;subst e1;exact h _ hy (.inr h0)
  ·simp only[hc] at he;injection he with e1 e2;subst e1 e2;exact h _ hy hk
 intro C x hx;rcases hx with e|e
 ·exact key _ x (.inl rfl) e
 ·exact key _ x (.inr rfl) e
theorem Zfw{X:Cx}{K:PySem.W.Frag}(h:X.K=K):IxR X (ZlZ K):=by
 subst h;exact Zv
def Zaq:Stmt->List Stmt
 | .For _ _ b _ _=>b
 | .While _ b _ _=>b
 | .If _ b _ _=>b
 | _=>[]
theorem Zm{X:Cx}{b:List Stmt}{D:Ends}{σ : St}{H:Hp}(s:List Stmt){t:TS}(h:PSs X s t)(k:∀u,PSs X s u->u=t->∃t,PSs X b t/\t D σ H):∃t,PSs X b t/\t D σ H:=k t h rfl
theorem Zj{u t:TS}(e:u=t){D:Ends}{σ : St}{H:Hp}(h:t D σ H):u D σ H:=e ▸ h
theorem ZkV{α : Type}:∀{us:List α},us.length=1->∃a,us=[a]
 | [a],_=>⟨a,rfl⟩
theorem Zl7{α : Type}{n:Nat}:∀{us:List α},us.length=n+1->∃a vs,us=a::vs/\vs.length=n
 | a::vs,h=>⟨a,vs,rfl,Nat.succ.inj h⟩
theorem ZfD{α : Type}{us:List α}(h:us.length=2):∃a b,us=[a,b]:=by
 obtain⟨a,vs,rfl,h2⟩:=Zl7 h;obtain⟨b,rfl⟩:=ZkV h2;exact⟨a,b,rfl⟩
theorem Zlm{α : Type}{us:List α}(h:us.length=3):∃a b c,us=[a,b,c]:=by
 obtain⟨a,vs,rfl,h2⟩:=Zl7 h;obtain⟨b,c,rfl⟩:=ZfD h2;exact⟨a,b,c,rfl⟩
theorem ZlF{α : Type}{us:List α}(h:us.length=4):∃a b c d,us=[a,b,c,d]:=by
 obtain⟨a,vs,rfl,h2⟩:=Zl7 h;obtain⟨b,c,d,rfl⟩:=Zlm h2;exact⟨a,b,c,d,rfl⟩
theorem Vals.inv{v:V}{vs:List V}{us:List Value}(h:Vals (v::vs) us):∃u us',us=u::us'/\RelV v u/\Vals vs us':=by
 cases h with
 | cons r t=>exact⟨_,_,rfl,r,t⟩
theorem Vals.end_{us:List Value}(h:Vals [] us):us=[]:=by
 cases h;rfl
def XO(e:Addr)(C:Value)(d:Option Addr):Heap->Prop:=fun h=>∃oe vs,h.get? e=some oe/\oe.cls=C/\oe.dict=d/\oe.data=.fields vs/\4<vs.size
theorem XO.ext_ok{P:Program}{w:World}{H:Hp}{h:Heap}{e:Addr}{C:Value}{d:Option Addr}(x:XO e C d h):ZaA P w H h e (.ext (XO e C d)):=by
 refine⟨x,?_,fun h1 h2 p k=>?_⟩
 ·obtain⟨oe,_,ho,_⟩:=x;exact⟨oe,ho⟩
 ·obtain⟨oe,vs,ho,r⟩:=p;exact⟨oe,vs,k oe ho,r⟩
theorem Zim{H:Hp}{a:Addr}{o:HO}(h:H a=some o):upd H a o=H:=by
 funext b
 unfold upd;by_cases e:b=a
 ·subst e;rw[if_pos rfl,h]
 ·rw[if_neg e]
section
variable{X:Cx}{pins:List (Addr×Obj)}{σ : St}{H:Hp}{s:Shared}{e T:Addr}{C:Value}{d:Option Addr}{M:Model}{A:Around}{E:Value->Shared->Prop}{Q:Unit->Shared->Prop}
theorem Inv.xo(I:Inv X pins σ H s)(he:H e=some (.ext (XO e C d))):XO e C d s.heap:=(I.hok e _ he).1
theorem Inv.poke{h':Heap}{t':Nat}(I:Inv X pins σ H s)(he:H e=some (.ext (XO e C d)))(k:∀b u,b≠e->s.heap.get? b=some u->h'.get? b=some u)(x:XO e C d h'):Inv X pins σ H { s with heap:=h',toks:=t' }:=by
 have:=I.write (x:=e) (e:=e) (o:=.ext (XO e C d)) (h':=h') (t':=t') (by rw[he];trivial) (.inl rfl) k (by obtain⟨oe,_,ho,_⟩:=x;exact⟨oe,ho⟩) x.ext_ok
 rwa [Zim he] at this
def XHead(X:Cx)(pins:List (Addr×Obj))(H:Hp)(h:Heap)(e:Addr)(fl:Value):Prop :=
 ∃T oT ts oe vs,h.get? e=some oe/\oe.data=.fields vs/\vs[1]?= some (.ref T)/\Zcx X pins H T/\h.get? T=some oT/\oT.data=.fields ts/\ts[3]?= some fl
def XSt(X:Cx)(pins:List (Addr×Obj))(H:Hp)(h:Heap)(e:Addr):Prop:=(∃oe vs,h.get? e=some oe/\oe.data=.fields vs/\vs[1]?= some .none)\/XHead X pins H h e .none
theorem ZfW{h:Heap}{a:Addr}{o:Obj}{vs:Array Value}(i:Nat)(x:Value)(ho:h.get? a=some o)(hd:o.data=.fields vs) :
  (h.update a (Obj.mapFields (·.setIfInBounds i x))).get? a=some (o.mapFields (·.setIfInBounds i x)):=Heap.get?_update_self _ ho (Obj.isFreed_of_fields (Obj.data_mapFields hd _))
theorem ZiE(o:Obj)(f:Array Value->Array Value):(o.mapFields f).dict=o.dict:=by
 obtain⟨c,d,dt,sl⟩:=o;cases dt <;> rfl
theorem XO.put{h:Heap}(x:XO e C d h)(i:Nat)(v:Value):XO e C d (h.update e (Obj.mapFields (·.setIfInBounds i v))):=by
 obtain⟨oe,vs,ho,hc,hdd,hd,hz⟩:=x;exact⟨_,_,ZfW i v ho hd,(Obj.cls_mapFields ..).trans hc,(ZiE ..).trans hdd,Obj.data_mapFields hd _,by simpa using hz⟩
theorem Inv.slots{h':Heap}(I:Inv X pins σ H s)(hs:Heap.SlotsOnly (frs X.stack) s.heap h'):Inv X pins σ H { s with heap:=h' }:=by
 refine I.call' (s':={ s with heap:=h' }) (ch:=[]) rfl ⟨fun b o q n hb _=>(hs.2.1 b hb).trans q,fun b o q _ _ _=>hs.2.2 b o q,fun _ _ _ n _=>n,fun b o q _=>let ⟨sl,e⟩:=hs.2.2 b o q;⟨_,e⟩,fun _ _ q=>q,fun _ _ _ q=>q,fun _ ps q=>⟨#[],by rw[q];simp⟩⟩ ?_ I.bare (fun b z=>absurd z (by simp));intro b o q;have hfr:=I.stkFree;refine(I.hok b o q).stay (fun c u hc z=>?_) (fun _ z=>z) (fun _ _ z=>z);have hn:c∉frs X.stack:=by
  intro hm;rcases hc with rfl|hc
  ·rw[hfr _ hm] at q;cases q
  ·rw[hfr _ hm] at hc;cases hc
 exact(hs.2.1 c hn).trans z
theorem Zgf{head:Value}{hadNext:Bool}(hA:A.frames=some (X.env::X.outer))(hstk:X.stack=X.env::X.outer)(hf:X.env.frame=some X.env.locals)(I:Inv X pins σ H s)(he:H e=some (.ext (XO e C d)))
  (h:∀h',Inv X pins σ H { s with heap:=h' }->XHead X pins H h' e (rawInt X.env.locals)->Q () { s with heap:=h' }) :
  wpAny M A (frameOf X.env >>= fun a=>entryPlaceOf X.env.locals hadNext >>= fun pl=>EntryCells.newEntry head a .none (rawInt X.env.locals) .none pl >>= fun b=>setField (.ref e) 1 b) Q E s:=by
 have hl:s.heap.FunFrames X.base (X.env::X.outer):=hstk ▸ I.stack;refine wpAny_bind (wpAny_frameOf_fun hA hl hf fun h1 hs1=>?_);have I1:Inv X pins σ H { s with heap:=h1 }:=I.slots (by rw[hstk];exact hs1);refine wpAny_bind (wpAny_entryPlaceOf fun pl hpl=>?_);unfold EntryCells.newEntry newFields;refine wpAny_bind (wpAny_newObj_type ?_ (hpl.sizeOk5 _ _ _ _ _));generalize hob:({ cls:=Value.type "traceback",dict:=none,data:=Data.fields ([head,Value.ref X.env.locals,Value.none,rawInt X.env.locals,Value.none]++(if pl.isEmpty then List.replicate 6 Value.none else pl)).toArray }:Obj)=ob
 have I2:Inv X pins σ H { s with heap:=h1.push ob }:=I1.kept (h':=h1.push ob) (t':=s.toks) fun b u q=>Heap.get?_push_of_some _ q;obtain⟨oe,vs,ho,hc,hdd,hd,hz⟩:=I2.xo he;refine wpAny_setField ho hd (by lia) (h _ (I2.poke (t':=s.toks) he (fun b u hb q=>(Heap.get?_update_other _ _ (Ne.symm hb)).trans q) ((I2.xo he).put 1 _)) ?_);have hT:(h1.push ob).get? h1.objs.size=some ob:=Heap.get?_push_size _ (by rw[<- hob];rfl);have hne:e≠h1.objs.size:=fun z=>by
  have:=I1.hok.lt he;rw[z] at this;exact absurd this (Nat.lt_irrefl _)
 refine⟨h1.objs.size,ob,([head,Value.ref X.env.locals,Value.none,rawInt X.env.locals,Value.none]++(if pl.isEmpty then List.replicate 6 Value.none else pl)).toArray,_,_,ZfW 1 _ ho hd,Obj.data_mapFields hd _,?_,I1.fpOk (Nat.le_refl _) (I1.hok.fresh (Nat.le_refl _)),(Heap.get?_update_other _ _ hne).trans hT,?_,?_⟩
 ·rw[Array.getElem?_setIfInBounds_self_of_lt (by lia)]
 ·rw[<- hob]
 ·simp
theorem Zhx(hA:A.frames=some (X.env::X.outer))(hstk:X.stack=X.env::X.outer)(hf:X.env.frame=some X.env.locals)(I:Inv X pins σ H s)(he:H e=some (.ext (XO e C d)))(x:XSt X pins H s.heap e)
  (h:∀h',Inv X pins σ H { s with heap:=h' }->XHead X pins H h' e (rawInt X.env.locals)->Q () { s with heap:=h' }):wpAny M A (noteFrame (.ref e) X.env) Q E s:=by
 unfold noteFrame;simp only[hf];rcases x with⟨oe,vs,ho,hd,h1⟩|⟨T,oT,ts,oe,vs,ho,hd,h1,fT,hT,hdT,h3⟩
 ·refine wpAny_bind (wpAny_field ho hd h1 ?_);rw[if_neg (by decide)];exact Zgf hA hstk hf I he h
 ·refine wpAny_bind (wpAny_field ho hd h1 ?_);rw[if_pos (show(Value.ref T != Value.none)=true by simp)];refine wpAny_bind (wpAny_field hT hdT h3 ?_);rw[if_neg (show ¬ ((Value.none == rawInt X.env.locals)=true) by simp[rawInt])];refine wpAny_bind (wpAny_setField hT hdT (Array.getElem?_eq_some_iff.mp h3).1 ?_);obtain⟨f0,f1,f2,f3,f4,f5⟩:=fT;have I1:=I.turned (t':=s.toks) (h':=s.heap.update T (Obj.mapFields (·.setIfInBounds 3 Value.none))) (fun b u hb q=>(Heap.get?_update_other _ _ (Ne.symm hb)).trans q) f0 f1 f3 f4 f5;exact Zgf hA hstk hf I1 he h
theorem ZhQ{fl:Value}(I:Inv X pins σ H s)(he:H e=some (.ext (XO e C d)))(x:XHead X pins H s.heap e fl)
  (h:∀h',Inv X pins σ H { s with heap:=h' }->XHead X pins H h' e .none->Q () { s with heap:=h' }):wpAny M A (setFlight (.ref e) none) Q E s:=by
 obtain⟨T,oT,ts,oe,vs,ho,hd,h1,fT,hT,hdT,h3⟩:=x;unfold setFlight;refine wpAny_bind (wpAny_field ho hd h1 ?_);rw[if_pos (show(Value.ref T != Value.none)=true by simp)];refine wpAny_setField hT hdT (Array.getElem?_eq_some_iff.mp h3).1 ?_;obtain⟨f0,f1,f2,f3,f4,f5⟩:=id fT;have hne:T≠e:=fun z=>by subst z;rw[f0] at he;cases he
 refine h _ (I.turned (t':=s.toks) (fun b u hb q=>(Heap.get?_update_other _ _ (Ne.symm hb)).trans q) f0 f1 f3 f4 f5) ⟨T,_,_,oe,vs,(Heap.get?_update_other _ _ hne).trans ho,hd,h1,fT,ZfW 3 _ hT hdT,Obj.data_mapFields hdT _,?_⟩;rw[Array.getElem?_setIfInBounds_self_of_lt (Array.getElem?_eq_some_iff.mp h3).1];rfl
end
abbrev XKS:=St->XK
def CXE(P:Program)(w:World):CXT:=fun outer H s E ev s'=>∃(e:Addr)(C:Value)(d:Option Addr)(H':Hp),ev=.ref e/\s'.os=s.os/\AllBare s'.gens/\Un (frs outer) [] H H' s.heap s'.heap/\HOk P w H' s'.heap /\
 H' e=some (.ext (XO e C d))/\s.heap.objs.size<=e/\(∃T oT ts oe vs,s'.heap.get? e=some oe/\oe.data=.fields vs/\vs[1]?= some (.ref T)/\H' T=none/\s.heap.objs.size<=T/\s'.heap.get? T=some oT/\oT.data=.fields ts/\ts[3]?= some .none)/\E C d H'
def ZgX(X:Cx)(E:XKS):Prop := ∀(pins:List (Addr×Obj))(σ : St)(H:Hp)(s:Shared)(e:Addr)(C:Value)(d:Option Addr),Inv X pins σ H s->H e=some (.ext (XO e C d))->(X.ex=[]->X.s₀.heap.objs.size<=e)->XSt X pins H s.heap e->E σ C d H->X.xe (.ref e) s
theorem ZhL{P:Program}{w:World}{K:PySem.W.Frag}{mg:Str->Option Value}{base:Heap}{N:List Str}{qual:Str}{scope:Scope}{f:Addr}{cd:Value}{A:Around}{outer:List Env}{s:Shared}{H:Hp}{E:XK} :
  ZgX (ZiG (CXE P w) P w K mg base N qual scope f cd A outer s H E) (fun _=>E):=by
 intro pins σ H1 s1 e C d I he hy x hE;show wpAny _ _ (leaving _ _) _ _ s1;unfold leaving;refine wpAny_bind (Zhx (X:=ZiG (CXE P w) P w K mg base N qual scope f cd A outer s H E) I.ok.frames rfl rfl I he x fun h2 I2 x2=>ZhQ I2 he x2 fun h3 I3 x3=>?_);obtain⟨T,oT,ts,oe,vs,ho,hd,h1,fT,hT,hdT,h3'⟩:=x3;refine⟨e,C,d,H1,rfl,I3.os,I3.bare,I3.base,I3.hok,he,hy rfl,⟨T,oT,ts,oe,vs,ho,hd,h1,fT.1,?_,hT,hdT,h3'⟩,hE⟩;rcases fT.2.2.2.1 with z|z
 ·exact absurd z (by show T∉([]:List Addr);simp)
 ·exact z
theorem Zgx{X:Cx}{E:XKS}(hT:ZgX X E){pins:List (Addr×Obj)}{σ : St}{H:Hp}{s s':Shared}{ev:Value}(I:Inv X pins σ H s)(h:CXE X.prog X.w X.stack H s (E σ) ev s'):X.xe ev s':=by
 obtain⟨e,C,d,H',rfl,os,bare,un,hok,he,hes,⟨T,oT,ts,oe,vs,ho,hd,h1,hTn,hTs,hT',hdT,h3⟩,hE⟩:=h;have I1:=I.call' (ch:=[]) os un hok bare (fun b z=>absurd z (by simp));exact hT pins σ H' s' e C d I1 he (fun _=>Nat.le_trans I.sz hes) (.inr ⟨T,oT,ts,oe,vs,ho,hd,h1,I.fpOk hTs hTn,hT',hdT,h3⟩) hE
structure HasX(P:Program)(w:World)(K:PySem.W.Frag)(mg:Str->Option Value)(base:Heap)(x:Str)(ps:List Str)(k:Nat)(sp:Sp):Prop where
 ex:∃(f:Addr)(fd:FuncData),FnOk P w K mg base (CXE P w) k f fd ps sp/\Binds K fd ps []/\PySem.W.keepIn K (.ref f)=true/\mg x=some (.ref f)
def Zkz(sp:Sp)(E:XKS)(t:TA):TE:=fun σ H Q=>t σ H fun vs H1=>sp vs H1 Q (E σ)
section
variable{X:Cx}{j k:Nat}{f:Addr}{fd:FuncData}{ps:List Str}{sp:Sp}{E:XKS}{x:Str}{p pos:Pos}{e:Expr}{es:List Expr}{t:TA}
theorem ZjE{pins:List (Addr×Obj)}{σ : St}{H:Hp}{s:Shared}{Q:VK}{us:List Value}{vs:List V}(F:FnOk X.prog X.w X.K X.mg X.base (CXE X.prog X.w) k f fd ps sp)(hr:Room k X.A)(hb:Binds X.K fd ps [])(hT:ZgX X E)
  (I:Inv X pins σ H s) (r:Vals vs us) (h:sp vs H Q (E σ)):wpAny (model X.prog X.w) X.A (call (.ref f) us) (EP X pins σ Q) X.xe s:=by
 have hl:us.length=ps.length:=by rw[<- r.length];exact F.len _ _ _ _ h
 have hbb:=hb s us I.kIn (by rw[List.append_nil];exact hl);rw[List.append_nil] at hbb;refine wpAny_call (codeAny_mono (F.run X.A X.stack s H ⟨us,[]⟩ us vs Q (E σ) hr I.env0 hbb r h) fun r s' hq=>?_);cases r with
 | error e=>exact Zgx hT I hq
 | ok fl =>
  cases fl with
  | ret u=>exact I.after hq
  | next=>exact False.elim hq
  | brk=>exact False.elim hq
  | cont=>exact False.elim hq
theorem Zkn(G:HasX X.prog X.w X.K X.mg X.base x ps j sp)(hT:ZgX X E)(hr:Room k X.A)(hg:Gl X x)(ha:PA X (e::es) t)(hk:j<=k:=by decide)(hdb:(x == ("__debug__" : Str))=false:=by decide)
  (he:starEach (e::es) X.env=(false,eval e X.env)::starEach es X.env:=by rfl) (hpl:(backTo pos (starEach es X.env)).any (·.1)=false:=by rfl) :
  PE X (.Call (.Name x p) (e::es) [] pos) (Zkz sp E t):=by
 obtain⟨f,fd,F,b,kp,m⟩:=G.ex;intro pins s σ H Q I h;refine wpAny_Call_Name_kw (Zdi I hg m ?_ hdb);refine PySem.W.callWith_K (h₀ := X.base) I.ok.mod.kin kp (thn (ha pos pins s σ H _ I h) fun us s1 ⟨vs,H1,I1,r,q⟩=>⟨I1.kIn,?_⟩) he hpl;exact ZjE (F.room hk) hr b hT I1 r q
end
theorem Fun.okX{P:Program}{w:World}{K:PySem.W.Frag}{mg:Str->Option Value}{base:Heap}{x qual:Str}{st:Stmt}{f:Addr}{fd:FuncData}{N ps:List Str}{k:Nat}{sp:Sp}(F:Fun K x qual st f fd)(S:FnScope N ps (Zh st))(len:∀vs H Q E,sp vs H Q E->vs.length=ps.length)
  (hbody:∀(cdv:Value)(A:Around)(outer:List Env)(s:Shared)(H:Hp)(vs:List V)(Q:VK)(E:XK),Room k (A.deeper (envOfC qual (Zh st) s.heap.objs.size f cdv))->sp vs H Q E ->
   ∃t,PSs (ZiG (CXE P w) P w K mg base N qual (Zh st) f cdv A outer s H E) (Zc st) t/\t { nx:=fun _ H'=>Q .non H',rt:=Q } (start N vs) H):FnOk P w K mg base (CXE P w) (k+1) f fd ps sp:=by
 obtain⟨oc,od,kV,doc,pm,an,cdv,ct,osl,rfl,lk,hcd⟩:=F.ex;exact Zlg lk hcd S len fun A outer s H vs Q E hr hsp=>hbody cdv A outer s H vs Q E hr hsp
structure XCl(K:PySem.W.Frag)(D:Addr):Prop where
 cl:PySem.W.isClsIn K D=true
 exc:PySem.W.mroIn K D (.type "BaseException")=some true
 nt:PySem.W.instIn K (.ref D) (.type "tuple")=some false
inductive Spec(K:PySem.W.Frag)(H:Hp):V->List Addr->Prop
 | one {D:Addr}:XCl K D->Spec K H (.ref D) [D]
 | many {p:Addr} {Ds:List Addr}:SqT K H p (Ds.map V.ref)->(∀D∈Ds,XCl K D)->Spec K H (.ref p) Ds
theorem Ze1:∀{Ds:List Addr}{us:List Value},Vals (Ds.map V.ref) us->us=Ds.map Value.ref
 | [],_,.nil=>rfl
 | D::Ds,_,.cons r t=>by
  rw[Ze1 t];obtain rfl:_=Value.ref D:=r;rfl
section
variable{M:Model}{A:Around}{E:Value->Shared->Prop}{s:Shared}{K:PySem.W.Frag}{D:Addr}
theorem XCl.isExc(x:XCl K D)(X:K.In s.heap){Q:Bool->Shared->Prop}(h:Q true s):wpAny M A (isExcClass (.ref D)) Q E s:=by
 have hc:=x.cl;unfold PySem.W.isClsIn PySem.W.clsIn at hc
 split at hc
 ·rename_i ho
  unfold isExcClass;refine wpAny_bind ?_;show wpAny M A (loadHead D >>= _) _ _ s;refine wpAny_bind (wpAny_loadPart (X _ _ ho) (wpAny_pure ?_));dsimp only;rw[if_pos rfl];exact(PySem.W.looks_mroIn X x.exc).here h
 ·cases hc
theorem Zfu{g:Value->PUnit->Sem (ForInStep PUnit)}:∀(Ls:List Addr),(∀D∈Ls,∀{Q:ForInStep PUnit->Shared->Prop},Q (.yield PUnit.unit) s->wpAny M A (g (.ref D) PUnit.unit) Q E s)->∀{Q:PUnit->Shared->Prop},Q PUnit.unit s->wpAny M A (forIn (Ls.map Value.ref) PUnit.unit g) Q E s
 | [],_,_,h=>wpAny_pure h
 | D::Ls,hg,_,h=>by
  rw[List.map_cons,List.forIn_cons];exact wpAny_bind (hg D (List.mem_cons_self ..) (Zfu Ls (fun y hy=>hg y (List.mem_cons_of_mem _ hy)) h))
theorem Zh3{f:Addr->Bool}{g:Value->Option Bool×Unit->Sem (ForInStep (Option Bool×Unit))}:∀(Ls:List Addr),(∀D∈Ls,∀{Q:ForInStep (Option Bool×Unit)->Shared->Prop},Q (if f D=true then .done (some true,()) else .yield (none,())) s->wpAny M A (g (.ref D) (none,())) Q E s) ->
  ∀{Q:Option Bool×Unit->Shared->Prop},Q (if Ls.any f=true then some true else none,()) s->wpAny M A (forIn (Ls.map Value.ref) ((none,()):Option Bool×Unit) g) Q E s
 | [],_,_,h=>wpAny_pure h
 | D::Ls,hg,_,h=>by
  rw[List.map_cons,List.forIn_cons];rw[List.any_cons] at h;refine wpAny_bind (hg D (List.mem_cons_self ..) ?_);cases hf:f D with
  | true =>
   rw[hf] at h;exact wpAny_pure h
  | false =>
   rw[hf] at h;exact Zh3 Ls (fun y hy=>hg y (List.mem_cons_of_mem _ hy)) h
theorem Zk3{X:Cx}{pins:List (Addr×Obj)}{σ : St}{H:Hp}{f:Addr->Bool}{C e:Addr}{oe:Obj}{Q:Bool->Shared->Prop}{v:V}{u:Value}{Ds:List Addr}(I:Inv X pins σ H s)(hv:Spec X.K H v Ds)(r:RelV v u)(he:s.heap.get? e=some oe)(hc:oe.cls=.ref C)
  (hb:∀D∈Ds,PySem.W.mroIn X.K C (.ref D)=some (f D)) (h:Q (Ds.any f) s):wpAny M A (excMatches (.ref e) u) Q E s:=by
 cases hv with
 | @one D hD =>
  obtain rfl:u=Value.ref D:=r;unfold excMatches;refine wpAny_bind ((PySem.W.looks_instIn I.kIn hD.nt).here ?_);dsimp only;rw[if_neg Bool.false_ne_true];refine wpAny_bind (wpAny_pure ?_);refine wpAny_bind (Zfu [D] (fun y hy {Q} q=>?_) (wpAny_bind (wpAny_typeOf_ref he (wpAny_bind (Zh3 (f:=f) [D] (fun y hy {Q} q=>?_) ?_)))))
  ·obtain rfl:=List.mem_singleton.mp hy;exact wpAny_bind (hD.isExc I.kIn (wpAny_pure q))
  ·rw[hc];refine wpAny_bind ((PySem.W.looks_mroIn I.kIn (hb y hy)).here ?_);cases hf:f y with
   | true=>rw[hf] at q;exact wpAny_pure q
   | false=>rw[hf] at q;exact wpAny_pure q
  ·cases hf:[D].any f with
   | true=>rw[hf] at h;exact wpAny_pure h
   | false=>rw[hf] at h;exact wpAny_pure h
 | @many p _ hp hD =>
  obtain rfl:u=Value.ref p:=r;obtain⟨its,rv,⟨o,ho,hcl,n,hd⟩,_⟩:=I.tuple hp;unfold excMatches;refine wpAny_bind (wpAny_isInstance (T := "tuple") ⟨o,ho,hcl⟩ (show isSubtype (.type "tuple") (.type "tuple")=pure true by rw[isSubtype_type];kernel_rfl) ?_);dsimp only;rw[if_pos rfl];refine wpAny_bind (wpAny_seqItems ho hd (wpAny_bind (wpAny_pure ?_)));have e1:((some its.toArray).getD #[]).toList=Ds.map Value.ref:=by
   rw[<- Ze1 rv];rfl
  rw[e1];refine wpAny_bind (Zfu Ds (fun y hy {Q} q=>?_) (wpAny_bind (wpAny_typeOf_ref he (wpAny_bind (Zh3 (f:=f) Ds (fun y hy {Q} q=>?_) ?_)))))
  ·exact wpAny_bind ((hD y hy).isExc I.kIn (wpAny_pure q))
  ·rw[hc];refine wpAny_bind ((PySem.W.looks_mroIn I.kIn (hb y hy)).here ?_);cases hf:f y with
   | true=>rw[hf] at q;exact wpAny_pure q
   | false=>rw[hf] at q;exact wpAny_pure q
  ·cases hf:Ds.any f with
   | true=>rw[hf] at h;exact wpAny_pure h
   | false=>rw[hf] at h;exact wpAny_pure h
end
abbrev Cx.tr(X:Cx)(pins:List (Addr×Obj))(E:Value->Shared->Prop):Cx:={ X with pn:=X.pn++pins,xe:=E }
abbrev Cx.hd(X:Cx)(e:Addr):Cx:={ X with A:=X.A.mark (some (.ref e)),calm:=false,xe:=fun _ _=>False }
section
variable{X:Cx}{pins pins':List (Addr×Obj)}{σ : St}{H:Hp}{s:Shared}{e:Addr}{E:Value->Shared->Prop}
theorem Inv.tr(I:Inv X pins σ H s)(E:Value->Shared->Prop):Inv (X.tr pins E) [] σ H s :=
 ⟨⟨I.ok.mod,I.ok.kind,I.ok.glob,I.ok.blt,I.ok.above,I.ok.inj,I.ok.has,I.ok.cab,I.ok.hd,I.ok.frames,I.ok.stk,I.ok.exf,I.ok.bs,I.ok.bsz,I.ok.noex,I.ok.exfs,I.ok.funs,I.ok.frf⟩,I.os,I.bare,I.base,I.loc,I.cell,I.free,I.freeC,fun p hp=>I.pin p (by simpa using hp),I.hok,I.len⟩
theorem Inv.untr(I:Inv (X.tr pins E) pins' σ H s):Inv X pins σ H s :=
 ⟨⟨I.ok.mod,I.ok.kind,I.ok.glob,I.ok.blt,I.ok.above,I.ok.inj,I.ok.has,I.ok.cab,I.ok.hd,I.ok.frames,I.ok.stk,I.ok.exf,I.ok.bs,I.ok.bsz,I.ok.noex,I.ok.exfs,I.ok.funs,I.ok.frf⟩,I.os,I.bare,I.base,I.loc,I.cell,I.free,I.freeC,fun p hp=>I.pin p (List.mem_append_left _ hp),I.hok,I.len⟩
theorem Zcx.untr{T:Addr}(f:Zcx (X.tr pins E) pins' H T):Zcx X pins H T:=⟨f.1,f.2.1,f.2.2.1,f.2.2.2.1,f.2.2.2.2.1,fun p hp=>f.2.2.2.2.2 p (List.mem_append_left _ hp)⟩
theorem Inv.hd(I:Inv X pins σ H s)(e:Addr):Inv (X.hd e) pins σ H s :=
 ⟨⟨I.ok.mod,I.ok.kind,I.ok.glob,I.ok.blt,I.ok.above,I.ok.inj,I.ok.has,I.ok.cab,(fun z=>nomatch z),I.ok.frames,I.ok.stk,I.ok.exf,I.ok.bs,I.ok.bsz,I.ok.noex,I.ok.exfs,I.ok.funs,I.ok.frf⟩,I.os,I.bare,I.base,I.loc,I.cell,I.free,I.freeC,I.pin,I.hok,I.len⟩
theorem Inv.unhd(I:Inv (X.hd e) pins σ H s)(ok:X.Ok):Inv X pins σ H s:=⟨ok,I.os,I.bare,I.base,I.loc,I.cell,I.free,I.freeC,I.pin,I.hok,I.len⟩
theorem Inv.drop1{p:Addr×Obj}(I:Inv X (p::pins) σ H s):Inv X pins σ H s:=I.pins_of fun q hq=>I.pin q (List.mem_append_right _ (List.mem_cons_of_mem _ hq))
theorem SP.untr{D:Ends}{f:Flow}{s':Shared}(h:SP (X.tr pins E) pins' D f s'):SP X pins D f s':=by
 cases f with
 | next=>obtain⟨σ',H',I,q⟩:=h;exact⟨σ',H',I.untr,q⟩
 | brk=>obtain⟨σ',H',I,q⟩:=h;exact⟨σ',H',I.untr,q⟩
 | cont=>obtain⟨σ',H',I,q⟩:=h;exact⟨σ',H',I.untr,q⟩
 | ret u=>obtain⟨v,σ',H',I,r,q⟩:=h;exact⟨v,σ',H',I.untr,r,q⟩
end
def Known(e:Addr)(oe:Obj):HO:=.ext fun h=>h.get? e=some oe
theorem Zij{P:Program}{w:World}{H:Hp}{h:Heap}{e:Addr}{oe:Obj}(x:h.get? e=some oe):ZaA P w H h e (Known e oe):=⟨x,⟨oe,x⟩,fun _ _ p k=>k _ p⟩
abbrev THS:=Ends->St->Hp->Addr->Obj->Prop
def PH(X:Cx)(hs:List ExceptHandler)(t:THS):Prop := ∀(pins:List (Addr×Obj))(s:Shared)(σ : St)(H:Hp)(D:Ends)(e:Addr)(oe:Obj)(T:Addr)(oT:Obj)(ts vs:Array Value),
 Inv X ((T,oT)::pins) σ H s->Zcx X pins H T->oe.data=.fields vs->vs[1]?= some (.ref T)->oT.data=.fields ts->ts[3]?= some .none->H e=some (Known e oe)->t D σ H e oe ->
 wpAny (model X.prog X.w) X.A (handleBy (.ref e) X.env hs) (SP X pins D) X.xe s
def Zmr(tb:XKS->TS)(th:THS):TS:=fun D σ H=>∃E:XKS,tb E D σ H/\∀(σ':St)(C:Value)(d:Option Addr)(H':Hp)(e:Addr)(oe:Obj),E σ' C d H'->H' e=some (.ext (XO e C d))->oe.cls=C->oe.dict=d->(∃vs,oe.data=.fields vs)->th D σ' (upd H' e (Known e oe)) e oe
section
variable{X:Cx}{body:List Stmt}{h₀ : ExceptHandler}{hs rest:List ExceptHandler}{tb:XKS->TS}{th tr:THS}{pos:Pos}
theorem ZkF(hstk:X.stack=X.env::X.outer)(hf:X.env.frame=some X.env.locals)
  (hb:∀(E:XKS)(pins:List (Addr×Obj))(E₁ : Value->Shared->Prop),ZgX (X.tr pins E₁) E->PassesOwn (model X.prog X.w) X.A X.env E₁ -> PSs (X.tr pins E₁) body (tb E)) (hh:PH X (h₀ :: hs) th):PS X (.Try body (h₀ :: hs) [] [] pos) (Zmr tb th):=by
 intro pins s σ H D I h;obtain⟨E,h1,h2⟩:=h;refine wpAny_Try_except ?_;refine wpAny_mono (hb E pins _ ?_ PassesOwn.looking [] s σ H D (I.tr _) h1) (fun f s1 q=>?_) fun e s1 q=>q
 ·intro pins' σ' H' s1 e C d I1 he hy x hE;refine Zhx (X:=X.tr pins _) (by rw[I.ok.frames,hstk]) hstk hf I1 he x fun h2' I2 x2=>ZhQ I2 he x2 fun h3 I3 x3=>?_;obtain⟨T,oT,ts,oe,vs,ho,hd,hv1,fT,hT,hdT,h3'⟩:=x3;obtain⟨oe',vs',ho',hc,hdd,_⟩:=I3.xo he;rw[ho] at ho';cases ho';have I4:=I3.untr;have I5:=I4.write (x:=e) (e:=e) (o:=Known e oe) (t':=s1.toks) (h':=h3) (by rw[he];trivial) (.inl rfl) (fun b u _ z=>z) ⟨oe,ho⟩ (Zij ho);have fT':=fT.untr;have hne:T≠e:=fun z=>by subst z;rw[fT'.1] at he;cases he
  have fT2:Zcx X pins (upd H' e (Known e oe)) T:=⟨by rw[Zu hne];exact fT'.1,fT'.2⟩;have I6:Inv X ((T,oT)::pins) σ' (upd H' e (Known e oe)) { s1 with heap:=h3 }:=I5.pins_of fun p hp=>by
   rcases List.mem_cons.mp hp with rfl|hp
   ·exact⟨hT,fT2.1,fT2.2.1,fT2.2.2.1,fun v z=>by rw[hdT] at z;cases z⟩
   ·exact I5.pin p (List.mem_append_right _ hp)
  exact hh pins _ σ' _ D e oe T oT ts vs I6 fT2 hd hv1 hdT h3' Zb (h2 σ' C d H' e oe hE he hc hdd ⟨vs,hd⟩)
 ·cases f with
  | next =>
   obtain⟨σ',H',I',q⟩:=q;exact wpAny_execs_nil ⟨σ',H',I'.untr,q⟩
  | brk=>exact SP.untr q
  | cont=>exact SP.untr q
  | ret u=>exact SP.untr q
theorem Zks{t:Expr}{name:Option Str}{sb:List Stmt}{tt:TE}(ht:∀e,PE (X.hd e) t tt)(hr:PH X rest tr):PH X (.ExceptHandler (some t) name sb pos::rest)
  (fun D σ H e oe=>tt σ H fun v H1=>∃Ds C,Spec X.K H1 v Ds/\oe.cls=.ref C/\(∀D∈Ds,PySem.W.mroIn X.K C (.ref D)=some false)/\H1 e=some (Known e oe)/\tr D σ H1 e oe):=by
 intro pins s σ H D e oe T oT ts vs I fT hd h1 hdT h3 he h;refine wpAny_handleBy_cons (codeAny_handlers_test (wpAny_mono ((ht e) ((T,oT)::pins) s σ H _ (I.hd e) h) (fun u s1 q=>?_) fun _ _ z=>z.elim)) (by intro z;cases z);obtain⟨v,H1,I1,r,Ds,C,hs,hc,hb,hk,q⟩:=q;have I1':=I1.unhd I.ok;refine Zk3 (f:=fun _=>false) I1' hs r (I1'.hok e _ hk).1 hc hb ?_;have e0:Ds.any (fun _=>false)=false:=by simp
 rw[e0];have hTn:=(I1'.pin (T,oT) (List.mem_append_right _ (List.mem_cons_self ..))).2.1;exact hr pins s1 σ H1 D e oe T oT ts vs I1' ⟨hTn,fT.2⟩ hd h1 hdT h3 hk q
theorem Zcm{M:Model}{A:Around}{E:Value->Shared->Prop}{pins:List (Addr×Obj)}{σ : St}{H:Hp}{s:Shared}{i:Nat}{n:Str}{Q:Unit->Shared->Prop}(I:Inv X pins σ H s)(hN:X.N.Nodup)(hi:X.N[i]?= some n)(hk:X.env.scope.names.lookup n=some .local)
  (h:∀s',Inv X pins (σ.set i none) H s'->Q () s'):wpAny M A (bindName X.env n .none >>= fun _=>unbindBehindTheSuite X.env n pos) Q E s:=by
 obtain⟨m,hn,hl⟩:=id I.loc;have hcls:(X.env.scope.kind ==.class || (X.env.scope.kind ==.module&&X.env.locals != X.env.globals))=false:=by rw[I.ok.kind];rfl
 have hl0:X.env.kindOf n=some .local:=hk;refine wpAny_bind (wpAny_bindName (wpAny_storeName_local hl0 hn (fun ha hna hsa=>?_) hcls));unfold unbindBehindTheSuite;refine wpAny_onRaise ?_;unfold unbindName deleteName;refine wpAny_bind (wpAny_point (wpAny_bind ?_));simp only[hl0,hcls];rw[if_neg (by decide)];refine wpAny_bind (wpAny_nsDel_keeps hna fun hb v hnb hsb=>?_);simp only[if_true,Option.isSome_some,Bool.not_true,Bool.false_eq_true,if_false];refine wpAny_pure (wpAny_point (h _ ?_));have hs:=hsa.trans hsb;obtain⟨oL,_,_,hoL,_⟩:=id hn;have cne:=I.cne;refine⟨I.ok,I.os,I.bare,⟨fun b o e n hb hx=>?_,fun b o e n hb hx=>?_,I.base.free,fun b o e hx=>?_,I.base.tups,I.base.frzs,I.base.tbls⟩,⟨_,hnb,fun j y v' e1 e2 e3=>?_⟩,fun y c e=>?_,I.free,I.freeC,fun p hp=>?_,fun b ob e=>?_,by simpa using I.len⟩
 ·exact(hs.2 b (Nat.ne_of_lt (Nat.lt_of_lt_of_le (Heap.lt_size e) I.ok.above))).trans (I.base.keep b o e n hb hx)
 ·obtain⟨sl,e1⟩:=I.base.slot b o e n hb hx;exact⟨sl,(hs.2 b (Nat.ne_of_lt (Nat.lt_of_lt_of_le (Heap.lt_size e) I.ok.above))).trans e1⟩
 ·obtain⟨o',e1⟩:=I.base.there b o e hx;exact⟨o',(hs.2 b (Nat.ne_of_lt (Nat.lt_of_lt_of_le (Heap.lt_size e) I.ok.above))).trans e1⟩
 ·by_cases hj:j=i
  ·subst hj;by_cases hlt:j < σ.length
   ·rw[List.getElem?_set_self hlt] at e2;cases e2
   ·rw[List.getElem?_eq_none (by rw[List.length_set];lia)] at e2;cases e2
  ·rw[List.getElem?_set_ne (Ne.symm hj)] at e2;obtain⟨u',r',q⟩:=hl j y v' e1 e2 e3;refine⟨u',r',?_⟩;rcases q with⟨k,e⟩|⟨k,c,e,z⟩
   ·refine .inl ⟨k,?_⟩;have:y≠n:=fun e=>hj (Zei hN e1 (e ▸ hi));simp[this,e]
   ·exact .inr ⟨k,c,e,z.sameBut hs (cne y c e)⟩
 ·obtain⟨w',z⟩:=I.cell y c e;exact⟨w',z.sameBut hs (cne y c e)⟩
 ·obtain⟨e,n,ne,nf,d⟩:=I.pin p hp;exact⟨(hs.2 p.1 ne).trans e,n,ne,nf,d⟩
 ·refine(I.hok b ob e).stay (fun c w' hc q=>(hs.2 c ?_).trans q) (fun _ q=>q) fun _ _ q=>q;rintro rfl;rcases hc with rfl|hc
  ·rw[I.free] at e;cases e
  ·rw[I.free] at hc;cases hc
def unb(D:Ends)(i:Nat):Ends:={ nx:=fun σ H=>D.nx (σ.set i none) H,rt:=D.rt,bk:=fun σ H=>D.bk (σ.set i none) H,ct:=fun σ H=>D.ct (σ.set i none) H }
theorem Zfn{M:Model}{A:Around}{E:Value->Shared->Prop}{s:Shared}{e T:Addr}{oe oT:Obj}{vs ts:Array Value}{Q:Unit->Shared->Prop}(ho:s.heap.get? e=some oe)(hd:oe.data=.fields vs)(h1:vs[1]?= some (.ref T))(hT:s.heap.get? T=some oT)(hdT:oT.data=.fields ts)(h3:ts[3]?= some .none)(h:Q () s) :
  wpAny M A (setFlight (.ref e) none) Q E s:=by
 unfold setFlight;refine wpAny_bind (wpAny_field ho hd h1 ?_);rw[if_pos (show(Value.ref T != Value.none)=true by simp)];refine wpAny_setField hT hdT (Array.getElem?_eq_some_iff.mp h3).1 ?_;show Q () { s with heap:=s.heap.update T (Obj.mapFields (·.setIfInBounds 3 Value.none)) };rw[Heap.update_setField_same s.heap T oT ts 3 .none hT hdT h3];exact h
theorem Zl6{t:Expr}{n:Str}{b₀ : Stmt}{sb:List Stmt}{tt:TE}{tu:TS}{i:Nat}(ht:∀e,PE (X.hd e) t tt)(hN:X.N.Nodup)(hi:X.N[i]?= some n)(hk:X.env.scope.names.lookup n=some .local)(hs:∀e,PSs (X.hd e) (b₀ :: sb) tu):PH X (.ExceptHandler (some t) (some n) (b₀ :: sb) pos::rest)
  (fun D σ H e oe=>tt σ H fun v H1=>∃Ds C f,Spec X.K H1 v Ds/\oe.cls=.ref C/\(∀D∈Ds,PySem.W.mroIn X.K C (.ref D)=some (f D))/\Ds.any f=true/\H1 e=some (Known e oe)/\tu (unb D i) (σ.set i (some (.ref e))) H1):=by
 intro pins s σ H D e oe T oT ts vs I fT hd h1 hdT h3 he h;refine wpAny_handleBy_cons (codeAny_handlers_test (wpAny_mono ((ht e) ((T,oT)::pins) s σ H _ (I.hd e) h) (fun u s1 q=>?_) fun _ _ z=>z.elim)) (by intro z;cases z);obtain⟨v,H1,I1,r,Ds,C,f,hsp,hc,hb,hany,hkn,q⟩:=q;have I1':=I1.unhd I.ok;have hoe:=(I1'.hok e _ hkn).1;refine Zk3 (f:=f) I1' hsp r hoe hc hb ?_;rw[hany];refine codeAny_handlers_suite_as ?_;have hTo:=(I1'.pin (T,oT) (List.mem_append_right _ (List.mem_cons_self ..))).1;refine Zfn hoe hd h1 hTo hdT h3 ?_;refine ZbN I1'.drop1 hN hi (.inl hk) (show RelV (.ref e) (.ref e) from rfl) (fun s2 I2=>?_) (.inr hk);refine wpAny_mono ((hs e) pins s2 _ H1 (unb D i) (I2.hd e) q) (fun fl s3 q3=>?_) fun _ _ z=>z.elim;show wpAny _ X.A (bindName X.env n .none >>= fun _=>unbindBehindTheSuite X.env n pos) _ _ s3;cases fl with
 | next =>
  obtain⟨σ',H',I3,q3⟩:=q3;exact Zcm (I3.unhd I.ok) hN hi hk fun s' I'=>⟨_,_,I',q3⟩
 | brk =>
  obtain⟨σ',H',I3,q3⟩:=q3;exact Zcm (I3.unhd I.ok) hN hi hk fun s' I'=>⟨_,_,I',q3⟩
 | cont =>
  obtain⟨σ',H',I3,q3⟩:=q3;exact Zcm (I3.unhd I.ok) hN hi hk fun s' I'=>⟨_,_,I',q3⟩
 | ret u =>
  obtain⟨v3,σ',H',I3,r3,q3⟩:=q3;exact Zcm (I3.unhd I.ok) hN hi hk fun s' I'=>⟨v3,_,_,I',r3,q3⟩
end
end L2
namespace L2
open PySem PySem.Spec PyProof.Rows PySem.W
abbrev bmV:List Value:=[.type "ValueError",.type "Exception",.type "BaseException",.type "object"]
def keysOk(es:Array DictEntry):Bool:=es.toList.all fun e=>match e.key with | .str _ _=>true|_=>false
structure XMid(K:Frag)(G:Addr):Prop where
 ob:∃c0 dd cd sl oc od es ep sl',K.lookup G=some ⟨c0,dd,.cls cd,sl⟩/\K.lookup cd.ns=some ⟨oc,od,.dict es ep,sl'⟩/\keysOk es=true/\nsIn K cd.ns "__init__" = some none
structure XTop(K:Frag)(C G:Addr):Prop where
 ob:∃nm q N bs hdct sn sub ab col dd k0 k1 k2 k3 k5,K.lookup C=some (excClassObj nm q C N bs (.ref G::bmV) hdct sn sub ab col dd k0 k1 k2 k3 k5 "ValueError.__new__")
 mid:XMid K G
 call:specialIn K (.ref C) "__call__" = some (some (.builtin "type.__call__"))
 typ:instIn K (.ref C) (.type "type")=some true
 kp:keepIn K (.ref C)=true
theorem XMid.tail{K:Frag}{G:Addr}{h:Heap}(x:XMid K G)(X:K.In h):OwnTail h bmV (.ref G::bmV):=by
 obtain⟨c0,dd,cd,sl,oc,od,es,ep,sl',h1,h2,h3,h4⟩:=x.ob;have hns:h.isNs cd.ns=true:=by
  unfold Heap.isNs;rw[X _ _ h2];have h5:=h3;unfold keysOk at h5;rw[Array.all_toList] at h5;exact h5
 have hN:=Heap.Ns.of_isNs hns;exact .own (X _ _ h1) hN (ns_none_of X hN h4) .base
theorem XTop.mro{K:Frag}{C G:Addr}(x:XTop K C G):∃cd,clsIn K C=some cd/\cd.mro=.ref C :: .ref G::bmV:=by
 obtain⟨nm,q,N,bs,hdct,sn,sub,ab,col,dd,k0,k1,k2,k3,k5,h1⟩:=x.ob;have e:clsIn K C=some { name:=nm,bases:=bs,mro:=.ref C :: .ref G::bmV,ns:=N,qualname:=q,hasDict:=hdct,slotNames:=sn,subclasses:=sub,abstract:=ab,collection:=col,hasDel:=false }:=by
  unfold clsIn;rw[h1]
 exact⟨_,e,rfl⟩
abbrev ZaI(C t:Addr):Obj:={ cls:=.ref C,data:=.fields #[.ref t,.none,.none,.none,.bool false,.none] }
abbrev Zar(vs:List Value):Obj:={ cls:=.type "tuple",data:=.seq vs.toArray }
section
variable{prog:Program}{w:World}{A:Around}{K:Frag}{C G f:Addr}{R:Result->Shared->Prop}{s:Shared}
theorem ZgW{us:List Value}{init:Value}(x:XTop K C G)(X:K.In s.heap)(hi:findIn K (.ref C) "__init__" = some (some init)) (b0:∀self,Looks (model prog w) s.heap (bindSpecial init self) (init,[self])) (hl:us.length<=sizeLine)
  (hq:codeAny (model prog w) (A.under (.builtin "type.__call__" ⟨.ref C::us,[]⟩)) (.call init ⟨.ref (s.heap.objs.size+1)::us,[]⟩) (InitBack (s.heap.objs.size+1) R)
   { s with heap:=(s.heap.push (Zar us)).push (ZaI C s.heap.objs.size) }) :
  codeAny (model prog w) A (.call (.ref C) ⟨us,[]⟩) R s:=by
 obtain⟨hh,g,d,t,os⟩:=s;obtain⟨nm,q,N,bs,hdct,sn,sub,ab,col,dd,k0,k1,k2,k3,k5,hK⟩:=x.ob;have hC:=X _ _ hK;have T:=x.mid.tail X;have call:=looks_specialIn (M:=model prog w) X x.call;have typ:=looks_instIn (M:=model prog w) X x.typ;have i0:=looks_findIn (M:=model prog w) X hi;refine codeAny_of_tree ?_;show wpAny _ _ (callAny (.ref C) _) _ _ _;refine nd_load hC ?_;show wpAny _ _ (callAny.viaDunder (.ref C) _) _ _ _;unfold callAny.viaDunder;refine wpAny_bind (call.at ?_);dsimp only;rw[tc_bind];refine wpAny_bind (wpAny_pure (wpAny_bind (wpAny_pure ?_)));refine wpAny_pure (a:=Fin.again (.call (.builtin "type.__call__") ⟨.ref C::us,[]⟩)) ⟨rfl,?_⟩;refine codeAny_call_builtin_at (Code.quiet_builtin _ (by decide +kernel)) entry_typeCall (check_slot tc_kind tc_split typ (tc_args _ _ _) ?_)
 repeat (first|with_reducible refine wpAny_loadPart_at hC ?_|with_reducible refine wpAny_madeBy_exc hC ?_|wp_step)
 refine codeAny_call_builtin_code (Code.quiet_builtin _ F.excBase_ValueError.quiet) (wpAny_check_new_subT F.excBase_ValueError T hC (codeAny_exc_new_subT F.excBase_ValueError T hC ?_ hl));show wpAny _ _ _ _ _ _;have k:∀b o,hh.get? b=some o->((hh.push (Zar us)).push (ZaI C hh.objs.size)).get? b=some o:=fun b o e=>Heap.get?_push_of_some _ (Heap.get?_push_of_some _ e);have hx:((hh.push (Zar us)).push (ZaI C hh.objs.size)).get? (hh.objs.size+1)=some (ZaI C hh.objs.size):=by heap_get
 have t1:Looks (model prog w) ((hh.push (Zar us)).push (ZaI C hh.objs.size)) (typeOf (.ref (hh.objs.size+1))) (.ref C):=(Looks.ld hx).andThen .now;have s1:Looks (model prog w) ((hh.push (Zar us)).push (ZaI C hh.objs.size)) (isSubtype (.ref C) (.ref C)) true:=by
  obtain⟨cd,hc,hm⟩:=x.mro;refine(looks_mroIn X ?_).keeps k;unfold mroIn;rw[hc,Option.bind_some,hm];simp
 have i1:=i0.keeps k;have b1:=(b0 (.ref (hh.objs.size+1))).keeps k;unfold isInstance callSpecial? specialOf
 repeat (first|with_reducible refine wpAny_call ?_|lk)
 refine codeAny_mono hq fun r s' z=>?_;rcases r with e|(v|_|_|_) <;> first|exact z|exact z.elim|skip
 obtain⟨rfl,z⟩:=z;exact wpAny_pure (wpAny_pure z)
end
def ZmB(x:Addr)(C:Value)(d:Option Addr):Heap->Prop:=fun h=>∃ox vs t,h.get? x=some ox/\ox.cls=C/\ox.dict=d/\ox.data=.fields vs/\4<vs.size/\vs[0]?= some (.ref t)/\vs[1]?= some .none
theorem Zin{M:Model}{A:Around}{E:Value->Shared->Prop}{s:Shared}{env:Env}{K:Frag}{C G:Addr}{x0:Sem Value}{Q:Flow->Shared->Prop}(hh:A.handled=none)(y:XTop K C G)
  (h:wpAny M A x0 (fun v s1=>∃x d,v=.ref x/\K.In s1.heap/\ZmB x (.ref C) d s1.heap/\E (.ref x) s1) E s):wpAny M A (raiseStmt env (some x0) none) Q E s:=by
 unfold raiseStmt;refine wpAny_bind (wpAny_mono h (fun v s1 q=>?_) fun _ _ z=>z);obtain⟨x,d,rfl,X,⟨ox,vs,t,ho,hc,hd,hf,hz,h0,h1⟩,hE⟩:=q;obtain⟨cd,hcd,hmro⟩:=y.mro;have ty:Looks M s1.heap (typeOf (.ref x)) (.ref C):=hc ▸ (Looks.ld ho).andThen .now;have isb:Looks M s1.heap (isInstance (.ref x) (.type "BaseException")) true:=ty.andThen (looks_mroIn X (by unfold mroIn;rw[hcd,Option.bind_some,hmro];rfl));have nt:Looks M s1.heap (isType (.ref x)) false:=by
  intro A' Q' E' s' k q;unfold isType loadHead;refine wpAny_bind (wpAny_loadPart (k _ _ ho) ?_);rw[hf];exact wpAny_pure q
 obtain⟨nm,q,N,bs,hdct,sn,sub,ab,col,dd,k0,k1,k2,k3,k5,hK⟩:=y.ob;have tt:Looks M s1.heap (typeOf (.ref C)) (.type "type"):=(Looks.ld (X _ _ hK)).andThen .now;refine wpAny_bind (wpAny_pure (wpAny_bind (wpAny_holding ?_)));unfold excFromValue isExcClass;refine wpAny_bind (wpAny_bind (nt.here ?_));rw[if_neg Bool.false_ne_true];refine wpAny_pure ?_;rw[if_neg Bool.false_ne_true];refine wpAny_bind (isb.here ?_);rw[if_pos rfl];refine wpAny_pure ?_;refine wpAny_bind (nt.here ?_);rw[if_neg Bool.false_ne_true];unfold raisedInstance;refine wpAny_bind (wpAny_bind (ty.here (wpAny_bind (tt.here ?_))));rw[if_pos (by decide)];refine wpAny_pure ?_;unfold setFlight;refine wpAny_bind (wpAny_bind (wpAny_field ho hf h1 ?_));rw[if_neg (by decide)];exact wpAny_pure (wpAny_raiseNew_none hh hE)
structure XBas(K:Frag)(G:Addr):Prop where
 ga:specialIn K (.ref G) "__getattribute__" = some (some (.builtin "type.__getattribute__"))
 rd:readsIn K G (.type "type")=true
 fi:findCls K (.ref G) (.type "type") "__init__" = some (.val (.builtin "ValueError.__init__"))
theorem Zf9{prog:Program}{w:World}{A:Around}{E:Value->Shared->Prop}{s:Shared}{K:Frag}{x:Addr}{C c:Value}{Q:Value->Shared->Prop}(X:K.In s.heap)(ty:∀M,Looks M s.heap (typeOf (.ref x)) C)(hne:(C == c)=false)(e:kitCls K C c=some true)
  (h:Q (.bool true) s):wpAny (model prog w) A (call (.builtin "isinstance") [.ref x,c]) Q E s:=by
 refine call_isinstance (S:=fun _ R s=>(K.In s.heap/\∀M,Looks M s.heap (typeOf (.ref x)) C)/\R (.ok (.ret (.bool true))) s) (fun prog w A R s hs=>isinstance_outer ?_ (fun z=>nomatch z)) ⟨⟨X,ty⟩,h⟩
 ·obtain⟨⟨X,LT⟩,hq⟩:=hs;obtain⟨h0,g,d,tt,os⟩:=s;unfold Builtin.«isinstance.nested»;refine wpAny_bind ((LT _).at ?_);rw[if_neg (by rw[hne];decide)];obtain⟨hty,his,hsub⟩:=kit_cls (M:=model prog w) X e;refine wpAny_bind (hty.at ?_);rw[if_pos (by decide)]
  k_delta "plainIsInstance"
  refine wpAny_bind (wpAny_bind (his.at ?_));simp only[Bool.not_true,Bool.false_eq_true,if_false];refine wpAny_bind (((LT _).andThen hsub).at ?_)
  first|exact wpAny_pure (wpAny_pure hq)|(simp only[if_true];first|exact wpAny_pure (wpAny_pure hq)|exact wpAny_pure hq)
section
variable{prog:Program}{w:World}{A:Around}{K:Frag}{C G:Addr}{R:Result->Shared->Prop}{s:Shared}
theorem Zlc{us:List Value}(x:XTop K C G)(X:K.In s.heap)(hi:findIn K (.ref C) "__init__" = some (some (.builtin "ValueError.__init__"))) (hl:us.length<=sizeLine)
  (hq:R (.ok (.ret (.ref (s.heap.objs.size+1)))) { s with heap:=(((s.heap.push (Zar us)).push (ZaI C s.heap.objs.size)).push (Zar us)).update (s.heap.objs.size+1) (Obj.mapFields (·.setIfInBounds 0 (.ref (s.heap.objs.size+2)))) }) :
  codeAny (model prog w) A (.call (.ref C) ⟨us,[]⟩) R s:=by
 have F0:=F.excBase_ValueError;refine ZgW x X hi (fun self=>Looks.of_pure (F0.init.bind self)) hl ?_;obtain⟨hh,g,d,tk,os⟩:=s;obtain⟨nm,q,N,bs,hdct,sn,sub,ab,col,dd,k0,k1,k2,k3,k5,hK⟩:=x.ob;have k:∀b o,hh.get? b=some o->((hh.push (Zar us)).push (ZaI C hh.objs.size)).get? b=some o:=fun b o e=>Heap.get?_push_of_some _ (Heap.get?_push_of_some _ e);have hx:((hh.push (Zar us)).push (ZaI C hh.objs.size)).get? (hh.objs.size+1)=some (ZaI C hh.objs.size):=by heap_get
 have X2:=X.keeps k;refine codeAny_call_builtin F0.init.plain F0.initEntry (wpAny_check_init_subT F0 (x.mid.tail X2) (X2 _ _ hK) hx rfl ?_);have hx2:(((hh.push (Zar us)).push (ZaI C hh.objs.size)).push (Zar us)).get? (hh.objs.size+1)=some (ZaI C hh.objs.size):=Heap.get?_push_of_some _ hx;unfold Builtin.«BaseException.__init__»;refine wpAny_bind (wpAny_newTuple ?_ hl);unfold Builtin.BaseException.bexcPut;refine wpAny_bind (wpAny_bind (wpAny_field (s:=⟨((hh.push (Zar us)).push (ZaI C hh.objs.size)).push (Zar us),g,d,tk,os⟩) hx2 rfl (x:=.ref hh.objs.size) rfl (wpAny_bind (wpAny_setField (s:=⟨((hh.push (Zar us)).push (ZaI C hh.objs.size)).push (Zar us),g,d,tk,os⟩) hx2 rfl (by simp) ?_))))
 wp_walk
 refine⟨rfl,?_⟩;have e2:((hh.push (Zar us)).push (ZaI C hh.objs.size)).objs.size=hh.objs.size+2:=by rw[Heap.size_push,Heap.size_push]
 rw[<- e2] at hq;exact hq
end
def Zjy(C:Addr)(E:XKS)(t:TA):TS:=fun _ σ H=>t σ H fun vs H1=>vs.length<=1000/\∀y,H1 y=none->E σ (.ref C) none (upd H1 y (.ext (XO y (.ref C) none)))
section
variable{X:Cx}{j k:Nat}{C G:Addr}{E:XKS}{x:Str}{p pos cpos:Pos}{e:Expr}{es:List Expr}{t:TA}
theorem Zhr(Z:XTop X.K C G)(hi:findIn X.K (.ref C) "__init__" = some (some (.builtin "ValueError.__init__"))) (nm:X.mg x=some (.ref C)) (hT:ZgX X E) (hr:Room k X.A) (hg:Gl X x) (ha:PA X (e::es) t) (hdb:(x == ("__debug__" : Str))=false:=by decide)
  (he:starEach (e::es) X.env=(false,eval e X.env)::starEach es X.env:=by rfl) (hpl:(backTo cpos (starEach es X.env)).any (·.1)=false:=by rfl) :
  PS X (.Raise (some (.Call (.Name x p) (e::es) [] cpos)) none pos) (Zjy C E t):=by
 intro pins s σ H D I h;show wpAny _ _ (standAt pos >>= fun _=>raiseStmt X.env (some (eval (.Call (.Name x p) (e::es) [] cpos) X.env >>= fun v=>standAt pos >>= fun _=>pure v)) none) _ _ s;refine wpAny_bind (wpAny_standAt (Zin (hr.hd) Z (wpAny_bind ?_)));refine wpAny_Call_Name_kw (Zdi I hg nm ?_ hdb);refine PySem.W.callWith_K (h₀ := X.base) I.ok.mod.kin Z.kp (thn (ha cpos pins s σ H _ I h) fun us s1 ⟨vs,H1,I1,r,hl,q⟩=>⟨I1.kIn,?_⟩) he hpl;have hlu:us.length<=sizeLine:=by rw[<- r.length];exact Nat.le_trans hl (by decide)
 have hy:H1 (s1.heap.objs.size+1)=none:=I1.hok.fresh (Nat.le_succ _);have hE:=q (s1.heap.objs.size+1) hy;refine wpAny_call (Zlc Z I1.kIn hi hlu ?_);have hx:((s1.heap.push (Zar us)).push (ZaI C s1.heap.objs.size)).get? (s1.heap.objs.size+1)=some (ZaI C s1.heap.objs.size):=by heap_get
 have hx2:(((s1.heap.push (Zar us)).push (ZaI C s1.heap.objs.size)).push (Zar us)).get? (s1.heap.objs.size+1)=some (ZaI C s1.heap.objs.size):=Heap.get?_push_of_some _ hx;have I2:Inv X pins σ (upd H1 (s1.heap.objs.size+1) (.ext (XO (s1.heap.objs.size+1) (.ref C) none))) { s1 with heap:=(s1.heap.push (Zar us)).push (ZaI C s1.heap.objs.size) }:=by
  have a:=I1.kept (t':=s1.toks) (h':=s1.heap.push (Zar us)) fun b u q=>Heap.get?_push_of_some _ q;exact a.laid (t':=s1.toks) (fun b u q=>Heap.get?_push_of_some _ q) (by show(s1.heap.push (Zar us)).objs.size<=_;rw[Heap.size_push];exact Nat.le_refl _) (XO.ext_ok ⟨_,_,hx,rfl,rfl,rfl,by simp⟩)
 have I3:=I2.kept (t':=s1.toks) (h':=((s1.heap.push (Zar us)).push (ZaI C s1.heap.objs.size)).push (Zar us)) fun b u q=>Heap.get?_push_of_some _ q;have I4:=I3.poke (t':=s1.toks) (h':=(((s1.heap.push (Zar us)).push (ZaI C s1.heap.objs.size)).push (Zar us)).update (s1.heap.objs.size+1) (Obj.mapFields (·.setIfInBounds 0 (.ref (s1.heap.objs.size+2))))) Zb (fun b u hb z=>(Heap.get?_update_other _ _ (Ne.symm hb)).trans z) (XO.put ⟨_,_,hx2,rfl,rfl,rfl,by simp⟩ 0 _);have hget:=ZfW 0 (.ref (s1.heap.objs.size+2)) hx2 rfl;refine wpAny_bind (wpAny_standAt (wpAny_pure ⟨_,none,rfl,I4.kIn,⟨_,_,s1.heap.objs.size+2,hget,rfl,rfl,rfl,by simp,rfl,rfl⟩,?_⟩));exact hT pins σ _ _ _ (.ref C) none I4 Zb (fun _=>Nat.le_trans I1.sz (Nat.le_succ _)) (.inl ⟨_,_,hget,rfl,rfl⟩) hE
end
section
variable{X:Cx}
theorem ZhX:Zbk X (.builtin "isinstance") (fun xs H Q=>∃a oe C D,xs=[.ref a,.ref D]/\H a=some (Known a oe)/\oe.cls=.ref C/\C≠D/\isClsIn X.K D=true/\typeIn X.K (.ref D)=some (.type "type")/\mroIn X.K C (.ref D)=some true/\Q (.bl true) H):=by
 intro pins s σ H xs us Q I r h;obtain⟨a,oe,C,D,rfl,hk,hc,hne,h1,h2,h3,q⟩:=h;obtain⟨u,v,rfl,rx,ry⟩:=Vals.two r;obtain rfl:u=Value.ref a:=rx;obtain rfl:v=Value.ref D:=ry;have ho:s.heap.get? a=some oe:=(I.hok a _ hk).1;refine Zf9 I.kIn (C:=.ref C) (fun M=>hc ▸ (Looks.ld ho).andThen .now) (by simpa using hne) ?_ ⟨.bl true,H,I,rfl,q⟩;unfold kitCls;dsimp only;unfold isClsIn at h1;rw[h1,h2,if_pos (by decide)];exact h3
theorem Zg5:Zbk X (.builtin "isinstance") (fun xs H Q=>∃a oe C n,xs=[.ref a,.ty n]/\H a=some (Known a oe)/\oe.cls=.ref C/\kitMeta n=true/\mroIn X.K C (.type n)=some true/\Q (.bl true) H):=by
 intro pins s σ H xs us Q I r h;obtain⟨a,oe,C,n,rfl,hk,hc,h1,h3,q⟩:=h;obtain⟨u,v,rfl,rx,ry⟩:=Vals.two r;obtain rfl:u=Value.ref a:=rx;obtain rfl:v=Value.type n:=ry;have ho:s.heap.get? a=some oe:=(I.hok a _ hk).1;refine Zf9 I.kIn (C:=.ref C) (fun M=>hc ▸ (Looks.ld ho).andThen .now) rfl ?_ ⟨.bl true,H,I,rfl,q⟩;unfold kitCls;dsimp only;rw[if_pos h1];exact h3
end
variable{X:Cx}
theorem ZgL{K:Frag}(hK:X.K=K):Zbk X (.builtin "isinstance") (fun xs H Q=>∃a oe C D,xs=[.ref a,.ref D]/\H a=some (Known a oe)/\oe.cls=.ref C/\C≠D/\isClsIn K D=true/\typeIn K (.ref D)=some (.type "type")/\mroIn K C (.ref D)=some true/\Q (.bl true) H):=by
 subst hK;exact ZhX
theorem ZgN{K:Frag}(hK:X.K=K):Zbk X (.builtin "isinstance") (fun xs H Q=>∃a oe C n,xs=[.ref a,.ty n]/\H a=some (Known a oe)/\oe.cls=.ref C/\kitMeta n=true/\mroIn K C (.type n)=some true/\Q (.bl true) H):=by
 subst hK;exact Zg5
end L2
namespace Srt
open PySem PyProof.Rows
def Zfd:Bool->Keyed->Array Keyed->Nat->Nat->Nat->StateT SortSt Sem (Option Nat):=sortPriv% PySem.Builtin.gallop
def Ziq:Array Keyed->Array Keyed->StateT SortSt Sem (Array Keyed):=sortPriv% PySem.Builtin.mergeLo
def Ziw:Array Keyed->Array Keyed->StateT SortSt Sem (Array Keyed):=sortPriv% PySem.Builtin.mergeHi
structure Like(st st':SortSt):Prop where
 arr:arrOf st'=arrOf st
 kind:kindOf st'=kindOf st
 fail:failedOf st'=failedOf st
 pend:pendingOf st'=pendingOf st
theorem Like.refl(st:SortSt):Like st st:=⟨rfl,rfl,rfl,rfl⟩
theorem Like.trans{a b c:SortSt}(x:Like a b)(y:Like b c):Like a c:=⟨y.arr.trans x.arr,y.kind.trans x.kind,y.fail.trans x.fail,y.pend.trans x.pend⟩
section
variable{prog:Program}{w:World}{A:Around}{E:Value->Shared->Prop}{s:Shared}{κ : SortKind}{Ok:Keyed->Prop}{st:SortSt}
theorem ZX{arr:Array Keyed}{i:Nat}{Q:Keyed->SortSt->Prop}(hi:i<arr.size)(h:∀p,p∈arr.toList->arr[i]?= some p->Q p st):wpS (model prog w) A E s (elem' arr i) Q st:=by
 have e:arr[i]?= some arr[i]:=getElem?_pos arr i hi;rw[elem'_eq,e];exact wpS_pure (h _ (by simp) e)
end
def Out(a b:Array Keyed)(out:Array Keyed)(ia ib:Nat):Prop:=out.toList.Perm (a.toList.take ia++b.toList.take ib)
section
variable{a b out:Array Keyed}{ia ib:Nat}
theorem ZkC{α : Type}(x y z w:List α):(x++y++(z++w)).Perm (x++z++(y++w)):=by
 rw[List.append_assoc,List.append_assoc];refine List.Perm.append_left x ?_;rw[<- List.append_assoc,<- List.append_assoc];exact List.Perm.append_right w List.perm_append_comm
theorem Out.done(h:Out a b out ia ib):(out++a.extract ia a.size++b.extract ib b.size).toList.Perm (a.toList++b.toList):=by
 rw[Array.toList_append,Array.toList_append,Array.toList_extract,Array.toList_extract];have e1:a.toList.extract ia a.size=a.toList.drop ia:=by rw[List.extract_eq_drop_take];apply List.take_of_length_le;rw[List.length_drop,Array.length_toList];exact Nat.le_refl _
 have e2:b.toList.extract ib b.size=b.toList.drop ib:=by rw[List.extract_eq_drop_take];apply List.take_of_length_le;rw[List.length_drop,Array.length_toList];exact Nat.le_refl _
 rw[e1,e2,List.append_assoc];refine(List.Perm.append_right _ h).trans ((ZkC ..).trans ?_);rw[List.take_append_drop,List.take_append_drop]
theorem Out.last(h:Out a b out ia ib):(out++b.extract ib b.size++a.extract ia a.size).toList.Perm (a.toList++b.toList):=by
 refine List.Perm.trans ?_ h.done;rw[Array.toList_append,Array.toList_append,Array.toList_append,Array.toList_append,List.append_assoc,List.append_assoc];exact List.Perm.append_left _ List.perm_append_comm
theorem Out.extA{k:Nat}(h:Out a b out ia ib)(hk:ia+k<=a.size):Out a b (out++a.extract ia (ia+k)) (ia+k) ib:=by
 unfold Out;rw[Array.toList_append,Array.toList_extract,List.extract_eq_drop_take];have e:a.toList.take (ia+k)=a.toList.take ia++(a.toList.drop ia).take k:=List.take_add ..;rw[e,show ia+k-ia=k by lia];refine(List.Perm.append_right _ h).trans ?_;rw[List.append_assoc,List.append_assoc];exact List.Perm.append_left _ List.perm_append_comm
theorem Out.extB{k:Nat}(h:Out a b out ia ib)(hk:ib+k<=b.size):Out a b (out++b.extract ib (ib+k)) ia (ib+k):=by
 unfold Out;rw[Array.toList_append,Array.toList_extract,List.extract_eq_drop_take];have e:b.toList.take (ib+k)=b.toList.take ib++(b.toList.drop ib).take k:=List.take_add ..;rw[e,show ib+k-ib=k by lia];refine(List.Perm.append_right _ h).trans ?_;rw[List.append_assoc]
theorem Zel{α : Type}{xs:List α}{i:Nat}{p : α}(h:xs[i]?= some p):xs.take (i+1)=xs.take i ++ [p]:=by
 obtain⟨hi,e⟩:=List.getElem?_eq_some_iff.mp h;rw[List.take_succ_eq_append_getElem hi,e]
theorem Out.pushA{p:Keyed}(h:Out a b out ia ib)(hp:a[ia]?= some p):Out a b (out.push p) (ia+1) ib:=by
 have hp':a.toList[ia]?= some p:=by rw[<- hp];simp
 unfold Out;rw[Array.toList_push,Zel hp'];refine(List.Perm.append_right _ h).trans ?_;rw[List.append_assoc,List.append_assoc];exact List.Perm.append_left _ List.perm_append_comm
theorem Out.pushB{p:Keyed}(h:Out a b out ia ib)(hp:b[ib]?= some p):Out a b (out.push p) ia (ib+1):=by
 have hp':b.toList[ib]?= some p:=by rw[<- hp];simp
 unfold Out;rw[Array.toList_push,Zel hp'];refine(List.Perm.append_right _ h).trans ?_;rw[List.append_assoc]
theorem Zmp{p:Keyed}(hp:b[0]?= some p):Out a b #[p] 0 1:=by
 have h0:Out a b #[] 0 0:=by
  unfold Out;rw[List.take_zero,List.take_zero];exact List.Perm.refl _
 exact h0.pushB hp
end
section
variable{prog:Program}{w:World}{A:Around}{E:Value->Shared->Prop}{s:Shared}{κ : SortKind}{Ok:Keyed->Prop}{st:SortSt}
theorem ZaU(st:SortSt)(g:Nat):Like st (SortSt.mk' (kindOf st) (arrOf st) (pendingOf st) g (failedOf st)):=⟨rfl,rfl,rfl,rfl⟩
end
def Zc4(a b:Array Keyed)(out:Array Keyed)(na nb:Nat):Prop:=out.toList.Perm (a.toList.drop na++b.toList.drop nb)
section
variable{a b out:Array Keyed}{na nb:Nat}
theorem ex0(a:Array Keyed)(n:Nat):(a.extract 0 n).toList=a.toList.take n:=by
 rw[Array.toList_extract,List.extract_eq_drop_take,List.drop_zero,Nat.sub_zero]
theorem Zc4.done(h:Zc4 a b out na nb):(a.extract 0 na++b.extract 0 nb++out.reverse).toList.Perm (a.toList++b.toList):=by
 rw[Array.toList_append,Array.toList_append,ex0,ex0,Array.toList_reverse];refine(List.Perm.append_left _ ((List.reverse_perm _).trans h)).trans ((ZkC ..).trans ?_);rw[List.take_append_drop,List.take_append_drop]
theorem Zc4.first(h:Zc4 a b out na nb):(b.extract 0 nb++a.extract 0 na++out.reverse).toList.Perm (a.toList++b.toList):=by
 refine List.Perm.trans ?_ h.done;rw[Array.toList_append,Array.toList_append,Array.toList_append,Array.toList_append];exact List.Perm.append_right _ List.perm_append_comm
theorem ZfU{α : Type}{xs:List α}{i:Nat}{p : α}(h:xs[i]?= some p):xs.drop i=p::xs.drop (i+1):=by
 obtain⟨hi,e⟩:=List.getElem?_eq_some_iff.mp h;rw[<- e];exact List.drop_eq_getElem_cons hi
theorem Zc4.pushA{p:Keyed}(h:Zc4 a b out na nb)(h1:1<=na)(hp:a[na-1]?= some p):Zc4 a b (out.push p) (na-1) nb:=by
 have hp':a.toList[na-1]?= some p:=by rw[<- hp];simp
 unfold Zc4;rw[Array.toList_push,ZfU hp',Nat.sub_add_cancel h1];refine(List.Perm.append_right _ h).trans ?_;exact List.perm_append_comm
theorem Zc4.pushB{p:Keyed}(h:Zc4 a b out na nb)(h1:1<=nb)(hp:b[nb-1]?= some p):Zc4 a b (out.push p) na (nb-1):=by
 have hp':b.toList[nb-1]?= some p:=by rw[<- hp];simp
 unfold Zc4;rw[Array.toList_push,ZfU hp',Nat.sub_add_cancel h1];refine(List.Perm.append_right _ h).trans ?_;rw[List.append_assoc];refine List.Perm.append_left _ ?_;exact List.perm_append_comm
theorem ZfR{α : Type}(xs:List α){i j:Nat}(h:i<=j):xs.drop i=(xs.drop i).take (j-i)++xs.drop j:=by
 have:=List.take_append_drop (j-i) (xs.drop i);rw[List.drop_drop,Nat.add_sub_cancel' h] at this;exact this.symm
theorem Zc4.extA{k:Nat}(h:Zc4 a b out na nb)(hk:k<=na):Zc4 a b (out++(a.extract k na).reverse) k nb:=by
 unfold Zc4;rw[Array.toList_append,Array.toList_reverse,Array.toList_extract,List.extract_eq_drop_take];refine(List.Perm.append h (List.reverse_perm _)).trans ?_;refine List.perm_append_comm.trans ?_;rw[<- List.append_assoc,<- ZfR a.toList hk]
theorem Zc4.extB{k:Nat}(h:Zc4 a b out na nb)(hk:k<=nb):Zc4 a b (out++(b.extract k nb).reverse) na k:=by
 unfold Zc4;rw[Array.toList_append,Array.toList_reverse,Array.toList_extract,List.extract_eq_drop_take];refine(List.Perm.append h (List.reverse_perm _)).trans ?_;rw[List.append_assoc];refine List.Perm.append_left _ (List.perm_append_comm.trans ?_);rw[<- ZfR b.toList hk]
theorem ZlT{p:Keyed}(h1:1<=a.size)(hp:a[a.size-1]?= some p):Zc4 a b #[p] (a.size-1) b.size:=by
 have h0:Zc4 a b #[] a.size b.size:=by
  unfold Zc4;rw[List.drop_eq_nil_of_le (by rw[Array.length_toList];exact Nat.le_refl _),List.drop_eq_nil_of_le (by rw[Array.length_toList];exact Nat.le_refl _)];exact List.Perm.refl _
 exact h0.pushA h1 hp
end
structure Pm(st st':SortSt):Prop where
 arr:(arrOf st').toList.Perm (arrOf st).toList
 kind:kindOf st'=kindOf st
 fail:failedOf st'=failedOf st
 pend:pendingOf st'=pendingOf st
theorem Pm.refl(st:SortSt):Pm st st:=⟨List.Perm.refl _,rfl,rfl,rfl⟩
theorem Pm.trans{a b c:SortSt}(x:Pm a b)(y:Pm b c):Pm a c:=⟨y.arr.trans x.arr,y.kind.trans x.kind,y.fail.trans x.fail,y.pend.trans x.pend⟩
theorem Pm.size{a b:SortSt}(x:Pm a b):(arrOf b).size=(arrOf a).size:=by
 have:=x.arr.length_eq;rw[Array.length_toList,Array.length_toList] at this;exact this
theorem Pm.ok{a b:SortSt}{Ok:Keyed->Prop}(x:Pm a b)(h:∀p∈(arrOf a).toList,Ok p):∀p∈(arrOf b).toList,Ok p:=fun p hp=>h p (x.arr.mem_iff.mp hp)
theorem Pm.mirror(st:SortSt)(i j:Nat):Pm st (setArr st (mirror (arrOf st) i j ((j-i) / 2))):=⟨Array.perm_iff_toList_perm.mp (mirror_perm _ _ _ _),rfl,rfl,rfl⟩
theorem Pm.bubble(st:SortSt)(i j:Nat):Pm st (setArr st (bubble (arrOf st) i (i-j))):=⟨Array.perm_iff_toList_perm.mp (bubble_perm _ _ _),rfl,rfl,rfl⟩
def Cov:List (Nat×Nat×Nat)->Nat->Nat->Prop
 | [],lo,hi=>lo=hi
 | x::r,lo,hi=>x.1=lo/\1<=x.2.1/\Cov r (lo+x.2.1) hi
theorem Cov.le:∀{l:List (Nat×Nat×Nat)}{lo hi:Nat},Cov l lo hi->lo+l.length<=hi
 | [],lo,hi,h=>Nat.le_of_eq h
 | x::r,lo,hi,⟨_,h1,h2⟩=>by
  have:=Cov.le h2;rw[List.length_cons];lia
theorem Cov.push:∀{l:List (Nat×Nat×Nat)}{lo hi n p:Nat},Cov l lo hi->1<=n->Cov (l ++ [(hi,n,p)]) lo (hi+n)
 | [],lo,hi,n,p,h,h1=>by
  have e:lo=hi:=h;subst e;exact⟨rfl,h1,rfl⟩
 | x::r,lo,hi,n,p,⟨a,b,c⟩,h1=>⟨a,b,c.push h1⟩
theorem Cov.at:∀{l:List (Nat×Nat×Nat)}{i lo hi sa na p sb nb q:Nat},Cov l lo hi->l[i]?= some (sa,na,p)->l[i+1]?= some (sb,nb,q) ->
  sb=sa+na/\1<=na/\1<=nb/\sb+nb<=hi/\Cov ((l.set i (sa,na+nb,p)).eraseIdx (i+1)) lo hi
 | x::y::r,0,lo,hi,sa,na,p,sb,nb,q,⟨a,b,c1,c2,c3⟩,h1,h2=>by
  have e1:x=(sa,na,p):=by simpa using h1
  have e2:y=(sb,nb,q):=by simpa using h2
  subst e1;subst e2;have a':sa=lo:=a;have c1':sb=lo+na:=c1;have hle:=c3.le;subst a';refine⟨c1',b,c2,?_,rfl,?_,?_⟩
  ·have:sa+na+nb<=hi:=by
    have h3:sa+na+nb+r.length<=hi:=hle;lia
   lia
  ·show 1<=na+nb;have:1<=na:=b;lia
  ·show Cov r (sa+(na+nb)) hi;rw[<- Nat.add_assoc];exact c3
 | x::r,i+1,lo,hi,sa,na,p,sb,nb,q,⟨a,b,c⟩,h1,h2=>by
  obtain⟨k1,k2,k3,k4,k5⟩:=Cov.at (l:=r) (i:=i) c (by simpa using h1) (by simpa using h2);exact⟨k1,k2,k3,k4,a,b,k5⟩
 | [x],0,_,_,_,_,_,_,_,_,_,_,h2=>by simp at h2
 | [],_,_,_,_,_,_,_,_,_,_,h1,_=>by simp at h1
theorem Cov.last:∀{l:List (Nat×Nat×Nat)}{lo hi:Nat}(f:Nat×Nat×Nat->Nat×Nat×Nat)(_:∀x,(f x).1=x.1/\(f x).2.1=x.2.1)(i:Nat),Cov l lo hi->Cov (l.modify i f) lo hi
 | [],lo,hi,f,hf,i,h=>by cases i <;> exact h
 | x::r,lo,hi,f,hf,0,⟨a,b,c⟩=>by
  refine⟨(hf x).1.trans a,by rw[(hf x).2];exact b,?_⟩;rw[(hf x).2];exact c
 | x::r,lo,hi,f,hf,i+1,⟨a,b,c⟩=>⟨a,b,Cov.last f hf i c⟩
theorem splice(base:Nat):∀(m:List Keyed)(n:Nat)(arr:Array Keyed),base+n+m.length<=arr.size ->
  ((m.zipIdx n).foldl (fun(a:Array Keyed)(x:Keyed×Nat)=>match x with|(p,j)=>a.setIfInBounds (base+j) p) arr).toList=arr.toList.take (base+n)++m++arr.toList.drop (base+n+m.length)
 | [],n,arr,_=>by
  show arr.toList=_;rw[List.append_nil,List.length_nil,Nat.add_zero,List.take_append_drop]
 | p::m,n,arr,h=>by
  rw[List.length_cons] at h;rw[List.zipIdx_cons,List.foldl_cons];have hs:(arr.setIfInBounds (base+n) p).size=arr.size:=Array.size_setIfInBounds;rw[splice base m (n+1) _ (by rw[hs];lia),Array.toList_setIfInBounds];have hl:base+n<arr.toList.length:=by rw[Array.length_toList];lia
  rw[<- Nat.add_assoc,List.take_set,List.drop_set_of_lt (by lia)];have e1:(arr.toList.take (base+n+1)).set (base+n) p=arr.toList.take (base+n) ++ [p]:=by
   rw[List.take_succ_eq_append_getElem hl,List.set_append_right _ _ (by rw[List.length_take];lia)];rw[show base+n-(arr.toList.take (base+n)).length=0 by rw[List.length_take];lia];rfl
  rw[e1,List.length_cons,show base+n+1+m.length=base+n+(m.length+1) by lia];simp
section
variable{prog:Program}{w:World}{A:Around}{E:Value->Shared->Prop}{s:Shared}{κ : SortKind}{Ok:Keyed->Prop}{st:SortSt}
structure SB(a₀ : Array Keyed)(κ : SortKind)(hi:Nat)(st:SortSt):Prop where
 arr:(arrOf st).toList.Perm a₀.toList
 kind:kindOf st= κ
 fail:failedOf st=none
 cov:Cov (pendingOf st).toList 0 hi
theorem SB.size{a₀ : Array Keyed}{hi:Nat}(x:SB a₀ κ hi st):(arrOf st).size=a₀.size:=by
 have:=x.arr.length_eq;rw[Array.length_toList,Array.length_toList] at this;exact this
theorem SB.ok{a₀ : Array Keyed}{hi:Nat}(x:SB a₀ κ hi st)(h:∀p∈a₀.toList,Ok p):∀p∈(arrOf st).toList,Ok p:=fun p hp=>h p (x.arr.mem_iff.mp hp)
theorem SB.pm{a₀ : Array Keyed}{hi:Nat}{st':SortSt}(x:SB a₀ κ hi st)(p:Pm st st'):SB a₀ κ hi st':=⟨p.arr.trans x.arr,p.kind.trans x.kind,p.fail.trans x.fail,by rw[p.pend];exact x.cov⟩
theorem ZjR{v:SortSt}{Q:PUnit->SortSt->Prop}(h:Q ⟨⟩ v):wpS (model prog w) A E s (set v:StateT SortSt Sem PUnit) Q st:=by
 unfold wpS;rw[StateT.run_set];exact wpAny_pure ⟨rfl,h⟩
theorem Zhp(base:Nat)(m:List Keyed)(arr:Array Keyed)(h:base+m.length<=arr.size) :
  (m.zipIdx.foldl (fun(a:Array Keyed)(x:Keyed×Nat)=>a.setIfInBounds (base+x.2) x.1) arr).toList=arr.toList.take base++m++arr.toList.drop (base+m.length):=splice base m 0 arr h
theorem Zi0(L:List Keyed){m b e:Nat}(h1:m<=b)(h2:b<=e):L.extract m b++L.extract b e=(L.drop m).take (e-m):=by
 rw[List.extract_eq_drop_take,List.extract_eq_drop_take,show e-m=(b-m)+(e-b) by lia,List.take_add,List.drop_drop,Nat.add_sub_cancel' h1]
theorem Zf6{L r:List Keyed}{m c:Nat}(h:r.Perm ((L.drop m).take c))(hc:r.length=c):(L.take m++r++L.drop (m+r.length)).Perm L:=by
 subst hc;have e:L=L.take m++(L.drop m).take r.length++L.drop (m+r.length):=by
  rw[List.append_assoc,<- List.drop_drop,List.take_append_drop,List.take_append_drop]
 refine List.Perm.trans ?_ (List.Perm.of_eq e.symm);exact List.Perm.append_right _ (List.Perm.append_left _ h)
end
section
variable{prog:Program}{w:World}{A:Around}{E:Value->Shared->Prop}{s:Shared}
theorem ZeB{vs:List Value}{xs:Array Keyed}(h:xs.toList.Perm (pairsOf vs).toList):(xs.map (·.2)).toList.Perm vs:=by
 rw[Array.toList_map];refine(h.map (·.2)).trans (List.Perm.of_eq ?_);rw[pairsOf_toList,show(fun p:Keyed=>p.2)=Prod.snd from rfl,List.map_snd_zip (Nat.le_refl _)]
end
end Srt
namespace L2
open PySem PySem.Spec PyProof.Rows
theorem Zhj{us us':List Value}(h:us'.Perm us):∀{vs:List V},Vals vs us->∃vs',vs'.Perm vs/\Vals vs' us':=by
 induction h with
 | nil=>exact fun r=>⟨_,List.Perm.refl _,r⟩
 | cons x _ ih =>
  intro vs r;cases r with
  | cons a t =>
   obtain⟨ws,p,r'⟩:=ih t;exact⟨_::ws,p.cons _,.cons a r'⟩
 | swap x y l =>
  intro vs r;cases r with
  | cons a t =>
   cases t with
   | cons b t=>exact⟨_,List.Perm.swap ..,.cons b (.cons a t)⟩
 | trans _ _ ih1 ih2 =>
  intro vs r;obtain⟨ws,p,r1⟩:=ih2 r;obtain⟨ws',p',r2⟩:=ih1 r1;exact⟨ws',p'.trans p,r2⟩
theorem Zcw:∀{vs:List V}{us:List Value},Vals vs us->∀u∈us,∃v∈vs,RelV v u
 | _,_,.cons a t,u,hu=>by
  rcases List.mem_cons.mp hu with rfl|hu
  ·exact⟨_,List.mem_cons_self ..,a⟩
  ·obtain⟨v,hv,r⟩:=Zcw t u hu;exact⟨v,List.mem_cons_of_mem _ hv,r⟩
end L2
namespace L2
open PySem PySem.Spec PyProof.Rows PySem.W
def ZhO(h:Heap)(d:Addr)(es:Array DictEntry)(ep:Nat):Prop := ∃o,h.get? d=some o/\o.ExactDict/\o.data=.dict es ep
theorem ZhO.tyIs{s:Shared}{d:Addr}{es:Array DictEntry}{ep:Nat}(x:ZhO s.heap d es ep):s.TypeIs (.ref d) "dict" := let ⟨o,ho,hc,_⟩:=x;⟨o,ho,hc.1⟩
theorem ZhO.to{h h':Heap}{d:Addr}{es:Array DictEntry}{ep:Nat}(x:ZhO h d es ep)(e:∀o,h.get? d=some o->h'.get? d=some o):ZhO h' d es ep:=let ⟨o,ho,r⟩:=x;⟨o,e _ ho,r⟩
section
variable{prog:Program}{w:World}{A:Around}{E:Value->Shared->Prop}{s:Shared}{it d:Addr}{es:Array DictEntry}{i ep:Nat}
theorem ZiJ{Q:Value->Shared->Prop}(lo:(d == sysModules)=false)(x:ZhO s.heap d es ep)
  (q:Q (.ref s.heap.objs.size) { s with heap:=s.heap.push { cls:=.type "dict_keyiterator",data:=.fields #[.ref d,.int 0 0,.int es.size 0,.int ep 0] } }):wpAny (model prog w) A (pyIter (.ref d)) Q E s:=by
 obtain⟨o,ho,hx,hdat⟩:=id x;have hT:=x.tyIs;refine wpAny_pyIter_slot hT PySem.F.slot_dict_iter (wpAny_call_entry PySem.F.slot_dict_iter hT PySem.F.entry_dict_iter ?_ (PySem.F.args_dict_iter_1 _));unfold Builtin.«dict.__iter__»;refine wpAny_bind ?_;unfold Builtin.Dict.dictSlotNone;refine wpAny_bind (wpAny_notOrdered_dict hT ?_);refine wpAny_pure (?_:wpAny _ _ (Builtin.Dict.showsAll d >>= _) _ _ s);unfold Builtin.Dict.showsAll;rw[if_neg (by rw[lo];exact Bool.false_ne_true)];refine wpAny_bind (wpAny_pure (wpAny_bind (wpAny_dictEntries ho hdat (wpAny_bind (wpAny_dictEpoch ho hdat ?_)))));exact wpAny_bind (wpAny_newObj_type (wpAny_pure ⟨_,rfl,"dict_keyiterator",_,⟨_,Heap.get?_push_size _ rfl,rfl⟩,PySem.F.slot_dict_keyiterator_next.lookup,q⟩))
theorem Zix{Q:Option Value->Shared->Prop}(st:s.heap.IsKeyIter it d i es.size ep)(x:ZhO s.heap d es ep)(hi:i<es.size)
  (q:∀h',h'.IsKeyIter it d (i+1) es.size ep->Heap.SameBut it s.heap h'->Q (some es[i].key) { s with heap:=h' }):wpAny (model prog w) A (pyNext (.ref it)) Q E s:=by
 obtain⟨o,ho,hc,hd⟩:=id st;obtain⟨od,hod,hxd,hdd⟩:=id x;unfold pyNext;refine wpAny_bind (wpAny_attempt (wpAny_callSpecial?_slot (name:=Str.ofString "__next__") st.typeIs PySem.F.slot_dict_keyiterator_next (wpAny_call_entry PySem.F.slot_dict_keyiterator_next st.typeIs PySem.F.entry_dict_keyiterator_next ?_ (PySem.F.args_dict_keyiterator_next_1 _))));refine wpAny_bind (wpAny_pure (wpAny_bind (wpAny_bind ?_)))
 first|refine wpAny_bind (wpAny_typeNameOfWhole_keyiter st.typeIs (wpAny_pure (wpAny_bind (wpAny_fieldsOf ho hd ?_))))|refine wpAny_bind (wpAny_typeNameOf_keyiter st.typeIs (wpAny_pure (wpAny_bind (wpAny_fieldsOf ho hd ?_))))
 have own:Builtin.Dict_items.ownsTuple "dict_keyiterator" = false:=by decide
 simp only[own,Bool.false_eq_true,if_false];change wpAny _ _ (if(Value.ref d == Value.none)=true then _ else _) _ _ s
 rw[if_neg (fun z:(Value.ref d == Value.none)=true=>Bool.false_ne_true z)];refine wpAny_bind (wpAny_pure (wpAny_bind (wpAny_dictEntries hod hdd ?_)));rw[if_neg (by simp)];refine wpAny_bind (wpAny_pure (wpAny_bind (wpAny_dictEpoch hod hdd ?_)));rw[if_neg (by simp)];refine wpAny_pure ?_;simp only[show ¬ ((i:Int)<0) by lia,if_false,Int.toNat_natCast,Array.getElem?_eq_getElem hi];refine wpAny_bind ?_;first|refine wpAny_bind (wpAny_typeNameOfWhole_keyiter st.typeIs (wpAny_pure (wpAny_bind (wpAny_isOneOf_keyiter st.typeIs ?_))))|refine wpAny_bind (wpAny_typeNameOf_keyiter st.typeIs (wpAny_pure (wpAny_bind (wpAny_isOneOf_keyiter st.typeIs ?_))))
 change wpAny _ _ (setField (.ref it) 1 (rawInt ((i:Int)+1)) >>= _) _ _ s;refine wpAny_bind (wpAny_setField ho hd (by simp) ?_);have st2:(s.heap.update it (Obj.mapFields (·.setIfInBounds 1 (rawInt ((i:Int)+1))))).IsKeyIter it d (i+1) es.size ep:=⟨_,Heap.get?_update_self _ ho (Obj.isFreed_of_fields (Obj.data_mapFields hd _)),(Obj.cls_mapFields ..).trans hc,by rw[Obj.data_mapFields hd];simp[rawInt]⟩;refine wpAny_bind (wpAny_holding (wpAny_bind (wpAny_isOneOf_keyiter (s:={ s with heap:=s.heap.update it (Obj.mapFields (·.setIfInBounds 1 (rawInt ((i:Int)+1)))) }) st2.typeIs ?_)));change wpAny _ _ (pure es[i].key) _ _ _;exact wpAny_pure (wpAny_pure ⟨_,rfl,wpAny_pure (q _ st2 (Heap.SameBut.update ..))⟩)
theorem Zka{Q:Option Value->Shared->Prop}(hh:A.handled=none)(st:s.heap.IsKeyIter it d i es.size ep)(x:ZhO s.heap d es ep)(hi:es.size<=i)
  (q:∀h',Heap.ExtBut it s.heap h'->Q none { s with heap:=h' }):wpAny (model prog w) A (pyNext (.ref it)) Q E s:=by
 obtain⟨o,ho,hc,hd⟩:=id st;obtain⟨od,hod,hxd,hdd⟩:=id x;unfold pyNext;refine wpAny_bind (wpAny_attempt (wpAny_callSpecial?_slot (name:=Str.ofString "__next__") st.typeIs PySem.F.slot_dict_keyiterator_next (wpAny_call_entry PySem.F.slot_dict_keyiterator_next st.typeIs PySem.F.entry_dict_keyiterator_next ?_ (PySem.F.args_dict_keyiterator_next_1 _))));refine wpAny_bind (wpAny_pure (wpAny_bind (wpAny_bind ?_)))
 first|refine wpAny_bind (wpAny_typeNameOfWhole_keyiter st.typeIs (wpAny_pure (wpAny_bind (wpAny_fieldsOf ho hd ?_))))|refine wpAny_bind (wpAny_typeNameOf_keyiter st.typeIs (wpAny_pure (wpAny_bind (wpAny_fieldsOf ho hd ?_))))
 have own:Builtin.Dict_items.ownsTuple "dict_keyiterator" = false:=by decide
 simp only[own,Bool.false_eq_true,if_false];change wpAny _ _ (if(Value.ref d == Value.none)=true then _ else _) _ _ s
 rw[if_neg (fun z:(Value.ref d == Value.none)=true=>Bool.false_ne_true z)];refine wpAny_bind (wpAny_pure (wpAny_bind (wpAny_dictEntries hod hdd ?_)));rw[if_neg (by simp)];refine wpAny_bind (wpAny_pure (wpAny_bind (wpAny_dictEpoch hod hdd ?_)));rw[if_neg (by simp)];refine wpAny_pure ?_;simp only[show ¬ ((i:Int)<0) by lia,if_false,Int.toNat_natCast,Array.getElem?_eq_none hi];refine wpAny_bind ?_;first|refine wpAny_bind (wpAny_typeNameOfWhole_keyiter st.typeIs (wpAny_pure ?_))|refine wpAny_bind (wpAny_typeNameOf_keyiter st.typeIs (wpAny_pure ?_))
 change wpAny _ _ (setField (.ref it) 0 .none >>= _) _ _ s;refine wpAny_bind (wpAny_setField ho hd (by simp) ?_);change wpAny _ _ (newExc (.type "StopIteration") [] >>= _) _ _ _;refine wpAny_bind ?_;simp only[newExc,newTuple];refine wpAny_bind (wpAny_newObj_type (wpAny_bind (m:=firstArgMember _ _) (wpAny_of_eq (a:=Value.none) (by first|rfl|(simp only[firstArgMember];rfl)) (wpAny_newObj_type ?_ (by size_fits)))) (by size_fits))
 simp only[raiseNew];refine wpAny_bind (wpAny_handled ?_);rw[show A.in1.handled=none from hh];refine wpAny_bind (wpAny_pure (wpAny_throw ?_));refine wpAny_bind (wpAny_isInstance (T := "StopIteration") (b:=true) (v:=.ref _) (by exact⟨_,Heap.get?_push_size _ rfl,rfl⟩) isSubtype_stop ?_);exact wpAny_pure (q _ (((Heap.SameBut.update ..).extBut.push _).push _))
theorem Zhb(hh:A.handled=none)(hne:d≠it):Walks prog w A it [it,d] [it] es.size (fun i v=>∃e,es[i]?= some e/\v=e.key) (fun i h=>h.IsKeyIter it d i es.size ep/\ZhO h d es ep) where
 sub:=fun b hb=>List.mem_cons.mpr (.inl (List.mem_singleton.mp hb))
 frame:=fun _ _ _ st hk=>⟨st.1.at fun o e=>hk it (List.mem_cons_self ..) o e,st.2.to fun o e=>hk d (List.mem_cons_of_mem _ (List.mem_cons_self ..)) o e⟩
 item:=fun j s Q E hj st hQ=>Zix st.1 st.2 hj fun h' st' sb=>hQ _ h' s.toks ⟨_,Array.getElem?_eq_getElem hj,rfl⟩ ⟨st',st.2.to fun o e=>sb.extBut d o hne e⟩ fun b o hb e=>sb.extBut b o (fun z=>hb (List.mem_singleton.mpr z)) e
 done:=fun s Q E st hQ=>Zka hh st.1 st.2 (Nat.le_refl _) fun h' he=>hQ h' s.toks fun b o hb e=>he b o (fun z=>hb (List.mem_singleton.mpr z)) e
 self:=fun _ _ _ _ st hQ=>wpAny_pyIter_keyiter st.1 hQ
theorem Zj6(lo:(d == sysModules)=false):KdlSrc prog w "dict" d d es.size (fun i v=>∃e,es[i]?= some e/\v=e.key) (fun h=>ZhO h d es ep) where
 type:=fun _ x=>x.tyIs
 there:=fun _ ⟨o,ho,_⟩=>⟨Heap.lt_size ho,Heap.lt_size ho⟩
 keep:=fun _ _ x hk=>x.to fun o e=>hk d (.inl rfl) o e
 notList:=by decide
 notTuple:=by decide
 hint:=fun _ _ _ _ x hq=>kdl_hint_dict x.tyIs hq
 iter:=fun _ _ hh x=>⟨_,_,(fun _ _ hq=>ZiJ lo x hq),Zhb hh (let ⟨o,ho,_⟩:=x;Nat.ne_of_lt (Heap.lt_size ho)),⟨⟨_,Heap.get?_push_size _ rfl,rfl,rfl⟩,x.to fun _ e=>Heap.get?_push_of_some _ e⟩⟩
end
end L2
namespace Sts
open PySem PyProof.Rows PySem.W Srt
end Sts
namespace L2
open PySem PySem.Spec PyProof.Rows PySem.W
section
variable{X:Cx}{e:Expr}{te:TE}{p p' pos pos':Pos}
theorem Inv.draws{pins:List (Addr×Obj)}{σ : St}{H:Hp}{s:Shared}{d:Drawn}(I:Inv X pins σ H s):Inv X pins σ H { s with drawn:=d } :=
 I.step (g':=s.gens) (d':=d) (t':=s.toks) (ch:=[]) (fun _ z=>nomatch z) (fun _ _ _ _ _ e _=>e) (fun _ o _ _ _ e _=>⟨o.slots,e⟩) (fun _ _ _ _ n=>n) (fun _ o _ e=>⟨o,e⟩) (fun _ _ h=>h) (fun _ _ _ h=>h) (fun _ ps h=>⟨#[],by simpa using h⟩) (fun _ h=>h) I.hok I.bare
theorem ZfK{ns:List Int}:∀zs:List V,(∀z∈zs,z∈ns.map V.int)->∃ms:List Int,zs=ms.map V.int/\∀m∈ms,m∈ns
 | [],_=>⟨[],rfl,fun _ h=>nomatch h⟩
 | z::zs,h=>by
  obtain⟨m,hm,rfl⟩:=List.mem_map.mp (h z (List.mem_cons_self ..));obtain⟨ms,rfl,hms⟩:=ZfK zs fun x hx=>h x (List.mem_cons_of_mem _ hx);refine⟨m::ms,rfl,fun x hx=>?_⟩;rcases List.mem_cons.mp hx with rfl|hx
  ·exact hm
  ·exact hms x hx
end
end L2
namespace Srd
open PySem PyProof.Rows Srt
structure Swo(lt:Keyed->Keyed->Bool):Prop where
 asym:∀x y,lt x y=true->lt y x=false
 neg:∀x y z,lt x y=false->lt y z=false->lt x z=false
def Le(lt:Keyed->Keyed->Bool)(x y:Keyed):Prop:=lt y x=false
section
variable{lt:Keyed->Keyed->Bool}(o:Swo lt){x y z:Keyed}
include o
theorem Swo.le_trans(h1:Le lt x y)(h2:Le lt y z):Le lt x z:=o.neg z y x h2 h1
theorem Swo.le_of(h:lt x y=true):Le lt x y:=o.asym x y h
theorem Swo.lt_le(h1:lt x y=true)(h2:Le lt y z):lt x z=true:=by
 cases h:lt x z with
 | true=>rfl
 | false=>rw[o.neg x z y h h2] at h1;cases h1
theorem Swo.le_lt(h1:Le lt x y)(h2:lt y z=true):lt x z=true:=by
 cases h:lt x z with
 | true=>rfl
 | false=>rw[o.neg y x z h1 h] at h2;cases h2
theorem Swo.le_refl(x:Keyed):Le lt x x:=by
 show lt x x=false;cases h:lt x x with
 | false=>rfl
 | true=>have:=o.asym x x h;rw[h] at this;exact this
end
def ZgV(prog:Program)(w:World)(A:Around)(s:Shared)(κ : SortKind)(Ok:Keyed->Prop)(lt:Keyed->Keyed->Bool):Prop :=
 ∀x y,Ok x->Ok y->∀E:Value->Shared->Prop,wpAny (model prog w) A (keyLt' κ x.1 y.1) (fun b s'=>s'=s/\b=lt x y) E s
def Up(lt:Keyed->Keyed->Bool)(arr:Array Keyed)(i j:Nat):Prop := ∀x y p q,i<=x->x<y->y<j->arr[x]?= some p->arr[y]?= some q->Le lt p q
def bv(lt:Keyed->Keyed->Bool)(l:Bool)(key p:Keyed):Bool:=if l=true then lt p key else !lt key p
def BV(lt:Keyed->Keyed->Bool)(l:Bool)(key:Keyed)(a:Array Keyed)(base i:Nat):Bool:=match a[base+i]? with|some p=>bv lt l key p|none=>false
theorem BV.anti{lt:Keyed->Keyed->Bool}(o:Swo lt){l:Bool}{key:Keyed}{a:Array Keyed}{base n:Nat}(hb:base+n<=a.size)(hu:Up lt a base (base+n)){i j:Nat}(hij:i<=j)(hj:j<n)(h:BV lt l key a base j=true):BV lt l key a base i=true:=by
 rcases Nat.eq_or_lt_of_le hij with rfl|hlt
 ·exact h
 have ei:a[base+i]?= some a[base+i]:=getElem?_pos a _ (by lia);have ej:a[base+j]?= some a[base+j]:=getElem?_pos a _ (by lia);have hle:=hu (base+i) (base+j) _ _ (by lia) (by lia) (by lia) ei ej;unfold BV at h ⊢;rw[ej] at h;rw[ei];dsimp only at h ⊢;unfold bv at h ⊢;cases l with
 | true =>
  rw[if_pos rfl] at h ⊢;exact o.le_lt hle h
 | false =>
  rw[if_neg (by decide)] at h ⊢;have h1:lt key a[base+j]=false:=by simpa using h
  have:lt key a[base+i]=false:=o.le_trans (lt:=lt) hle h1;rw[this];rfl
section
variable{prog:Program}{w:World}{A:Around}{E:Value->Shared->Prop}{s:Shared}{κ : SortKind}{Ok:Keyed->Prop}{st:SortSt}{lt:Keyed->Keyed->Bool}
theorem Zdw{x y:Keyed}{Q:Option Bool->SortSt->Prop}(hc:ZgV prog w A s κ Ok lt)(hk:kindOf st= κ)(hx:Ok x)(hy:Ok y)(h:Q (some (lt x y)) st):wpS (model prog w) A E s (lt' x y) Q st:=by
 rw[lt'_eq];refine wpS_bind (wpS_get ?_);rw[hk];refine wpS_bind (wpS_lift (wpAny_attempt (wpAny_mono (hc x y hx hy _) (fun b s' e=>⟨e.1,?_⟩) fun _ _ z=>z)));rw[e.2];exact wpS_pure h
theorem Zmu{l:Bool}{key:Keyed}{a:Array Keyed}{base n i:Nat}{Q:Option Bool->SortSt->Prop}(hc:ZgV prog w A s κ Ok lt)(hk:kindOf st= κ)(hkey:Ok key)(ha:∀p∈a.toList,Ok p)(hb:base+n<=a.size)(hi:i<n)(h:Q (some (BV lt l key a base i)) st) :
  wpS (model prog w) A E s (elem' a (base+i) >>= fun x=>if l=true then lt' x key else(lt' key x >>= fun r=>pure (Option.map (fun z=>!z) r))) Q st:=by
 refine wpS_bind (ZX (by lia) fun p hp e=>?_);unfold BV at h;rw[e] at h;dsimp only at h;unfold bv at h;cases l with
 | true =>
  rw[if_pos rfl] at h ⊢;exact Zdw hc hk (ha p hp) hkey h
 | false =>
  rw[if_neg Bool.false_ne_true] at h ⊢;exact wpS_bind (Zdw hc hk hkey (ha p hp) (wpS_pure h))
set_option maxHeartbeats 1000000 in
theorem ZaD{l:Bool}{key:Keyed}{a:Array Keyed}{base n hint:Nat}{Q:Option Nat->SortSt->Prop}(o:Swo lt)(hc:ZgV prog w A s κ Ok lt)(hk:kindOf st= κ)(hkey:Ok key)(ha:∀p∈a.toList,Ok p)(hb:base+n<=a.size)(hh:hint<n)(hu:Up lt a base (base+n))
  (h:∀k,k<=n->(∀i,i<k->BV lt l key a base i=true)->(∀i,k<=i->i<n->BV lt l key a base i=false)->Q (some k) st):wpS (model prog w) A E s (Zfd l key a base n hint) Q st:=by
 have up:∀{i j},i<=j->j<n->BV lt l key a base j=true->BV lt l key a base i=true:=fun hij hj h=>BV.anti o hb hu hij hj h;have dn:∀{i j},i<=j->j<n->BV lt l key a base i=false->BV lt l key a base j=false:=fun{i j} hij hj h=>by
  cases e:BV lt l key a base j with
  | false=>rfl
  | true=>rw[up hij hj e] at h;cases h
 generalize hBB:BV lt l key a base=BB at up dn h;have bey:∀{st':SortSt}{i:Nat}{Q':Option Bool->SortSt->Prop},st'=st->i<n->Q' (some (BB i)) st'->wpS (model prog w) A E s (elem' a (base+i) >>= fun x=>if l=true then lt' x key else(lt' key x >>= fun r=>pure (Option.map (fun z=>!z) r))) Q' st':=fun{st' i Q'} e hi hq=>by
  subst e;exact Zmu hc hk hkey ha hb hi (by rw[hBB];exact hq)
 refine wpS_bind (bey rfl hh ?_);cases hright:BB hint with
 | true =>
  dsimp only;rw[if_pos rfl];refine wpS_bind (wpS_mono (wpS_forRange (I:=fun x c st'=>st'=st/\∃lo of,c=(none,lo,of)/\lo<n-hint/\lo<of/\BB (hint+lo)=true/\x+1<=of) (Q:=fun c st'=>st'=st/\∃lo of,c=(none,lo,of)/\lo<n-hint/\lo<of/\BB (hint+lo)=true/\(n-hint<=of\/BB (hint+of)=false)) ?_ ?_ ⟨rfl,0,1,rfl,by lia,by lia,hright,by lia⟩) ?_)
  ·rintro i c st' _ _ ⟨rfl,lo,of,rfl,h1,h2,h3,h4⟩;dsimp only;by_cases hlt:of>=n-hint
   ·rw[if_pos hlt];exact wpS_pure ⟨rfl,lo,of,rfl,h1,h2,h3,.inl hlt⟩
   ·rw[if_neg hlt];refine wpS_bind (bey rfl (by lia) ?_);cases hb2:BB (hint+of) with
    | true=>exact wpS_pure ⟨rfl,_,_,rfl,by lia,by lia,hb2,by lia⟩
    | false=>exact wpS_pure ⟨rfl,lo,of,rfl,h1,h2,h3,.inr hb2⟩
  ·rintro c st' ⟨rfl,lo,of,rfl,h1,h2,h3,h4⟩;exact⟨rfl,lo,of,rfl,h1,h2,h3,.inl (by lia)⟩
  ·rintro c st'' ⟨rfl,lo,of,rfl,h1,h2,h3,h4⟩;dsimp only;have g1:hint+lo+1<=hint+min of (n-hint):=by lia
   have g2:hint+min of (n-hint)<=n:=by lia
   have g3:∀i,i<hint+lo+1->BB i=true:=fun i hi=>up (show i<=hint+lo by lia) (by lia) h3;have g4:∀i,hint+min of (n-hint)<=i->i<n->BB i=false:=fun i hi hin=>by
    rcases h4 with h4|h4
    ·lia
    ·exact dn (show hint+of<=i by lia) hin h4
   generalize hint+lo+1=lo1 at g1 g3;generalize hint+min of (n-hint)=hi1 at g1 g2 g4;refine wpS_bind (wpS_mono (wpS_forRange (I:=fun x c st'=>st'=st''/\∃lo hi,c=(none,lo,hi)/\lo<=hi/\hi<=n/\(∀i,i<lo->BB i=true)/\(∀i,hi<=i->i<n->BB i=false)/\hi-lo+x<=n) (Q:=fun c st'=>st'=st''/\∃lo hi,c=(none,lo,hi)/\lo=hi/\hi<=n/\(∀i,i<lo->BB i=true)/\(∀i,hi<=i->i<n->BB i=false)) ?_ ?_ ⟨rfl,lo1,hi1,rfl,g1,g2,g3,g4,by lia⟩) ?_)
   ·rintro i c st' _ _ ⟨rfl,lo,hi,rfl,h1,h2,h3,h4,h5⟩;dsimp only;by_cases hlt:lo>=hi
    ·rw[if_pos hlt];exact wpS_pure ⟨rfl,lo,hi,rfl,by lia,h2,h3,h4⟩
    ·rw[if_neg hlt];refine wpS_bind (bey rfl (by lia) ?_);cases hb2:BB (lo+(hi-lo) / 2) with
     | true=>exact wpS_pure ⟨rfl,_,_,rfl,by lia,by lia,fun i hi'=>up (show i<=lo+(hi-lo) / 2 by lia) (by lia) hb2,h4,by lia⟩
     | false=>exact wpS_pure ⟨rfl,_,_,rfl,by lia,by lia,h3,fun i hi' hin=>dn hi' hin hb2,by lia⟩
   ·rintro c st' ⟨rfl,lo,hi,rfl,h1,h2,h3,h4,h5⟩;exact⟨rfl,lo,hi,rfl,by lia,h2,h3,h4⟩
   ·rintro c st' ⟨rfl,lo,hi,rfl,h1,h2,h3,h4⟩;exact wpS_pure (h hi h2 (fun i hi'=>h3 i (by lia)) h4)
 | false =>
  dsimp only;rw[if_neg Bool.false_ne_true];refine wpS_bind (wpS_mono (wpS_forRange (I:=fun x c st'=>st'=st/\∃lo of,c=(none,lo,of)/\lo<hint+1/\lo<of/\BB (hint-lo)=false/\x+1<=of) (Q:=fun c st'=>st'=st/\∃lo of,c=(none,lo,of)/\lo<hint+1/\lo<of/\BB (hint-lo)=false/\(hint+1<=of\/BB (hint-of)=true)) ?_ ?_ ⟨rfl,0,1,rfl,by lia,by lia,hright,by lia⟩) ?_)
  ·rintro i c st' _ _ ⟨rfl,lo,of,rfl,h1,h2,h3,h4⟩;dsimp only;by_cases hlt:of>=hint+1
   ·rw[if_pos hlt];exact wpS_pure ⟨rfl,lo,of,rfl,h1,h2,h3,.inl hlt⟩
   ·rw[if_neg hlt];refine wpS_bind (bey rfl (by lia) ?_);cases hb2:BB (hint-of) with
    | true=>exact wpS_pure ⟨rfl,lo,of,rfl,h1,h2,h3,.inr hb2⟩
    | false=>exact wpS_pure ⟨rfl,_,_,rfl,by lia,by lia,hb2,by lia⟩
  ·rintro c st' ⟨rfl,lo,of,rfl,h1,h2,h3,h4⟩;exact⟨rfl,lo,of,rfl,h1,h2,h3,.inl (by lia)⟩
  ·rintro c st'' ⟨rfl,lo,of,rfl,h1,h2,h3,h4⟩;dsimp only;have g1:hint+1-min of (hint+1)<=hint-lo:=by lia
   have g2:hint-lo<=n:=by lia
   have g3:∀i,i<hint+1-min of (hint+1)->BB i=true:=fun i hi=>by
    rcases h4 with h4|h4
    ·lia
    ·exact up (show i<=hint-of by lia) (by lia) h4
   have g4:∀i,hint-lo<=i->i<n->BB i=false:=fun i hi hin=>dn hi hin h3;generalize hint+1-min of (hint+1)=lo1 at g1 g3;generalize hint-lo=hi1 at g1 g2 g4;refine wpS_bind (wpS_mono (wpS_forRange (I:=fun x c st'=>st'=st''/\∃lo hi,c=(none,lo,hi)/\lo<=hi/\hi<=n/\(∀i,i<lo->BB i=true)/\(∀i,hi<=i->i<n->BB i=false)/\hi-lo+x<=n) (Q:=fun c st'=>st'=st''/\∃lo hi,c=(none,lo,hi)/\lo=hi/\hi<=n/\(∀i,i<lo->BB i=true)/\(∀i,hi<=i->i<n->BB i=false)) ?_ ?_ ⟨rfl,lo1,hi1,rfl,g1,g2,g3,g4,by lia⟩) ?_)
   ·rintro i c st' _ _ ⟨rfl,lo,hi,rfl,h1,h2,h3,h4,h5⟩;dsimp only;by_cases hlt:lo>=hi
    ·rw[if_pos hlt];exact wpS_pure ⟨rfl,lo,hi,rfl,by lia,h2,h3,h4⟩
    ·rw[if_neg hlt];refine wpS_bind (bey rfl (by lia) ?_);cases hb2:BB (lo+(hi-lo) / 2) with
     | true=>exact wpS_pure ⟨rfl,_,_,rfl,by lia,by lia,fun i hi'=>up (show i<=lo+(hi-lo) / 2 by lia) (by lia) hb2,h4,by lia⟩
     | false=>exact wpS_pure ⟨rfl,_,_,rfl,by lia,by lia,h3,fun i hi' hin=>dn hi' hin hb2,by lia⟩
   ·rintro c st' ⟨rfl,lo,hi,rfl,h1,h2,h3,h4,h5⟩;exact⟨rfl,lo,hi,rfl,by lia,h2,h3,h4⟩
   ·rintro c st' ⟨rfl,lo,hi,rfl,h1,h2,h3,h4⟩;exact wpS_pure (h hi h2 (fun i hi'=>h3 i (by lia)) h4)
end
section
variable{lt:Keyed->Keyed->Bool}{a b out:Array Keyed}{ia ib k:Nat}{p q:Keyed}
abbrev So(lt:Keyed->Keyed->Bool)(l:List Keyed):Prop:=l.Pairwise (Le lt)
theorem ZiW(h:a[ia]?= some p):a.toList[ia]?= some p:=by rw[<- h];simp
theorem Zam{i:Nat}{x y:Keyed}(h1:a[i]?= some x)(h2:a[i]?= some y):x=y:=by
 rw[h1] at h2;exact Option.some.inj h2
theorem Zcu(h:a[ia]?= some p):a.toList.drop ia=p::a.toList.drop (ia+1):=by
 obtain⟨hi,e⟩:=List.getElem?_eq_some_iff.mp (ZiW h);rw[List.drop_eq_getElem_cons hi,e]
theorem So.drop{l:List Keyed}(h:So lt l)(n:Nat):So lt (l.drop n):=List.Pairwise.sublist (List.drop_sublist n l) h
theorem So.head(h:So lt a.toList)(hp:a[ia]?= some p):∀y∈a.toList.drop (ia+1),Le lt p y:=by
 have:=h.drop ia;rw[Zcu hp] at this;exact(List.pairwise_cons.mp this).1
theorem ZeK(o:Swo lt)(h:So lt a.toList)(hp:a[ia]?= some p){x:Keyed}(hx:Le lt x p):∀y∈a.toList.drop ia,Le lt x y:=fun y hy=>by
 rw[Zcu hp] at hy;rcases List.mem_cons.mp hy with rfl|hy
 ·exact hx
 ·exact o.le_trans hx (h.head hp y hy)
theorem Zfv(h:So lt a.toList)(i j:Nat):Up lt a i j:=fun x y p q _ hxy _ ex ey=>by
 obtain⟨hx,rfl⟩:=List.getElem?_eq_some_iff.mp (ZiW ex);obtain⟨hy,rfl⟩:=List.getElem?_eq_some_iff.mp (ZiW ey);exact(List.pairwise_iff_getElem.mp h) x y hx hy hxy
theorem ZkU{n:Nat}(h:Up lt a 0 n)(hn:a.size<=n):So lt a.toList:=by
 refine List.pairwise_iff_getElem.mpr fun i j hi hj hij=>?_;have hi':i<a.size:=by rw[<- Array.length_toList];exact hi
 have hj':j<a.size:=by rw[<- Array.length_toList];exact hj
 exact h i j _ _ (Nat.zero_le _) hij (by lia) (by rw[<- Array.getElem?_toList];exact List.getElem?_eq_getElem hi) (by rw[<- Array.getElem?_toList];exact List.getElem?_eq_getElem hj)
theorem Zds{l:List Keyed}{n:Nat}{y:Keyed}(h:y∈l.drop n):∃i,l[n+i]?= some y:=by
 obtain⟨i,hi⟩:=List.mem_iff_getElem?.mp h;rw[List.getElem?_drop] at hi;exact⟨i,hi⟩
theorem Zlz(F:∀i,k<=i->i<a.size-ia->BV lt false p a ia i=false)(o:Swo lt):∀y∈a.toList.drop (ia+k),Le lt p y:=fun y hy=>by
 obtain⟨i,hi⟩:=Zds hy;obtain⟨hl,_⟩:=List.getElem?_eq_some_iff.mp hi;rw[Array.length_toList] at hl;have h1:=F (k+i) (by lia) (by lia);unfold BV at h1;rw[show ia+(k+i)=ia+k+i by lia,<- Array.getElem?_toList,hi] at h1;have h2:(!lt p y)=false:=h1;exact o.le_of (by simpa using h2)
theorem ZkP(F:∀i,i<k->BV lt false p a ia i=true):∀x∈(a.toList.drop ia).take k,Le lt x p:=fun x hx=>by
 obtain⟨i,hi⟩:=List.mem_iff_getElem?.mp hx;have hik:i<k:=by
  have:=(List.getElem?_eq_some_iff.mp hi).1;rw[List.length_take] at this;lia
 rw[List.getElem?_take_of_lt hik,List.getElem?_drop] at hi;have h1:=F i hik;unfold BV at h1;rw[<- Array.getElem?_toList,hi] at h1;have h2:(!lt p x)=true:=h1;show lt p x=false
 simpa using h2
theorem Zmd(F:∀i,k<=i->i<b.size-ib->BV lt true q b ib i=false):∀y∈b.toList.drop (ib+k),Le lt q y:=fun y hy=>by
 obtain⟨i,hi⟩:=Zds hy;obtain⟨hl,_⟩:=List.getElem?_eq_some_iff.mp hi;rw[Array.length_toList] at hl;have h1:=F (k+i) (by lia) (by lia);unfold BV at h1;rw[show ib+(k+i)=ib+k+i by lia,<- Array.getElem?_toList,hi] at h1;exact h1
theorem ZlK(F:∀i,i<k->BV lt true q b ib i=true)(o:Swo lt):∀x∈(b.toList.drop ib).take k,Le lt x q:=fun x hx=>by
 obtain⟨i,hi⟩:=List.mem_iff_getElem?.mp hx;have hik:i<k:=by
  have:=(List.getElem?_eq_some_iff.mp hi).1;rw[List.length_take] at this;lia
 rw[List.getElem?_take_of_lt hik,List.getElem?_drop] at hi;have h1:=F i hik;unfold BV at h1;rw[<- Array.getElem?_toList,hi] at h1;exact o.le_of h1
structure OutL(lt:Keyed->Keyed->Bool)(a b out:Array Keyed)(ia ib:Nat):Prop where
 perm:Out a b out ia ib
 sort:So lt out.toList
 lowA:∀x∈out.toList,∀y∈a.toList.drop ia,Le lt x y
 lowB:∀x∈out.toList,∀y∈b.toList.drop ib,Le lt x y
structure Rs(lt:Keyed->Keyed->Bool)(a b r:Array Keyed):Prop where
 perm:r.toList.Perm (a.toList++b.toList)
 sort:So lt r.toList
theorem mem_push{x:Keyed}(h:x∈(out.push p).toList):x∈out.toList\/x=p:=by
 rw[Array.toList_push] at h;rcases List.mem_append.mp h with h|h
 ·exact .inl h
 ·exact .inr (List.mem_singleton.mp h)
theorem ZhG(h:So lt out.toList)(hp:∀x∈out.toList,Le lt x p):So lt (out.push p).toList:=by
 rw[Array.toList_push];refine List.pairwise_append.mpr ⟨h,List.pairwise_singleton _ _,fun x hx y hy=>?_⟩;rw[List.mem_singleton.mp hy];exact hp x hx
theorem Zep{l:List Keyed}{i j:Nat}(h:i<=j){y:Keyed}(hy:y∈l.drop j):y∈l.drop i:=by
 rw[show j=i+(j-i) by lia,<- List.drop_drop] at hy;exact List.mem_of_mem_drop hy
theorem OutL.pushA(h:OutL lt a b out ia ib)(SA:So lt a.toList)(hp:a[ia]?= some p)(hb:∀y∈b.toList.drop ib,Le lt p y):OutL lt a b (out.push p) (ia+1) ib:=by
 have hm:p∈a.toList.drop ia:=by rw[Zcu hp];exact List.mem_cons_self ..
 refine⟨h.perm.pushA hp,ZhG h.sort fun x hx=>h.lowA x hx p hm,fun x hx y hy=>?_,fun x hx y hy=>?_⟩
 ·rcases mem_push hx with hx|rfl
  ·exact h.lowA x hx y (Zep (by lia) hy)
  ·exact SA.head hp y hy
 ·rcases mem_push hx with hx|rfl
  ·exact h.lowB x hx y hy
  ·exact hb y hy
theorem OutL.pushB(h:OutL lt a b out ia ib)(SB:So lt b.toList)(hp:b[ib]?= some p)(ha:∀y∈a.toList.drop ia,Le lt p y):OutL lt a b (out.push p) ia (ib+1):=by
 have hm:p∈b.toList.drop ib:=by rw[Zcu hp];exact List.mem_cons_self ..
 refine⟨h.perm.pushB hp,ZhG h.sort fun x hx=>h.lowB x hx p hm,fun x hx y hy=>?_,fun x hx y hy=>?_⟩
 ·rcases mem_push hx with hx|rfl
  ·exact h.lowA x hx y hy
  ·exact ha y hy
 ·rcases mem_push hx with hx|rfl
  ·exact h.lowB x hx y (Zep (by lia) hy)
  ·exact SB.head hp y hy
theorem Zc7(a:Array Keyed)(i k:Nat):(a.extract i (i+k)).toList=(a.toList.drop i).take k:=by
 rw[Array.toList_extract,List.extract_eq_drop_take,show i+k-i=k by lia]
theorem Zcy(a:Array Keyed)(i:Nat):(a.extract i a.size).toList=a.toList.drop i:=by
 rw[Array.toList_extract,List.extract_eq_drop_take];apply List.take_of_length_le;rw[List.length_drop,Array.length_toList];exact Nat.le_refl _
theorem ZcP{l:List Keyed}{i k:Nat}(h:So lt l){x y:Keyed}(hx:x∈(l.drop i).take k)(hy:y∈l.drop (i+k)):Le lt x y:=by
 have h1:=h.drop i;rw[<- List.take_append_drop k (l.drop i),List.drop_drop] at h1;exact(List.pairwise_append.mp h1).2.2 x hx y hy
theorem OutL.extA(h:OutL lt a b out ia ib)(SA:So lt a.toList)(hk:ia+k<=a.size)(hb:∀x∈(a.toList.drop ia).take k,∀y∈b.toList.drop ib,Le lt x y):OutL lt a b (out++a.extract ia (ia+k)) (ia+k) ib:=by
 have hm:∀x,x∈(out++a.extract ia (ia+k)).toList->x∈out.toList\/x∈(a.toList.drop ia).take k:=fun x hx=>by
  rw[Array.toList_append,Zc7] at hx;exact List.mem_append.mp hx
 refine⟨h.perm.extA hk,?_,fun x hx y hy=>?_,fun x hx y hy=>?_⟩
 ·rw[Array.toList_append,Zc7];exact List.pairwise_append.mpr ⟨h.sort,List.Pairwise.sublist (List.take_sublist _ _) (SA.drop ia),fun x hx y hy=>h.lowA x hx y (List.mem_of_mem_take hy)⟩
 ·rcases hm x hx with hx|hx
  ·exact h.lowA x hx y (Zep (by lia) hy)
  ·exact ZcP SA hx hy
 ·rcases hm x hx with hx|hx
  ·exact h.lowB x hx y hy
  ·exact hb x hx y hy
theorem OutL.extB(h:OutL lt a b out ia ib)(SB:So lt b.toList)(hk:ib+k<=b.size)(ha:∀x∈(b.toList.drop ib).take k,∀y∈a.toList.drop ia,Le lt x y):OutL lt a b (out++b.extract ib (ib+k)) ia (ib+k):=by
 have hm:∀x,x∈(out++b.extract ib (ib+k)).toList->x∈out.toList\/x∈(b.toList.drop ib).take k:=fun x hx=>by
  rw[Array.toList_append,Zc7] at hx;exact List.mem_append.mp hx
 refine⟨h.perm.extB hk,?_,fun x hx y hy=>?_,fun x hx y hy=>?_⟩
 ·rw[Array.toList_append,Zc7];exact List.pairwise_append.mpr ⟨h.sort,List.Pairwise.sublist (List.take_sublist _ _) (SB.drop ib),fun x hx y hy=>h.lowB x hx y (List.mem_of_mem_take hy)⟩
 ·rcases hm x hx with hx|hx
  ·exact h.lowA x hx y hy
  ·exact ha x hx y hy
 ·rcases hm x hx with hx|hx
  ·exact h.lowB x hx y (Zep (by lia) hy)
  ·exact ZcP SB hx hy
theorem OutL.doneB(h:OutL lt a b out ia ib)(SA:So lt a.toList)(e:(ib == b.size)=true):Rs lt a b (out++a.extract ia a.size++b.extract ib b.size):=by
 refine⟨h.perm.done,?_⟩;have e':b.toList.drop ib=[]:=List.drop_eq_nil_of_le (by rw[Array.length_toList,eq_of_beq e];exact Nat.le_refl _);rw[Array.toList_append,Array.toList_append,Zcy,Zcy,e',List.append_nil];exact List.pairwise_append.mpr ⟨h.sort,SA.drop ia,fun x hx y hy=>h.lowA x hx y hy⟩
theorem OutL.doneA(h:OutL lt a b out ia ib)(SB:So lt b.toList)(e:(ia == a.size)=true):Rs lt a b (out++a.extract ia a.size++b.extract ib b.size):=by
 refine⟨h.perm.done,?_⟩;have e':a.toList.drop ia=[]:=List.drop_eq_nil_of_le (by rw[Array.length_toList,eq_of_beq e];exact Nat.le_refl _);rw[Array.toList_append,Array.toList_append,Zcy,Zcy,e',List.append_nil];exact List.pairwise_append.mpr ⟨h.sort,SB.drop ib,fun x hx y hy=>h.lowB x hx y hy⟩
theorem OutL.lastL(h:OutL lt a b out ia ib)(SA:So lt a.toList)(SB:So lt b.toList)(LA:∀x∈b.toList,∀q,a[a.size-1]?= some q->Le lt x q)(e:(ia+1 == a.size)=true):Rs lt a b (out++b.extract ib b.size++a.extract ia a.size):=by
 refine⟨h.perm.last,?_⟩;have e1:=eq_of_beq e;rw[Array.toList_append,Array.toList_append,Zcy,Zcy];refine List.pairwise_append.mpr ⟨List.pairwise_append.mpr ⟨h.sort,SB.drop ib,fun x hx y hy=>h.lowB x hx y hy⟩,SA.drop ia,fun x hx y hy=>?_⟩;rcases List.mem_append.mp hx with hx|hx
 ·exact h.lowA x hx y hy
 ·refine LA x (List.mem_of_mem_drop hx) y ?_;obtain⟨i,hi⟩:=Zds hy;have hl:=(List.getElem?_eq_some_iff.mp hi).1;rw[Array.length_toList] at hl;rw[show a.size-1=ia+i by lia,<- Array.getElem?_toList];exact hi
theorem Zmc(SB:So lt b.toList)(hp:b[0]?= some p)(hb0:∀p,b[0]?= some p->∀y∈a.toList,Le lt p y):OutL lt a b #[p] 0 1:=by
 refine⟨Zmp hp,List.pairwise_singleton _ _,fun x hx y hy=>?_,fun x hx y hy=>?_⟩
 ·obtain rfl:x=p:=by simpa using hx
  exact hb0 x hp y hy
 ·obtain rfl:x=p:=by simpa using hx
  exact SB.head hp y hy
end
section
variable{prog:Program}{w:World}{A:Around}{E:Value->Shared->Prop}{s:Shared}{κ : SortKind}{Ok:Keyed->Prop}{st:SortSt}{lt:Keyed->Keyed->Bool}
abbrev LoT:=Option (Array Keyed)×Array Keyed×Nat×Nat×Nat×Nat×Nat
def lo3(a b out:Array Keyed)(ia ib g ac bc:Nat):StateT SortSt Sem (ForInStep LoT) :=
 elem' a ia >>= fun p=>if(ia+1+1 == a.size)=true then pure (.done (some (out.push p++b.extract ib b.size++a.extract (ia+1) a.size),out.push p,ia+1,ib,g,ac,bc))
  else if(decide (ac<7)&&decide (bc<7))=true then pure (.done (none,out.push p,ia+1,ib,g,ac,bc)) else pure (.yield (none,out.push p,ia+1,ib,g,ac,bc))
def LoP(lt:Keyed->Keyed->Bool)(a b:Array Keyed)(st:SortSt)(x:Nat):ForInStep LoT->SortSt->Prop:=fun r st'=>match r with
 | .done c=>Like st st'/\((∃r out ia ib g ac bc,c=(some r,out,ia,ib,g,ac,bc)/\Rs lt a b r)\/∃out ia ib g ac bc,c=(none,out,ia,ib,g,ac,bc)/\OutL lt a b out ia ib/\ia+1<a.size/\ib<b.size/\x+2<=ia+ib)
 | .yield c=>Like st st'/\∃out ia ib g ac bc,c=(none,out,ia,ib,g,ac,bc)/\OutL lt a b out ia ib/\ia+1<a.size/\ib<b.size/\x+2<=ia+ib
structure LoQ(lt:Keyed->Keyed->Bool)(a b:Array Keyed)(st:SortSt)(N:Nat)(Q:ForInStep LoT->SortSt->Prop):Prop where
 R:∀r out ia ib g ac bc,Rs lt a b r->Q (.done (some r,out,ia,ib,g,ac,bc)) st
 N:∀out ia ib g ac bc,OutL lt a b out ia ib->ia+1<a.size->ib<b.size->N<=ia+ib->Q (.done (none,out,ia,ib,g,ac,bc)) st/\Q (.yield (none,out,ia,ib,g,ac,bc)) st
section
variable{a b out:Array Keyed}{ia ib g ac bc N:Nat}{Q:ForInStep LoT->SortSt->Prop}
theorem Zjq(SA:So lt a.toList)(SB:So lt b.toList)(LA:∀x∈b.toList,∀q,a[a.size-1]?= some q->Le lt x q)(q:LoQ lt a b st N Q)(ho:OutL lt a b out ia ib)(h1:ia+1<a.size)(h2:ib<b.size)(hN:N<=ia+ib)(hp:∀p,a[ia]?= some p->∀y∈b.toList.drop ib,Le lt p y) :
  wpS (model prog w) A E s (lo3 a b out ia ib g ac bc) Q st:=by
 unfold lo3;refine wpS_bind (ZX (by lia) fun p4 h4 e4=>?_);have o4:=ho.pushA SA e4 (hp p4 e4);by_cases f1:(ia+1+1 == a.size)=true
 ·rw[if_pos f1];exact wpS_pure (q.R _ _ _ _ _ _ _ (o4.lastL SA SB LA f1))
 rw[if_neg f1];have n4:ia+1+1<a.size:=by
  have : ¬ ia+1+1=a.size:=fun e=>f1 (by simp[<- e]);lia
 have z:=q.N _ _ _ g ac bc o4 n4 h2 (by lia);by_cases f2:(decide (ac<7)&&decide (bc<7))=true
 ·rw[if_pos f2];exact wpS_pure z.1
 ·rw[if_neg f2];exact wpS_pure z.2
theorem ZfN(o:Swo lt)(hc:ZgV prog w A s κ Ok lt)(hk:kindOf st= κ)(ha:∀p∈a.toList,Ok p)(hb:∀p∈b.toList,Ok p)(SA:So lt a.toList)(SB:So lt b.toList)(LA:∀x∈b.toList,∀q,a[a.size-1]?= some q->Le lt x q)(q:LoQ lt a b st N Q)(ho:OutL lt a b out ia ib)(h1:ia+1<a.size)(h2:ib<b.size)(hN:N<=ia+ib)(hp:∀p,b[ib]?= some p->∀y∈a.toList.drop ia,Le lt p y)
  {T:Keyed->Option Nat->StateT SortSt Sem (ForInStep LoT)} (hT:∀p k,T p (some k)=if k > 0 then(if(ib+1+k == b.size)=true then pure (.done (some (out.push p++b.extract (ib+1) (ib+1+k)++a.extract ia a.size++b.extract (ib+1+k) b.size),out.push p++b.extract (ib+1) (ib+1+k),ia,ib+1+k,g,ac,k))
     else lo3 a b (out.push p++b.extract (ib+1) (ib+1+k)) ia (ib+1+k) g ac k)
    else lo3 a b (out.push p) ia (ib+1) g ac k) :
  wpS (model prog w) A E s (elem' b ib >>= fun p=>if(ib+1 == b.size)=true then pure (.done (some (out.push p++a.extract ia a.size++b.extract (ib+1) b.size),out.push p,ia,ib+1,g,ac,bc))
   else elem' a ia >>= fun q=>Zfd true q b (ib+1) (b.size-(ib+1)) 0 >>= T p) Q st:=by
 refine wpS_bind (ZX (by lia) fun p3 h3 e3=>?_);have o2:=ho.pushB SB e3 (hp p3 e3);by_cases c3:(ib+1 == b.size)=true
 ·rw[if_pos c3];exact wpS_pure (q.R _ _ _ _ _ _ _ (o2.doneB SA c3))
 rw[if_neg c3];have n3:ib+1<b.size:=by
  have : ¬ ib+1=b.size:=fun e=>c3 (by simp[<- e]);lia
 refine wpS_bind (ZX (by lia) fun q3 g3 u3=>?_);refine wpS_bind (ZaD o hc hk (ha q3 g3) hb (by lia) (by lia) (Zfv SB _ _) fun k2 hk2 G1 G2=>?_);rw[hT];by_cases k20:k2 > 0
 ·rw[if_pos k20];have o3:=o2.extB SB (k:=k2) (by lia) (fun x hx=>ZeK o SA u3 (ZlK G1 o x hx));by_cases c4:(ib+1+k2 == b.size)=true
  ·rw[if_pos c4];exact wpS_pure (q.R _ _ _ _ _ _ _ (o3.doneB SA c4))
  rw[if_neg c4];have n5:ib+1+k2<b.size:=by
   have : ¬ ib+1+k2=b.size:=fun e=>c4 (by simp[<- e]);lia
  exact Zjq SA SB LA q o3 h1 n5 (by lia) fun p e=>by rw[Zam e u3];exact Zmd G2
 ·rw[if_neg k20];exact Zjq SA SB LA q o2 h1 n3 (by lia) fun p e=>by rw[Zam e u3];exact Zmd (k:=0) (fun i _ hi=>G2 i (by lia) hi)
end
set_option maxHeartbeats 2000000 in
theorem ZeR{a b:Array Keyed}{Q:Array Keyed->SortSt->Prop}(o:Swo lt)(hc:ZgV prog w A s κ Ok lt)(hk:kindOf st= κ)(ha:∀p∈a.toList,Ok p)(hb:∀p∈b.toList,Ok p)(ha1:1<=a.size)(hb1:1<=b.size)(SA:So lt a.toList)(SB:So lt b.toList)(hb0:∀p,b[0]?= some p->∀y∈a.toList,Le lt p y)(LA:∀x∈b.toList,∀q,a[a.size-1]?= some q->Le lt x q)
  (h:∀r st',Like st st'->Rs lt a b r->Q r st'):wpS (model prog w) A E s (Ziq a b) Q st:=by
 refine wpS_bind (wpS_lift (wpAny_rule ⟨rfl,?_⟩));refine wpS_bind (ZX (by lia) fun p hp he=>?_)
 try dsimp -zeta only
 have o0:OutL lt a b #[p] 0 1:=Zmc SB he hb0;by_cases c1:(1 == b.size)=true
 ·rw[if_pos c1];exact wpS_pure (h _ _ (Like.refl _) (o0.doneB SA c1))
 rw[if_neg c1];by_cases c2:(0+1 == a.size)=true
 ·rw[if_pos c2];exact wpS_pure (h _ _ (Like.refl _) (o0.lastL SA SB LA c2))
 rw[if_neg c2];have n1:1<b.size:=by
  have : ¬ 1=b.size:=fun e=>c1 (by simp[<- e]);lia
 have n2:1<a.size:=by
  have : ¬ 1=a.size:=fun e=>c2 (by simp[<- e]);lia
 refine wpS_bind (wpS_get ?_);refine wpS_bind (wpS_mono (wpS_forRange (I:=fun x c st'=>Like st st'/\∃out ia ib g,c=(none,out,ia,ib,g)/\OutL lt a b out ia ib/\ia+1<a.size/\ib<b.size/\x+1<=ia+ib)
  (Q:=fun c st'=>Like st st'/\∃r out ia ib g,c=(some r,out,ia,ib,g)/\Rs lt a b r) ?_ ?_ ⟨Like.refl _,_,0,1,_,rfl,o0,by lia,by lia,by lia⟩) ?_)
 ·rintro x c st1 _ hx ⟨lk,out,ia,ib,g,rfl,ho,hia,hib,hxx⟩
  try dsimp -zeta only
  refine wpS_bind (wpS_mono (wpS_forRange (I:=fun y c st'=>Like st st'/\∃out ia ib ac bc,c=(none,out,ia,ib,ac,bc)/\OutL lt a b out ia ib/\ia+1<a.size/\ib<b.size/\x+1+(if y=0 then 0 else 1)<=ia+ib)
   (Q:=fun c st'=>Like st st'/\((∃r out ia ib ac bc,c=(some r,out,ia,ib,ac,bc)/\Rs lt a b r)\/∃out ia ib ac bc,c=(none,out,ia,ib,ac,bc)/\OutL lt a b out ia ib/\ia+1<a.size/\ib<b.size/\x+2<=ia+ib)) ?_ ?_ ⟨lk,out,ia,ib,0,0,rfl,ho,hia,hib,by simp;lia⟩) ?_)
  ·rintro y c st2 _ hy ⟨lk2,out,ia,ib,ac,bc,rfl,ho,hia,hib,hxx⟩;dsimp only;have hxx2:x+1<=ia+ib:=by split at hxx <;> lia
   refine wpS_bind (ZX (by lia) fun p hp ep=>?_);refine wpS_bind (ZX (by lia) fun q hq eq=>?_);refine wpS_bind (Zdw hc (lk2.kind.trans hk) (hb p hp) (ha q hq) ?_);cases hbw:lt p q with
   | true =>
    try dsimp -zeta only
    rw[if_pos rfl];refine wpS_bind (ZX (by lia) fun p2 hp2 ep2=>?_);have o1:=ho.pushB SB ep2 (by rw[Zam ep2 ep];exact ZeK o SA eq (o.le_of hbw));by_cases d1:(ib+1 == b.size)=true
    ·rw[if_pos d1];exact wpS_pure ⟨lk2,.inl ⟨_,_,_,_,_,_,rfl,(o1.doneB SA d1)⟩⟩
    rw[if_neg d1];have m1:ib+1<b.size:=by
     have : ¬ ib+1=b.size:=fun e=>d1 (by simp[<- e]);lia
    by_cases d2:bc+1>=g
    ·rw[if_pos d2];exact wpS_pure ⟨lk2,.inr ⟨_,_,_,_,_,rfl,o1,hia,m1,by lia⟩⟩
    ·rw[if_neg d2];exact wpS_pure ⟨lk2,_,_,_,_,_,rfl,o1,hia,m1,by rw[if_neg (by lia)];lia⟩
   | false =>
    try dsimp -zeta only
    rw[if_neg Bool.false_ne_true];refine wpS_bind (ZX (by lia) fun p2 hp2 ep2=>?_);have o1:=ho.pushA SA ep2 (by rw[Zam ep2 eq];exact ZeK o SB ep hbw);by_cases d1:(ia+1+1 == a.size)=true
    ·rw[if_pos d1];exact wpS_pure ⟨lk2,.inl ⟨_,_,_,_,_,_,rfl,(o1.lastL SA SB LA d1)⟩⟩
    rw[if_neg d1];have m1:ia+1+1<a.size:=by
     have : ¬ ia+1+1=a.size:=fun e=>d1 (by simp[<- e]);lia
    by_cases d2:ac+1>=g
    ·rw[if_pos d2];exact wpS_pure ⟨lk2,.inr ⟨_,_,_,_,_,rfl,o1,m1,hib,by lia⟩⟩
    ·rw[if_neg d2];exact wpS_pure ⟨lk2,_,_,_,_,_,rfl,o1,m1,hib,by rw[if_neg (by lia)];lia⟩
  ·rintro c st2 ⟨lk2,out,ia,ib,ac,bc,rfl,ho,hia,hib,hxx⟩;refine⟨lk2,.inr ⟨_,_,_,_,_,rfl,ho,hia,hib,?_⟩⟩;rw[if_neg (by lia)] at hxx;lia
  ·rintro c st2 ⟨lk2,⟨r,out,ia,ib,ac,bc,rfl,hr⟩|⟨out,ia,ib,ac,bc,rfl,ho,hia,hib,hxx⟩⟩
   ·exact wpS_pure ⟨lk2,_,_,_,_,_,rfl,hr⟩
   try dsimp -zeta only
   refine wpS_bind (wpS_lift (wpAny_rule ⟨rfl,?_⟩))
   try dsimp -zeta only
   refine wpS_bind (wpS_mono (wpS_forRange (I:=fun y c st'=>Like st st'/\∃out ia ib g ac bc,c=(none,out,ia,ib,g,ac,bc)/\OutL lt a b out ia ib/\ia+1<a.size/\ib<b.size/\x+2<=ia+ib)
    (Q:=fun c st'=>Like st st'/\((∃r out ia ib g ac bc,c=(some r,out,ia,ib,g,ac,bc)/\Rs lt a b r)\/∃out ia ib g ac bc,c=(none,out,ia,ib,g,ac,bc)/\OutL lt a b out ia ib/\ia+1<a.size/\ib<b.size/\x+2<=ia+ib)) ?_ ?_ ⟨lk2,out,ia,ib,_,_,_,rfl,ho,hia,hib,hxx⟩) ?_)
   ·rintro y c st3 _ hy ⟨lk3,out,ia,ib,g3,ac,bc,rfl,ho,hia,hib,hxx⟩;dsimp only;refine wpS_mono (Q:=LoP lt a b st x) ?_ (fun r st' h=>by cases r <;> exact h)
    have loq:∀{st4},Like st st4->LoQ lt a b st4 (ia+ib) (LoP lt a b st x):=fun lk4=>⟨fun r out ia ib g ac bc hr=>⟨lk4,.inl ⟨r,out,ia,ib,g,ac,bc,rfl,hr⟩⟩,fun out ia ib g ac bc ho h1 h2 hN=>⟨⟨lk4,.inr ⟨out,ia,ib,g,ac,bc,rfl,ho,h1,h2,by lia⟩⟩,⟨lk4,out,ia,ib,g,ac,bc,rfl,ho,h1,h2,by lia⟩⟩⟩;by_cases g1:g3 > 1
    ·rw[if_pos g1];refine wpS_bind (wpS_modify ?_);have lk4:=lk3.trans (ZaU st3 (g3-1));refine wpS_bind (ZX (by lia) fun p0 h0 e0=>?_);refine wpS_bind (ZaD o hc (lk4.kind.trans hk) (hb p0 h0) ha (by lia) (by lia) (Zfv SA _ _) fun k hk1 F1 F2=>?_)
     try dsimp -zeta only
     by_cases k0:k > 0
     ·rw[if_pos k0];have o1:=ho.extA SA (k:=k) (by lia) (fun x hx=>ZeK o SB e0 (ZkP F1 x hx));by_cases c1:(ia+k+1 == a.size)=true
      ·rw[if_pos c1];exact wpS_pure ⟨lk4,.inl ⟨_,_,_,_,_,_,_,rfl,(o1.lastL SA SB LA c1)⟩⟩
      rw[if_neg c1];by_cases c2:(ia+k == a.size)=true
      ·rw[if_pos c2];exact wpS_pure ⟨lk4,.inl ⟨_,_,_,_,_,_,_,rfl,(o1.doneA SB c2)⟩⟩
      rw[if_neg c2];have n1:ia+k+1<a.size:=by
       have h1 : ¬ ia+k+1=a.size:=fun e=>c1 (by simp[<- e]);have h2 : ¬ ia+k=a.size:=fun e=>c2 (by simp[<- e]);lia
      refine ZfN o hc (lk4.kind.trans hk) ha hb SA SB LA (N:=ia+ib) (loq lk4) o1 n1 hib (by lia) (fun p e=>by rw[Zam e e0];exact Zlz F2 o) ?_;exact fun _ _=>rfl
     ·rw[if_neg k0];refine ZfN o hc (lk4.kind.trans hk) ha hb SA SB LA (N:=ia+ib) (loq lk4) ho hia hib (Nat.le_refl _) (fun p e=>by rw[Zam e e0];exact Zlz (k:=0) (fun i _ hi=>F2 i (by lia) hi) o) ?_;exact fun _ _=>rfl
    ·rw[if_neg g1];refine wpS_bind (wpS_modify ?_);have lk4:=lk3.trans (ZaU st3 g3);refine wpS_bind (ZX (by lia) fun p0 h0 e0=>?_);refine wpS_bind (ZaD o hc (lk4.kind.trans hk) (hb p0 h0) ha (by lia) (by lia) (Zfv SA _ _) fun k hk1 F1 F2=>?_)
     try dsimp -zeta only
     by_cases k0:k > 0
     ·rw[if_pos k0];have o1:=ho.extA SA (k:=k) (by lia) (fun x hx=>ZeK o SB e0 (ZkP F1 x hx));by_cases c1:(ia+k+1 == a.size)=true
      ·rw[if_pos c1];exact wpS_pure ⟨lk4,.inl ⟨_,_,_,_,_,_,_,rfl,(o1.lastL SA SB LA c1)⟩⟩
      rw[if_neg c1];by_cases c2:(ia+k == a.size)=true
      ·rw[if_pos c2];exact wpS_pure ⟨lk4,.inl ⟨_,_,_,_,_,_,_,rfl,(o1.doneA SB c2)⟩⟩
      rw[if_neg c2];have n1:ia+k+1<a.size:=by
       have h1 : ¬ ia+k+1=a.size:=fun e=>c1 (by simp[<- e]);have h2 : ¬ ia+k=a.size:=fun e=>c2 (by simp[<- e]);lia
      refine ZfN o hc (lk4.kind.trans hk) ha hb SA SB LA (N:=ia+ib) (loq lk4) o1 n1 hib (by lia) (fun p e=>by rw[Zam e e0];exact Zlz F2 o) ?_;exact fun _ _=>rfl
     ·rw[if_neg k0];refine ZfN o hc (lk4.kind.trans hk) ha hb SA SB LA (N:=ia+ib) (loq lk4) ho hia hib (Nat.le_refl _) (fun p e=>by rw[Zam e e0];exact Zlz (k:=0) (fun i _ hi=>F2 i (by lia) hi) o) ?_;exact fun _ _=>rfl
   ·rintro c st3 ⟨lk3,out,ia,ib,g3,ac,bc,rfl,ho,hia,hib,hxx⟩;exact⟨lk3,.inr ⟨_,_,_,_,_,_,rfl,ho,hia,hib,hxx⟩⟩
   ·rintro c st3 ⟨lk3,⟨r,out,ia,ib,g3,ac,bc,rfl,hr⟩|⟨out,ia,ib,g3,ac,bc,rfl,ho,hia,hib,hxx⟩⟩
    ·exact wpS_pure ⟨lk3,_,_,_,_,_,rfl,hr⟩
    ·try dsimp -zeta only
     refine wpS_bind (wpS_modify ?_);exact wpS_pure ⟨lk3.trans (ZaU _ _),_,_,_,_,rfl,ho,hia,hib,by lia⟩
 ·rintro c st1 ⟨lk,out,ia,ib,g,rfl,ho,hia,hib,hx⟩;exfalso;lia
 ·rintro c st1 ⟨lk,r,out,ia,ib,g,rfl,hr⟩;exact wpS_pure (h r st1 lk hr)
end
section
variable{lt:Keyed->Keyed->Bool}{a b out:Array Keyed}{na nb k:Nat}{p q:Keyed}
structure OutHL(lt:Keyed->Keyed->Bool)(a b out:Array Keyed)(na nb:Nat):Prop where
 perm:Zc4 a b out na nb
 sort:So lt out.toList.reverse
 hiA:∀x∈out.toList,∀y∈a.toList.take na,Le lt y x
 hiB:∀x∈out.toList,∀y∈b.toList.take nb,Le lt y x
theorem Zcp(h1:1<=na)(hp:a[na-1]?= some p):a.toList.take na=a.toList.take (na-1) ++ [p]:=by
 have:=Zel (ZiW hp);rw[Nat.sub_add_cancel h1] at this;exact this
theorem So.take{l:List Keyed}(h:So lt l)(n:Nat):So lt (l.take n):=List.Pairwise.sublist (List.take_sublist n l) h
theorem So.last(h:So lt a.toList)(h1:1<=na)(hp:a[na-1]?= some p):∀y∈a.toList.take (na-1),Le lt y p:=fun y hy=>by
 have:=h.take na;rw[Zcp h1 hp] at this;exact(List.pairwise_append.mp this).2.2 y hy p (List.mem_singleton.mpr rfl)
theorem Zey(o:Swo lt)(h:So lt a.toList)(h1:1<=na)(hp:a[na-1]?= some p){x:Keyed}(hx:Le lt p x):∀y∈a.toList.take na,Le lt y x:=fun y hy=>by
 rw[Zcp h1 hp] at hy;rcases List.mem_append.mp hy with hy|hy
 ·exact o.le_trans (h.last h1 hp y hy) hx
 ·rw[List.mem_singleton.mp hy];exact hx
theorem Zd8{l:List Keyed}{i j:Nat}(h:i<=j){y:Keyed}(hy:y∈l.take i):y∈l.take j:=by
 rw[show i=min i j by lia,<- List.take_take] at hy;exact List.mem_of_mem_take hy
theorem ZbI{l:List Keyed}{n:Nat}{y:Keyed}(h:y∈l.take n):∃i,i<n/\l[i]?= some y:=by
 obtain⟨i,hi⟩:=List.mem_iff_getElem?.mp h;have hik:i<n:=by
  have:=(List.getElem?_eq_some_iff.mp hi).1;rw[List.length_take] at this;lia
 rw[List.getElem?_take_of_lt hik] at hi;exact⟨i,hik,hi⟩
theorem ZbA{i j:Nat}{x:Keyed}(h:x∈(a.extract i j).toList):∃m,i<=m/\m<j/\a[m]?= some x:=by
 rw[Array.toList_extract,List.extract_eq_drop_take] at h;obtain⟨m,hm,e⟩:=ZbI h;rw[List.getElem?_drop] at e;exact⟨i+m,by lia,by lia,by rw[<- Array.getElem?_toList];exact e⟩
theorem Zls(F:∀i,k<=i->i<na->BV lt false p a 0 i=false)(o:Swo lt):∀x∈(a.extract k na).toList,Le lt p x:=fun x hx=>by
 obtain⟨m,h1,h2,e⟩:=ZbA hx;have h3:=F m h1 h2;unfold BV at h3;rw[Nat.zero_add,e] at h3;have h4:(!lt p x)=false:=h3;exact o.le_of (by simpa using h4)
theorem Zga(F:∀i,i<k->BV lt false p a 0 i=true):∀y∈a.toList.take k,Le lt y p:=fun y hy=>by
 obtain⟨i,hi,e⟩:=ZbI hy;have h3:=F i hi;unfold BV at h3;rw[Nat.zero_add,<- Array.getElem?_toList,e] at h3;have h4:(!lt p y)=true:=h3;show lt p y=false
 simpa using h4
theorem ZlN(F:∀i,k<=i->i<nb->BV lt true q b 0 i=false):∀x∈(b.extract k nb).toList,Le lt q x:=fun x hx=>by
 obtain⟨m,h1,h2,e⟩:=ZbA hx;have h3:=F m h1 h2;unfold BV at h3;rw[Nat.zero_add,e] at h3;exact h3
theorem Zjp(F:∀i,i<k->BV lt true q b 0 i=true)(o:Swo lt):∀y∈b.toList.take k,Le lt y q:=fun y hy=>by
 obtain⟨i,hi,e⟩:=ZbI hy;have h3:=F i hi;unfold BV at h3;rw[Nat.zero_add,<- Array.getElem?_toList,e] at h3;exact o.le_of h3
theorem ZfS(h:So lt out.toList.reverse)(hp:∀x∈out.toList,Le lt p x):So lt (out.push p).toList.reverse:=by
 rw[Array.toList_push,List.reverse_append];exact List.pairwise_cons.mpr ⟨fun x hx=>hp x (List.mem_reverse.mp hx),h⟩
theorem OutHL.pushA(h:OutHL lt a b out na nb)(SA:So lt a.toList)(h1:1<=na)(hp:a[na-1]?= some p)(hb:∀y∈b.toList.take nb,Le lt y p):OutHL lt a b (out.push p) (na-1) nb:=by
 have hm:p∈a.toList.take na:=by rw[Zcp h1 hp];exact List.mem_append_right _ (List.mem_singleton.mpr rfl)
 refine⟨h.perm.pushA h1 hp,ZfS h.sort fun x hx=>h.hiA x hx p hm,fun x hx y hy=>?_,fun x hx y hy=>?_⟩
 ·rcases mem_push hx with hx|rfl
  ·exact h.hiA x hx y (Zd8 (by lia) hy)
  ·exact SA.last h1 hp y hy
 ·rcases mem_push hx with hx|rfl
  ·exact h.hiB x hx y hy
  ·exact hb y hy
theorem OutHL.pushB(h:OutHL lt a b out na nb)(SB:So lt b.toList)(h1:1<=nb)(hp:b[nb-1]?= some p)(ha:∀y∈a.toList.take na,Le lt y p):OutHL lt a b (out.push p) na (nb-1):=by
 have hm:p∈b.toList.take nb:=by rw[Zcp h1 hp];exact List.mem_append_right _ (List.mem_singleton.mpr rfl)
 refine⟨h.perm.pushB h1 hp,ZfS h.sort fun x hx=>h.hiB x hx p hm,fun x hx y hy=>?_,fun x hx y hy=>?_⟩
 ·rcases mem_push hx with hx|rfl
  ·exact h.hiA x hx y hy
  ·exact ha y hy
 ·rcases mem_push hx with hx|rfl
  ·exact h.hiB x hx y (Zd8 (by lia) hy)
  ·exact SB.last h1 hp y hy
theorem Zi3(h:So lt a.toList)(i j:Nat):So lt (a.extract i j).toList:=by
 rw[Array.toList_extract,List.extract_eq_drop_take];exact(h.drop i).take _
theorem Zhc{i j:Nat}{x:Keyed}(h:x∈(a.extract i j).toList):x∈a.toList.take j:=by
 obtain⟨m,h1,h2,e⟩:=ZbA h;rw[<- Array.getElem?_toList] at e;refine List.mem_iff_getElem?.mpr ⟨m,?_⟩;rw[List.getElem?_take_of_lt h2];exact e
theorem ZdQ(h:So lt a.toList){i j:Nat}{x y:Keyed}(hy:y∈a.toList.take i)(hx:x∈(a.extract i j).toList):Le lt y x:=by
 obtain⟨m,h1,h2,e⟩:=ZbA hx;obtain⟨l,hl,e2⟩:=ZbI hy;rw[Array.getElem?_toList] at e2;exact Zfv h 0 (m+1) l m _ _ (Nat.zero_le _) (by lia) (by lia) e2 e
theorem OutHL.extA(h:OutHL lt a b out na nb)(SA:So lt a.toList)(hk:k<=na)(hb:∀x∈(a.extract k na).toList,∀y∈b.toList.take nb,Le lt y x):OutHL lt a b (out++(a.extract k na).reverse) k nb:=by
 have hm:∀x,x∈(out++(a.extract k na).reverse).toList->x∈out.toList\/x∈(a.extract k na).toList:=fun x hx=>by
  rw[Array.toList_append,Array.toList_reverse] at hx;rcases List.mem_append.mp hx with hx|hx
  ·exact .inl hx
  ·exact .inr (List.mem_reverse.mp hx)
 refine⟨h.perm.extA hk,?_,fun x hx y hy=>?_,fun x hx y hy=>?_⟩
 ·rw[Array.toList_append,Array.toList_reverse,List.reverse_append,List.reverse_reverse];exact List.pairwise_append.mpr ⟨Zi3 SA _ _,h.sort,fun x hx y hy=>h.hiA y (List.mem_reverse.mp hy) x (Zhc hx)⟩
 ·rcases hm x hx with hx|hx
  ·exact h.hiA x hx y (Zd8 (by lia) hy)
  ·exact ZdQ SA hy hx
 ·rcases hm x hx with hx|hx
  ·exact h.hiB x hx y hy
  ·exact hb x hx y hy
theorem OutHL.extB(h:OutHL lt a b out na nb)(SB:So lt b.toList)(hk:k<=nb)(ha:∀x∈(b.extract k nb).toList,∀y∈a.toList.take na,Le lt y x):OutHL lt a b (out++(b.extract k nb).reverse) na k:=by
 have hm:∀x,x∈(out++(b.extract k nb).reverse).toList->x∈out.toList\/x∈(b.extract k nb).toList:=fun x hx=>by
  rw[Array.toList_append,Array.toList_reverse] at hx;rcases List.mem_append.mp hx with hx|hx
  ·exact .inl hx
  ·exact .inr (List.mem_reverse.mp hx)
 refine⟨h.perm.extB hk,?_,fun x hx y hy=>?_,fun x hx y hy=>?_⟩
 ·rw[Array.toList_append,Array.toList_reverse,List.reverse_append,List.reverse_reverse];exact List.pairwise_append.mpr ⟨Zi3 SB _ _,h.sort,fun x hx y hy=>h.hiB y (List.mem_reverse.mp hy) x (Zhc hx)⟩
 ·rcases hm x hx with hx|hx
  ·exact h.hiA x hx y hy
  ·exact ha x hx y hy
 ·rcases hm x hx with hx|hx
  ·exact h.hiB x hx y (Zd8 (by lia) hy)
  ·exact ZdQ SB hy hx
theorem OutHL.doneA(h:OutHL lt a b out na nb)(SB:So lt b.toList)(e:(na == 0)=true):Rs lt a b (a.extract 0 na++b.extract 0 nb++out.reverse):=by
 refine⟨h.perm.done,?_⟩;rw[Array.toList_append,Array.toList_append,ex0,ex0,Array.toList_reverse,eq_of_beq e,List.take_zero,List.nil_append];exact List.pairwise_append.mpr ⟨SB.take nb,h.sort,fun x hx y hy=>h.hiB y (List.mem_reverse.mp hy) x hx⟩
theorem OutHL.doneB(h:OutHL lt a b out na nb)(SA:So lt a.toList)(e:(nb == 0)=true):Rs lt a b (a.extract 0 na++b.extract 0 nb++out.reverse):=by
 refine⟨h.perm.done,?_⟩;rw[Array.toList_append,Array.toList_append,ex0,ex0,Array.toList_reverse,eq_of_beq e,List.take_zero,List.append_nil];exact List.pairwise_append.mpr ⟨SA.take na,h.sort,fun x hx y hy=>h.hiA y (List.mem_reverse.mp hy) x hx⟩
theorem OutHL.firstL(h:OutHL lt a b out na nb)(SA:So lt a.toList)(SB:So lt b.toList)(hb0:∀p,b[0]?= some p->∀y∈a.toList,Le lt p y)(e:(nb == 1)=true):Rs lt a b (b.extract 0 nb++a.extract 0 na++out.reverse):=by
 refine⟨h.perm.first,?_⟩
 rw[Array.toList_append,Array.toList_append,ex0,ex0,Array.toList_reverse];refine List.pairwise_append.mpr ⟨List.pairwise_append.mpr ⟨SB.take nb,SA.take na,fun x hx y hy=>?_⟩,h.sort,fun x hx y hy=>?_⟩
 ·obtain⟨i,hi,e2⟩:=ZbI hx;rw[eq_of_beq e] at hi;obtain rfl:i=0:=by lia
  rw[Array.getElem?_toList] at e2;exact hb0 x e2 y (List.mem_of_mem_take hy)
 ·rcases List.mem_append.mp hx with hx|hx
  ·exact h.hiB y (List.mem_reverse.mp hy) x hx
  ·exact h.hiA y (List.mem_reverse.mp hy) x hx
theorem Zk6(SA:So lt a.toList)(h1:1<=a.size)(hp:a[a.size-1]?= some p)(LA:∀x∈b.toList,∀q,a[a.size-1]?= some q->Le lt x q):OutHL lt a b #[p] (a.size-1) b.size:=by
 refine⟨ZlT h1 hp,List.pairwise_singleton _ _,fun x hx y hy=>?_,fun x hx y hy=>?_⟩
 ·obtain rfl:x=p:=by simpa using hx
  exact SA.last h1 hp y hy
 ·obtain rfl:x=p:=by simpa using hx
  exact LA y (List.mem_of_mem_take hy) x hp
end
section
variable{prog:Program}{w:World}{A:Around}{E:Value->Shared->Prop}{s:Shared}{κ : SortKind}{Ok:Keyed->Prop}{st:SortSt}{lt:Keyed->Keyed->Bool}
abbrev HiT:=Option (Array Keyed)×Nat×Nat×Array Keyed×Nat×Nat×Nat
def hi3(a b:Array Keyed)(na nb:Nat)(out:Array Keyed)(g ac bc:Nat):StateT SortSt Sem (ForInStep HiT) :=
 elem' a (na-1) >>= fun p=>if(na-1 == 0)=true then pure (.done (some (a.extract 0 (na-1)++b.extract 0 nb++(out.push p).reverse),na-1,nb,out.push p,g,ac,bc))
  else if(decide (ac<7)&&decide (bc<7))=true then pure (.done (none,na-1,nb,out.push p,g,ac,bc)) else pure (.yield (none,na-1,nb,out.push p,g,ac,bc))
structure HiQ(lt:Keyed->Keyed->Bool)(a b:Array Keyed)(st:SortSt)(N:Nat)(Q:ForInStep HiT->SortSt->Prop):Prop where
 R:∀r na nb out g ac bc,Rs lt a b r->Q (.done (some r,na,nb,out,g,ac,bc)) st
 N:∀na nb out g ac bc,OutHL lt a b out na nb->1<=na->na<=a.size->2<=nb->nb<=b.size->na+nb<=N->Q (.done (none,na,nb,out,g,ac,bc)) st/\Q (.yield (none,na,nb,out,g,ac,bc)) st
def HiP(lt:Keyed->Keyed->Bool)(a b:Array Keyed)(st:SortSt)(x:Nat):ForInStep HiT->SortSt->Prop:=fun r st'=>match r with
 | .done c=>Like st st'/\((∃r na nb out g ac bc,c=(some r,na,nb,out,g,ac,bc)/\Rs lt a b r)\/∃na nb out g ac bc,c=(none,na,nb,out,g,ac,bc)/\OutHL lt a b out na nb/\1<=na/\na<=a.size/\2<=nb/\nb<=b.size/\na+nb+x+2<=a.size+b.size)
 | .yield c=>Like st st'/\∃na nb out g ac bc,c=(none,na,nb,out,g,ac,bc)/\OutHL lt a b out na nb/\1<=na/\na<=a.size/\2<=nb/\nb<=b.size/\na+nb+x+2<=a.size+b.size
section
variable{a b out:Array Keyed}{na nb g ac bc N:Nat}{Q:ForInStep HiT->SortSt->Prop}
theorem Zi6(SA:So lt a.toList)(SB:So lt b.toList)(q:HiQ lt a b st N Q)(ho:OutHL lt a b out na nb)(h1:1<=na)(h2:na<=a.size)(h3:2<=nb)(h4:nb<=b.size)(hN:na+nb<=N)(hp:∀p,a[na-1]?= some p->∀y∈b.toList.take nb,Le lt y p) :
  wpS (model prog w) A E s (hi3 a b na nb out g ac bc) Q st:=by
 unfold hi3;refine wpS_bind (ZX (by lia) fun p4 w4 e4=>?_);have o4:=ho.pushA SA h1 e4 (hp p4 e4);by_cases f1:(na-1 == 0)=true
 ·rw[if_pos f1];exact wpS_pure (q.R _ _ _ _ _ _ _ (o4.doneA SB f1))
 rw[if_neg f1];have n4 : ¬ na-1=0:=fun e=>f1 (by simp[e]);have z:=q.N _ _ _ g ac bc o4 (by lia) (by lia) h3 h4 (by lia);by_cases f2:(decide (ac<7)&&decide (bc<7))=true
 ·rw[if_pos f2];exact wpS_pure z.1
 ·rw[if_neg f2];exact wpS_pure z.2
theorem ZfQ(o:Swo lt)(hc:ZgV prog w A s κ Ok lt)(hk:kindOf st= κ)(ha:∀p∈a.toList,Ok p)(hb:∀p∈b.toList,Ok p)(hb0:∀p,b[0]?= some p->∀y∈a.toList,Le lt p y)(SA:So lt a.toList)(SB:So lt b.toList)(q:HiQ lt a b st N Q)(ho:OutHL lt a b out na nb)(h1:1<=na)(h2:na<=a.size)(h3:2<=nb)(h4:nb<=b.size)(hN:na+nb<=N)(hp:∀p,b[nb-1]?= some p->∀y∈a.toList.take na,Le lt y p)
  {T:Keyed->Option Nat->StateT SortSt Sem (ForInStep HiT)} (hT:∀p k,T p (some k)=if nb-1-k > 0 then(if(k == 1)=true then pure (.done (some (b.extract 0 k++a.extract 0 na++(out.push p++(b.extract k (nb-1)).reverse).reverse),na,k,out.push p++(b.extract k (nb-1)).reverse,g,ac,nb-1-k))
     else if(k == 0)=true then pure (.done (some (a.extract 0 na++b.extract 0 k++(out.push p++(b.extract k (nb-1)).reverse).reverse),na,k,out.push p++(b.extract k (nb-1)).reverse,g,ac,nb-1-k))
     else hi3 a b na k (out.push p++(b.extract k (nb-1)).reverse) g ac (nb-1-k))
    else hi3 a b na (nb-1) (out.push p) g ac (nb-1-k)) :
  wpS (model prog w) A E s (elem' b (nb-1) >>= fun p=>if(nb-1 == 1)=true then pure (.done (some (b.extract 0 (nb-1)++a.extract 0 na++(out.push p).reverse),na,nb-1,out.push p,g,ac,bc))
   else elem' a (na-1) >>= fun q=>Zfd true q b 0 (nb-1) (nb-1-1) >>= T p) Q st:=by
 refine wpS_bind (ZX (by lia) fun p3 w3 e3=>?_);have o2:=ho.pushB SB (by lia) e3 (hp p3 e3);by_cases c3:(nb-1 == 1)=true
 ·rw[if_pos c3];exact wpS_pure (q.R _ _ _ _ _ _ _ (o2.firstL SA SB hb0 c3))
 rw[if_neg c3];have n3 : ¬ nb-1=1:=fun e=>c3 (by simp[e]);refine wpS_bind (ZX (by lia) fun q3 v3 u3=>?_);refine wpS_bind (ZaD o hc hk (ha q3 v3) hb (by lia) (by lia) (Zfv SB _ _) fun k2 hk2 G1 G2=>?_);rw[hT];by_cases k20:nb-1-k2 > 0
 ·rw[if_pos k20];have o3:=o2.extB SB (k:=k2) (by lia) (fun x hx=>Zey o SA (by lia) u3 (ZlN G2 x hx));by_cases c4:(k2 == 1)=true
  ·rw[if_pos c4];exact wpS_pure (q.R _ _ _ _ _ _ _ (o3.firstL SA SB hb0 c4))
  rw[if_neg c4];by_cases c5:(k2 == 0)=true
  ·rw[if_pos c5];exact wpS_pure (q.R _ _ _ _ _ _ _ (o3.doneB SA c5))
  rw[if_neg c5];have n5 : ¬ k2=1:=fun e=>c4 (by simp[e]);have n6 : ¬ k2=0:=fun e=>c5 (by simp[e]);exact Zi6 SA SB q o3 h1 h2 (by lia) (by lia) (by lia) fun p e=>by rw[Zam e u3];exact Zjp G1 o
 ·rw[if_neg k20];exact Zi6 SA SB q o2 h1 h2 (by lia) (by lia) (by lia) fun p e=>by rw[Zam e u3];exact Zjp (fun i hi=>G1 i (by lia)) o
end
set_option maxHeartbeats 2000000 in
theorem ZeA{a b:Array Keyed}{Q:Array Keyed->SortSt->Prop}(o:Swo lt)(hc:ZgV prog w A s κ Ok lt)(hk:kindOf st= κ)(ha:∀p∈a.toList,Ok p)(hb:∀p∈b.toList,Ok p)(ha1:1<=a.size)(hb1:1<=b.size)(SA:So lt a.toList)(SB:So lt b.toList)(hb0:∀p,b[0]?= some p->∀y∈a.toList,Le lt p y)(LA:∀x∈b.toList,∀q,a[a.size-1]?= some q->Le lt x q)
  (h:∀r st',Like st st'->Rs lt a b r->Q r st'):wpS (model prog w) A E s (Ziw a b) Q st:=by
 refine wpS_bind (wpS_lift (wpAny_rule ⟨rfl,?_⟩));refine wpS_bind (ZX (by lia) fun p hp he=>?_)
 try dsimp -zeta only
 have o0:OutHL lt a b #[p] (a.size-1) b.size:=Zk6 SA ha1 he LA;by_cases c1:(a.size-1 == 0)=true
 ·rw[if_pos c1];exact wpS_pure (h _ _ (Like.refl _) (o0.doneA SB c1))
 rw[if_neg c1];by_cases c2:(b.size == 1)=true
 ·rw[if_pos c2];exact wpS_pure (h _ _ (Like.refl _) (o0.firstL SA SB hb0 c2))
 rw[if_neg c2];have n1:1<b.size:=by
  have : ¬ b.size=1:=fun e=>c2 (by simp[e]);lia
 have n2:1<a.size:=by
  have : ¬ a.size-1=0:=fun e=>c1 (by simp[e]);lia
 refine wpS_bind (wpS_get ?_);refine wpS_bind (wpS_mono (wpS_forRange (I:=fun x c st'=>Like st st'/\∃na nb out g,c=(none,na,nb,out,g)/\OutHL lt a b out na nb/\1<=na/\na<=a.size/\2<=nb/\nb<=b.size/\na+nb+x+1<=a.size+b.size)
  (Q:=fun c st'=>Like st st'/\∃r na nb out g,c=(some r,na,nb,out,g)/\Rs lt a b r) ?_ ?_ ⟨Like.refl _,_,_,_,_,rfl,o0,by lia,by lia,by lia,by lia,by lia⟩) ?_)
 ·rintro x c st1 _ hx ⟨lk,na,nb,out,g,rfl,ho,h1,h2,h3,h4,hxx⟩
  try dsimp -zeta only
  refine wpS_bind (wpS_mono (wpS_forRange (I:=fun y c st'=>Like st st'/\∃na nb out ac bc,c=(none,na,nb,out,ac,bc)/\OutHL lt a b out na nb/\1<=na/\na<=a.size/\2<=nb/\nb<=b.size/\na+nb+x+1+(if y=0 then 0 else 1)<=a.size+b.size)
   (Q:=fun c st'=>Like st st'/\((∃r na nb out ac bc,c=(some r,na,nb,out,ac,bc)/\Rs lt a b r)\/∃na nb out ac bc,c=(none,na,nb,out,ac,bc)/\OutHL lt a b out na nb/\1<=na/\na<=a.size/\2<=nb/\nb<=b.size/\na+nb+x+2<=a.size+b.size)) ?_ ?_ ⟨lk,na,nb,out,0,0,rfl,ho,h1,h2,h3,h4,by simp;lia⟩) ?_)
  ·rintro y c st2 _ hy ⟨lk2,na,nb,out,ac,bc,rfl,ho,h1,h2,h3,h4,hxx⟩;have hxx2:na+nb+x+1<=a.size+b.size:=by split at hxx <;> lia
   try dsimp only
   refine wpS_bind (ZX (by lia) fun p hp ep=>?_);refine wpS_bind (ZX (by lia) fun q hq eq=>?_);refine wpS_bind (Zdw hc (lk2.kind.trans hk) (hb p hp) (ha q hq) ?_);cases hbw:lt p q with
   | true =>
    try dsimp only
    rw[if_pos rfl];refine wpS_bind (ZX (by lia) fun p2 hp2 ep2=>?_);have o1:=ho.pushA SA h1 ep2 (by rw[Zam ep2 eq];exact Zey o SB (by lia) ep (o.le_of hbw));by_cases d1:(na-1 == 0)=true
    ·rw[if_pos d1];exact wpS_pure ⟨lk2,.inl ⟨_,_,_,_,_,_,rfl,(o1.doneA SB d1)⟩⟩
    rw[if_neg d1];have m1 : ¬ na-1=0:=fun e=>d1 (by simp[e]);by_cases d2:ac+1>=g
    ·rw[if_pos d2];exact wpS_pure ⟨lk2,.inr ⟨_,_,_,_,_,rfl,o1,by lia,by lia,h3,h4,by lia⟩⟩
    ·rw[if_neg d2];exact wpS_pure ⟨lk2,_,_,_,_,_,rfl,o1,by lia,by lia,h3,h4,by rw[if_neg (by lia)];lia⟩
   | false =>
    try dsimp only
    rw[if_neg Bool.false_ne_true];refine wpS_bind (ZX (by lia) fun p2 hp2 ep2=>?_);have o1:=ho.pushB SB (by lia) ep2 (by rw[Zam ep2 ep];exact Zey o SA h1 eq hbw);by_cases d1:(nb-1 == 1)=true
    ·rw[if_pos d1];exact wpS_pure ⟨lk2,.inl ⟨_,_,_,_,_,_,rfl,(o1.firstL SA SB hb0 d1)⟩⟩
    rw[if_neg d1];have m1 : ¬ nb-1=1:=fun e=>d1 (by simp[e]);by_cases d2:bc+1>=g
    ·rw[if_pos d2];exact wpS_pure ⟨lk2,.inr ⟨_,_,_,_,_,rfl,o1,h1,h2,by lia,by lia,by lia⟩⟩
    ·rw[if_neg d2];exact wpS_pure ⟨lk2,_,_,_,_,_,rfl,o1,h1,h2,by lia,by lia,by rw[if_neg (by lia)];lia⟩
  ·rintro c st2 ⟨lk2,na,nb,out,ac,bc,rfl,ho,h1,h2,h3,h4,hxx⟩;refine⟨lk2,.inr ⟨_,_,_,_,_,rfl,ho,h1,h2,h3,h4,?_⟩⟩;rw[if_neg (by lia)] at hxx;lia
  ·rintro c st2 ⟨lk2,⟨r,na,nb,out,ac,bc,rfl,hr⟩|⟨na,nb,out,ac,bc,rfl,ho,h1,h2,h3,h4,hxx⟩⟩
   ·exact wpS_pure ⟨lk2,_,_,_,_,_,rfl,hr⟩
   try dsimp -zeta only
   refine wpS_bind (wpS_lift (wpAny_rule ⟨rfl,?_⟩))
   try dsimp -zeta only
   refine wpS_bind (wpS_mono (wpS_forRange (I:=fun y c st'=>Like st st'/\∃na nb out g ac bc,c=(none,na,nb,out,g,ac,bc)/\OutHL lt a b out na nb/\1<=na/\na<=a.size/\2<=nb/\nb<=b.size/\na+nb+x+2<=a.size+b.size)
    (Q:=fun c st'=>Like st st'/\((∃r na nb out g ac bc,c=(some r,na,nb,out,g,ac,bc)/\Rs lt a b r)\/∃na nb out g ac bc,c=(none,na,nb,out,g,ac,bc)/\OutHL lt a b out na nb/\1<=na/\na<=a.size/\2<=nb/\nb<=b.size/\na+nb+x+2<=a.size+b.size)) ?_ ?_ ⟨lk2,na,nb,out,_,_,_,rfl,ho,h1,h2,h3,h4,hxx⟩) ?_)
   ·rintro y c st3 _ hy ⟨lk3,na,nb,out,g3,ac,bc,rfl,ho,h1,h2,h3,h4,hxx⟩
    try dsimp only
    refine wpS_mono (Q:=HiP lt a b st x) ?_ (fun r st' h=>by cases r <;> exact h)
    have hiq:∀{st4},Like st st4->HiQ lt a b st4 (na+nb) (HiP lt a b st x):=fun lk4=>⟨fun r na nb out g ac bc hr=>⟨lk4,.inl ⟨r,na,nb,out,g,ac,bc,rfl,hr⟩⟩,fun na nb out g ac bc ho h1 h2 h3 h4 hN=>⟨⟨lk4,.inr ⟨na,nb,out,g,ac,bc,rfl,ho,h1,h2,h3,h4,by lia⟩⟩,⟨lk4,na,nb,out,g,ac,bc,rfl,ho,h1,h2,h3,h4,by lia⟩⟩⟩;by_cases g1:g3 > 1
    ·rw[if_pos g1];refine wpS_bind (wpS_modify ?_);have lk4:=lk3.trans (ZaU st3 (g3-1));refine wpS_bind (ZX (by lia) fun p0 w0 e0=>?_);refine wpS_bind (ZaD o hc (lk4.kind.trans hk) (hb p0 w0) ha (by lia) (by lia) (Zfv SA _ _) fun k hk1 F1 F2=>?_);dsimp only;by_cases k0:na-k > 0
     ·rw[if_pos k0];have o1:=ho.extA SA (k:=k) (by lia) (fun x hx=>Zey o SB (by lia) e0 (Zls F2 o x hx));by_cases c1:(k == 0)=true
      ·rw[if_pos c1];exact wpS_pure ⟨lk4,.inl ⟨_,_,_,_,_,_,_,rfl,(o1.doneA SB c1)⟩⟩
      rw[if_neg c1];have n1 : ¬ k=0:=fun e=>c1 (by simp[e]);refine ZfQ o hc (lk4.kind.trans hk) ha hb hb0 SA SB (N:=na+nb) (hiq lk4) o1 (by lia) (by lia) h3 h4 (by lia) (fun p e=>by rw[Zam e e0];exact Zga F1) ?_;exact fun _ _=>rfl
     ·rw[if_neg k0];refine ZfQ o hc (lk4.kind.trans hk) ha hb hb0 SA SB (N:=na+nb) (hiq lk4) ho h1 h2 h3 h4 (Nat.le_refl _) (fun p e=>by rw[Zam e e0];exact Zga fun i hi=>F1 i (by lia)) ?_;exact fun _ _=>rfl
    ·rw[if_neg g1];refine wpS_bind (wpS_modify ?_);have lk4:=lk3.trans (ZaU st3 g3);refine wpS_bind (ZX (by lia) fun p0 w0 e0=>?_);refine wpS_bind (ZaD o hc (lk4.kind.trans hk) (hb p0 w0) ha (by lia) (by lia) (Zfv SA _ _) fun k hk1 F1 F2=>?_);dsimp only;by_cases k0:na-k > 0
     ·rw[if_pos k0];have o1:=ho.extA SA (k:=k) (by lia) (fun x hx=>Zey o SB (by lia) e0 (Zls F2 o x hx));by_cases c1:(k == 0)=true
      ·rw[if_pos c1];exact wpS_pure ⟨lk4,.inl ⟨_,_,_,_,_,_,_,rfl,(o1.doneA SB c1)⟩⟩
      rw[if_neg c1];have n1 : ¬ k=0:=fun e=>c1 (by simp[e]);refine ZfQ o hc (lk4.kind.trans hk) ha hb hb0 SA SB (N:=na+nb) (hiq lk4) o1 (by lia) (by lia) h3 h4 (by lia) (fun p e=>by rw[Zam e e0];exact Zga F1) ?_;exact fun _ _=>rfl
     ·rw[if_neg k0];refine ZfQ o hc (lk4.kind.trans hk) ha hb hb0 SA SB (N:=na+nb) (hiq lk4) ho h1 h2 h3 h4 (Nat.le_refl _) (fun p e=>by rw[Zam e e0];exact Zga fun i hi=>F1 i (by lia)) ?_;exact fun _ _=>rfl
   ·rintro c st3 ⟨lk3,na,nb,out,g3,ac,bc,rfl,ho,h1,h2,h3,h4,hxx⟩;exact⟨lk3,.inr ⟨_,_,_,_,_,_,rfl,ho,h1,h2,h3,h4,hxx⟩⟩
   ·rintro c st3 ⟨lk3,⟨r,na,nb,out,g3,ac,bc,rfl,hr⟩|⟨na,nb,out,g3,ac,bc,rfl,ho,h1,h2,h3,h4,hxx⟩⟩
    ·exact wpS_pure ⟨lk3,_,_,_,_,_,rfl,hr⟩
    ·try dsimp only
     refine wpS_bind (wpS_modify ?_);exact wpS_pure ⟨lk3.trans (ZaU _ _),_,_,_,_,rfl,ho,h1,h2,h3,h4,by lia⟩
 ·rintro c st1 ⟨lk,na,nb,out,g,rfl,ho,h1,h2,h3,h4,hx⟩;exfalso;lia
 ·rintro c st1 ⟨lk,r,na,nb,out,g,rfl,hr⟩;exact wpS_pure (h r st1 lk hr)
end
structure Pl(lo hi:Nat)(st st':SortSt):Prop where
 pm:Pm st st'
 out:∀i,i<lo\/hi<=i->(arrOf st')[i]?= (arrOf st)[i]?
theorem Pl.refl(lo hi:Nat)(st:SortSt):Pl lo hi st st:=⟨Pm.refl _,fun _ _=>rfl⟩
theorem Pl.trans{lo hi:Nat}{a b c:SortSt}(x:Pl lo hi a b)(y:Pl lo hi b c):Pl lo hi a c:=⟨x.pm.trans y.pm,fun i h=>(y.out i h).trans (x.out i h)⟩
theorem Pl.mirror{lo hi i j:Nat}(st:SortSt)(h1:lo<=i)(h2:j<=hi)(hj:j<=(arrOf st).size):Pl lo hi st (setArr st (mirror (arrOf st) i j ((j-i) / 2))):=⟨Pm.mirror st i j,fun k hk=>by
 show(PyProof.Rows.mirror (arrOf st) i j ((j-i) / 2))[k]?= _;rw[getElem?_mirror_all hj,if_neg (by lia)]⟩
theorem Pl.bubble{lo hi src dst:Nat}(st:SortSt)(h1:lo<=dst)(h2:dst<=src)(h3:src<hi)(hs:src<(arrOf st).size):Pl lo hi st (setArr st (bubble (arrOf st) src (src-dst))):=⟨Pm.bubble st src dst,fun k hk=>by
 show(PyProof.Rows.bubble (arrOf st) src (src-dst))[k]?= _;rw[getElem?_bubble hs _ (by lia),if_neg (by lia),if_neg (by lia)]⟩
section
variable{lt:Keyed->Keyed->Bool}{arr:Array Keyed}{lo hi m:Nat}{p q:Keyed}
def Dn(lt:Keyed->Keyed->Bool)(arr:Array Keyed)(i j:Nat):Prop := ∀x y p q,i<=x->x<y->y<j->arr[x]?= some p->arr[y]?= some q->Le lt q p
def Eqv(lt:Keyed->Keyed->Bool)(arr:Array Keyed)(i j:Nat):Prop := ∀x y p q,i<=x->x<j->i<=y->y<j->arr[x]?= some p->arr[y]?= some q->Le lt p q
theorem Zjb:Up lt arr lo (lo+1):=fun x y _ _ h1 h2 h3=>by lia
theorem ZkJ:Dn lt arr lo (lo+1):=fun x y _ _ h1 h2 h3=>by lia
theorem Up.ext(o:Swo lt)(h:Up lt arr lo m)(hm:lo<m)(hp:arr[m-1]?= some p)(hq:arr[m]?= some q)(hle:Le lt p q):Up lt arr lo (m+1):=fun x y u v h1 h2 h3 eu ev=>by
 by_cases hy:y<m
 ·exact h x y u v h1 h2 hy eu ev
 obtain rfl:y=m:=by lia
 rw[hq] at ev;cases ev;by_cases hx:x=y-1
 ·rw[hx,hp] at eu;cases eu;exact hle
 ·exact o.le_trans (h x (y-1) u p h1 (by lia) (by lia) eu hp) hle
theorem Dn.ext(o:Swo lt)(h:Dn lt arr lo m)(hm:lo<m)(hp:arr[m-1]?= some p)(hq:arr[m]?= some q)(hle:Le lt q p):Dn lt arr lo (m+1):=fun x y u v h1 h2 h3 eu ev=>by
 by_cases hy:y<m
 ·exact h x y u v h1 h2 hy eu ev
 obtain rfl:y=m:=by lia
 rw[hq] at ev;cases ev;by_cases hx:x=y-1
 ·rw[hx,hp] at eu;cases eu;exact hle
 ·exact o.le_trans hle (h x (y-1) u p h1 (by lia) (by lia) eu hp)
theorem Dn.mirror(h:Dn lt arr lo hi)(hs:hi<=arr.size):Up lt (mirror arr lo hi ((hi-lo) / 2)) lo hi:=fun x y u v h1 h2 h3 eu ev=>by
 rw[getElem?_mirror_all hs,if_pos (by lia)] at eu ev;exact h (lo+hi-1-y) (lo+hi-1-x) v u (by lia) (by lia) (by lia) ev eu
theorem Up.mirror(h:Up lt arr lo hi)(hs:hi<=arr.size):Dn lt (mirror arr lo hi ((hi-lo) / 2)) lo hi:=fun x y u v h1 h2 h3 eu ev=>by
 rw[getElem?_mirror_all hs,if_pos (by lia)] at eu ev;exact h (lo+hi-1-y) (lo+hi-1-x) v u (by lia) (by lia) (by lia) ev eu
theorem Dn.turn(h:Dn lt arr lo hi)(he:Eqv lt arr m hi)(hm:lo<=m)(hs:hi<=arr.size):Dn lt (PyProof.Rows.mirror arr m hi ((hi-m) / 2)) lo hi:=fun x y u v h1 h2 h3 eu ev=>by
 rw[getElem?_mirror_all hs] at eu ev;by_cases hy:m<=y/\y<hi
 ·rw[if_pos hy] at ev;by_cases hx:m<=x/\x<hi
  ·rw[if_pos hx] at eu;exact he _ _ _ _ (by lia) (by lia) (by lia) (by lia) ev eu
  ·rw[if_neg hx] at eu;exact h x (m+hi-1-y) u v h1 (by lia) (by lia) eu ev
 ·rw[if_neg hy] at ev;rw[if_neg (by lia)] at eu;exact h x y u v h1 h2 h3 eu ev
end
section
variable{prog:Program}{w:World}{A:Around}{E:Value->Shared->Prop}{s:Shared}{κ : SortKind}{Ok:Keyed->Prop}{st:SortSt}{lt:Keyed->Keyed->Bool}
theorem ZaE{i j:Nat}{Q:Option Bool->SortSt->Prop}(hc:ZgV prog w A s κ Ok lt)(hk:kindOf st= κ)(ho:∀p∈(arrOf st).toList,Ok p)(hi:i<(arrOf st).size)(hj:j<(arrOf st).size)(h:∀p q,(arrOf st)[i]?= some p->(arrOf st)[j]?= some q->Q (some (lt p q)) st):wpS (model prog w) A E s (ltAt' i j) Q st:=by
 rw[ltAt'_eq];refine wpS_bind (wpS_get ?_);refine wpS_bind (ZX hi fun p hp e1=>wpS_bind (ZX hj fun q hq e2=>?_));exact Zdw hc hk (ho p hp) (ho q hq) (h p q e1 e2)
theorem Za2{i j:Nat}{Q:PUnit->SortSt->Prop}(h:Q ⟨⟩ (setArr st (mirror (arrOf st) i j ((j-i) / 2)))):wpS (model prog w) A E s (reverseSlice' i j) Q st:=by
 rw[reverseSlice'_eq];exact wpS_modify h
theorem Zhm{i j:Nat}{Q:PUnit->SortSt->Prop}(h:Q ⟨⟩ (setArr st (bubble (arrOf st) i (i-j)))):wpS (model prog w) A E s (moveDown' i j) Q st:=by
 rw[moveDown'_eq];exact wpS_modify h
theorem ZkM(o:Swo lt){arr:Array Keyed}{lo k l:Nat}{pv:Keyed}(h:Up lt arr lo (lo+k))(hs:lo+k<arr.size)(hl:l<=k)(ep:arr[lo+k]?= some pv)(h1:∀i p,i<l->arr[lo+i]?= some p->Le lt p pv)(h2:∀i p,l<=i->i<k->arr[lo+i]?= some p->lt pv p=true) :
  Up lt (bubble arr (lo+k) (lo+k-(lo+l))) lo (lo+k+1):=fun x y u v a1 a2 a3 eu ev=>by
 rw[getElem?_bubble hs _ (by lia)] at eu ev;rw[show lo+k-(lo+k-(lo+l))=lo+l by lia] at eu ev;by_cases hy:y=lo+l
 ·rw[if_pos hy,ep] at ev;cases ev;rw[if_neg (by lia),if_neg (by lia)] at eu;exact h1 (x-lo) u (by lia) (by rw[show lo+(x-lo)=x by lia];exact eu)
 rw[if_neg hy] at ev;by_cases hx:x=lo+l
 ·rw[if_pos hx,ep] at eu;cases eu;rw[if_pos (by lia)] at ev;exact o.le_of (h2 (y-1-lo) v (by lia) (by lia) (by rw[show lo+(y-1-lo)=y-1 by lia];exact ev))
 rw[if_neg hx] at eu;by_cases hy2:lo+l<y/\y<=lo+k
 ·rw[if_pos hy2] at ev;by_cases hx2:lo+l<x/\x<=lo+k
  ·rw[if_pos hx2] at eu;exact h (x-1) (y-1) u v (by lia) (by lia) (by lia) eu ev
  ·rw[if_neg hx2] at eu;exact h x (y-1) u v (by lia) (by lia) (by lia) eu ev
 ·rw[if_neg hy2] at ev;rw[if_neg (by lia)] at eu;exact h x y u v (by lia) (by lia) (by lia) eu ev
set_option maxHeartbeats 1000000 in
theorem Zfh{lo n ok:Nat}{Q:Bool->SortSt->Prop}(o:Swo lt)(hc:ZgV prog w A s κ Ok lt)(hk:kindOf st= κ)(ho:∀p∈(arrOf st).toList,Ok p)(hn:lo+n<=(arrOf st).size)(hok:ok<=n)(hn1:1<=n)(hu:Up lt (arrOf st) lo (lo+ok))(h:∀st',Pl lo (lo+n) st st'->Up lt (arrOf st') lo (lo+n)->Q true st'):wpS (model prog w) A E s (binarySort' lo n ok) Q st:=by
 have hu0:Up lt (arrOf st) lo (lo+max ok 1):=by
  by_cases h0:ok=0
  ·rw[h0];exact Zjb
  ·rw[show max ok 1=ok by lia];exact hu
 refine wpS_bind (wpS_mono (wpS_forRange (I:=fun x c st'=>c=(none,())/\Pl lo (lo+n) st st'/\Up lt (arrOf st') lo (lo+x)) (Q:=fun c st'=>c=(none,())/\Pl lo (lo+n) st st'/\Up lt (arrOf st') lo (lo+n)) ?_ ?_ ⟨rfl,Pl.refl _ _ _,hu0⟩) ?_)
 ·rintro k c st1 hk1 hkn ⟨rfl,pl,u1⟩
  try dsimp only
  have hsz:=pl.pm.size;obtain⟨pv,epv⟩:∃pv,(arrOf st1)[lo+k]?= some pv:=⟨_,getElem?_pos _ (lo+k) (by lia)⟩;refine wpS_bind (wpS_mono (wpS_forRange (I:=fun y c st'=>st'=st1/\∃l r,c=(none,l,r)/\l<=r/\r<=k/\(∀i p,i<l->(arrOf st1)[lo+i]?= some p->Le lt p pv)/\(∀i p,r<=i->i<k->(arrOf st1)[lo+i]?= some p->lt pv p=true)/\r-l+y<=k)
   (Q:=fun c st'=>st'=st1/\∃l r,c=(none,l,r)/\l=r/\r<=k/\(∀i p,i<l->(arrOf st1)[lo+i]?= some p->Le lt p pv)/\(∀i p,r<=i->i<k->(arrOf st1)[lo+i]?= some p->lt pv p=true)) ?_ ?_ ⟨rfl,0,k,rfl,by lia,by lia,fun i p hi=>by lia,fun i p h1 h2=>by lia,by lia⟩) ?_)
  ·rintro y c st2 _ _ ⟨rfl,l,r,rfl,h1,h2,h3,h4,h5⟩
   try dsimp only
   by_cases hlr:l>=r
   ·rw[if_pos hlr];exact wpS_pure ⟨rfl,l,r,rfl,by lia,h2,h3,h4⟩
   rw[if_neg hlr];refine wpS_bind (ZaE hc (pl.pm.kind.trans hk) (pl.pm.ok ho) (by lia) (by lia) fun p q e1 e2=>?_);rw[epv] at e1;cases e1;cases hb:lt pv q with
   | true =>
    refine wpS_pure ⟨rfl,_,_,rfl,by lia,by lia,h3,fun i p hi1 hi2 ei=>?_,by lia⟩;by_cases e:i=(l+r) / 2
    ·rw[e,e2] at ei;cases ei;exact hb
    ·exact o.lt_le hb (u1 _ _ q p (by lia) (show lo+(l+r) / 2<lo+i by lia) (by lia) e2 ei)
   | false =>
    refine wpS_pure ⟨rfl,_,_,rfl,by lia,by lia,fun i p hi1 ei=>?_,h4,by lia⟩;by_cases e:i=(l+r) / 2
    ·rw[e,e2] at ei;cases ei;exact hb
    ·exact o.le_trans (u1 _ _ p q (by lia) (show lo+i<lo+(l+r) / 2 by lia) (by lia) ei e2) hb
  ·rintro c st2 ⟨rfl,l,r,rfl,h1,h2,h3,h4,h5⟩;exact⟨rfl,l,r,rfl,by lia,h2,h3,h4⟩
  ·rintro c st2 ⟨rfl,l,r,rfl,rfl,h2,h3,h4⟩
   try dsimp only
   refine wpS_bind (Zhm ?_);exact wpS_pure ⟨rfl,pl.trans (Pl.bubble st2 (by lia) (by lia) (by lia) (by lia)),ZkM o u1 (by lia) h2 epv h3 h4⟩
 ·rintro c st1 ⟨rfl,pl,u1⟩;rw[show max (max ok 1) n=n by lia] at u1;exact⟨rfl,pl,u1⟩
 ·rintro c st1 ⟨rfl,pl,u1⟩;exact wpS_pure (h st1 pl u1)
set_option maxHeartbeats 4000000 in
theorem ZgB{lo nrem:Nat}{Q:Option Nat->SortSt->Prop}(o:Swo lt)(hc:ZgV prog w A s κ Ok lt)(hk:kindOf st= κ)(ho:∀p∈(arrOf st).toList,Ok p)(h1:1<=nrem)(hn:lo+nrem<=(arrOf st).size)(h:∀n st',1<=n->n<=nrem->Pl lo (lo+nrem) st st'->Up lt (arrOf st') lo (lo+n)->Q (some n) st'):wpS (model prog w) A E s (countRun' lo nrem) Q st:=by
 refine wpS_bind (wpS_mono (wpS_forRange (I:=fun x c st'=>st'=st/\∃n,c=(none,n)/\n=x/\Up lt (arrOf st) lo (lo+n)) (Q:=fun c st'=>st'=st/\∃n,c=(none,n)/\1<=n/\n<=nrem/\Up lt (arrOf st) lo (lo+n)/\(n=nrem\/∀p q,(arrOf st)[lo+n]?= some p->(arrOf st)[lo+n-1]?= some q->lt p q=true)) ?_ ?_ ⟨rfl,1,rfl,rfl,Zjb⟩) ?_)
 ·rintro x c st1 hx1 hx ⟨rfl,n,rfl,rfl,u1⟩
  try dsimp only
  refine wpS_bind (ZaE hc hk ho (by lia) (by lia) fun p q e1 e2=>?_);cases hb:lt p q with
  | true=>exact wpS_pure ⟨rfl,n,rfl,by lia,by lia,u1,.inr fun p' q' f1 f2=>by rw[e1] at f1;rw[e2] at f2;cases f1;cases f2;exact hb⟩
  | false=>exact wpS_pure ⟨rfl,n+1,rfl,rfl,u1.ext (m:=lo+n) o (by lia) e2 e1 hb⟩
 ·rintro c st1 ⟨rfl,n,rfl,rfl,u1⟩;exact⟨rfl,_,rfl,by lia,by lia,u1,.inl (by lia)⟩
 ·rintro c st1 ⟨rfl,n,rfl,n1,n2,u1,hstop⟩
  try dsimp only
  by_cases e1:(n == nrem)=true
  ·rw[if_pos e1];exact wpS_pure (h n st1 n1 n2 (Pl.refl _ _ _) u1)
  rw[if_neg e1];have n3:n<nrem:=by
   have : ¬ n=nrem:=fun e=>e1 (by simp[e]);lia
  have hstop2:=hstop.resolve_left (by lia);obtain⟨pn,epn⟩:∃p,(arrOf st1)[lo+n]?= some p:=⟨_,getElem?_pos _ (lo+n) (by lia)⟩;obtain⟨pm,epm⟩:∃p,(arrOf st1)[lo+n-1]?= some p:=⟨_,getElem?_pos _ (lo+n-1) (by lia)⟩;have hless:=hstop2 pn pm epn epm;by_cases e2:n > 1
  ·rw[if_pos e2];refine wpS_bind (ZaE hc hk ho (by lia) (by lia) fun p q f1 f2=>?_);cases hb:lt p q with
   | true =>
    try dsimp only
    rw[if_pos rfl];exact wpS_pure (h n st1 n1 n2 (Pl.refl _ _ _) u1)
   | false =>
    try dsimp only
    rw[if_neg Bool.false_ne_true];refine wpS_bind (Za2 ?_);have p2:=Pl.mirror (lo:=lo) (hi:=lo+nrem) (i:=lo) (j:=lo+n) st1 (by lia) (by lia) (by lia);have d2:Dn lt (arrOf (setArr st1 (mirror (arrOf st1) lo (lo+n) ((lo+n-lo) / 2)))) lo (lo+n):=u1.mirror (by lia);have d3:Dn lt (arrOf (setArr st1 (mirror (arrOf st1) lo (lo+n) ((lo+n-lo) / 2)))) lo (lo+(n+1)):=by
     refine d2.ext (m:=lo+n) o (by lia) (p:=p) (q:=pn) ?_ ?_ ?_
     ·show(mirror (arrOf st1) lo (lo+n) ((lo+n-lo) / 2))[lo+n-1]?= some p;rw[getElem?_mirror_all (by lia),if_pos (by lia),show lo+(lo+n)-1-(lo+n-1)=lo by lia];exact f1
     ·show(mirror (arrOf st1) lo (lo+n) ((lo+n-lo) / 2))[lo+n]?= some pn;rw[getElem?_mirror_all (by lia),if_neg (by lia)];exact epn
     ·rw[epm] at f2;cases f2;exact o.le_trans (o.le_of hless) hb
    generalize setArr st1 (mirror (arrOf st1) lo (lo+n) ((lo+n-lo) / 2))=st2 at p2 d3;refine wpS_bind (wpS_lift (wpAny_rule ⟨rfl,?_⟩));refine wpS_bind (wpS_mono (wpS_forRange (I:=fun x c st'=>Pl lo (lo+nrem) st1 st'/\∃n q,c=(none,n,q)/\n=x/\1<=n/\q+1<=n/\Dn lt (arrOf st') lo (lo+n)/\Eqv lt (arrOf st') (lo+n-(q+1)) (lo+n)) (Q:=fun c st'=>Pl lo (lo+nrem) st1 st'/\∃n q,c=(none,n,q)/\1<=n/\n<=nrem/\q+1<=n/\Dn lt (arrOf st') lo (lo+n)/\Eqv lt (arrOf st') (lo+n-(q+1)) (lo+n)) ?_ ?_ ⟨p2,n+1,0,rfl,rfl,by lia,by lia,d3,fun x y u v a1 a2 a3 a4 eu ev=>by obtain rfl:x=y:=(by lia);rw[eu] at ev;cases ev;exact o.le_refl _⟩) ?_)
    ·rintro x c st3 hx1 hx ⟨p3,n,q,rfl,rfl,m1,m2,d3,q3⟩;have z3:=p3.pm.size
     try dsimp only
     refine wpS_bind (ZaE hc (p3.pm.kind.trans hk) (p3.pm.ok ho) (by lia) (by lia) fun p1 p0 e1 e0=>?_);cases hb:lt p1 p0 with
     | true =>
      try dsimp only
      rw[if_pos rfl];by_cases q0:q > 0
      ·rw[if_pos q0];refine wpS_bind (Za2 ?_);have p4:=Pl.mirror (lo:=lo) (hi:=lo+nrem) (i:=lo+n-(q+1)) (j:=lo+n) st3 (by lia) (by lia) (by lia);have d4:=d3.turn q3 (by lia) (by lia);refine wpS_pure ⟨p3.trans p4,n+1,0,rfl,rfl,by lia,by lia,?_,fun x y u v a1 a2 a3 a4 eu ev=>by obtain rfl:x=y:=(by lia);rw[eu] at ev;cases ev;exact o.le_refl _⟩;obtain⟨p5,e5⟩:∃p5,(arrOf (setArr st3 (mirror (arrOf st3) (lo+n-(q+1)) (lo+n) ((lo+n-(lo+n-(q+1))) / 2))))[lo+n-1]?= some p5:=⟨_,getElem?_pos _ (lo+n-1) (by show _<(mirror _ _ _ _).size;rw[mirror_size];lia)⟩;refine d4.ext (m:=lo+n) o (by lia) e5 (q:=p1) ?_ ?_
       ·show(mirror (arrOf st3) (lo+n-(q+1)) (lo+n) ((lo+n-(lo+n-(q+1))) / 2))[lo+n]?= some p1;rw[getElem?_mirror_all (by lia),if_neg (by lia)];exact e1
       ·have e6:(mirror (arrOf st3) (lo+n-(q+1)) (lo+n) ((lo+n-(lo+n-(q+1))) / 2))[lo+n-1]?= some p5:=e5;rw[getElem?_mirror_all (by lia),if_pos (by lia)] at e6;exact o.le_trans (o.le_of hb) (q3 _ _ p0 p5 (show lo+n-(q+1)<=lo+n-1 by lia) (by lia) (by lia) (by lia) e0 e6)
      ·rw[if_neg q0];exact wpS_pure ⟨p3,n+1,0,rfl,rfl,by lia,by lia,d3.ext (m:=lo+n) o (by lia) e0 e1 (o.le_of hb),fun x y u v a1 a2 a3 a4 eu ev=>by obtain rfl:x=y:=(by lia);rw[eu] at ev;cases ev;exact o.le_refl _⟩
     | false =>
      try dsimp only
      rw[if_neg Bool.false_ne_true];refine wpS_bind (ZaE hc (p3.pm.kind.trans hk) (p3.pm.ok ho) (by lia) (by lia) fun p0' p1' e0' e1'=>?_);rw[e0] at e0';rw[e1] at e1';cases e0';cases e1';cases hb2:lt p0 p1 with
      | true=>exact wpS_pure ⟨p3,n,q,rfl,m1,by lia,m2,d3,q3⟩
      | false =>
       refine wpS_pure ⟨p3,n+1,q+1,rfl,rfl,by lia,by lia,d3.ext (m:=lo+n) o (by lia) e0 e1 hb2,fun x y u v a1 a2 a3 a4 eu ev=>?_⟩;have one:∀x u,lo+(n+1)-(q+1+1)<=x->x<lo+(n+1)->(arrOf st3)[x]?= some u->Le lt u p0/\Le lt p0 u:=fun x u a1 a2 eu=>by
        by_cases hx:x=lo+n
        ·rw[hx,e1] at eu;cases eu;exact⟨hb2,hb⟩
        ·exact⟨q3 x (lo+n-1) u p0 (by lia) (by lia) (by lia) (by lia) eu e0,q3 (lo+n-1) x p0 u (by lia) (by lia) (by lia) (by lia) e0 eu⟩
       exact o.le_trans (one x u a1 a2 eu).1 (one y v a3 a4 ev).2
    ·rintro c st3 ⟨p3,n',q,rfl,rfl,m1,m2,d3,q3⟩;exact⟨p3,_,q,rfl,m1,by lia,m2,d3,q3⟩
    ·rintro c st3 ⟨p3,n,q,rfl,m1,mn,m2,d3,q3⟩;have z3:=p3.pm.size
     try dsimp only
     by_cases q0:q > 0
     ·rw[if_pos q0];refine wpS_bind (Za2 ?_);have p4:=Pl.mirror (lo:=lo) (hi:=lo+nrem) (i:=lo+n-(q+1)) (j:=lo+n) st3 (by lia) (by lia) (by lia);have d4:=d3.turn q3 (by lia) (by lia);have z4:=p4.pm.size;generalize hst4:setArr st3 (mirror (arrOf st3) (lo+n-(q+1)) (lo+n) ((lo+n-(lo+n-(q+1))) / 2))=st4 at p4 z4;have d5:Dn lt (arrOf st4) lo (lo+n):=by rw[<- hst4];exact d4
      refine wpS_bind (Za2 ?_);have p6:=(p3.trans p4).trans (Pl.mirror (lo:=lo) (hi:=lo+nrem) (i:=lo) (j:=lo+n) st4 (by lia) (by lia) (by lia));have u6:Up lt (arrOf (setArr st4 (mirror (arrOf st4) lo (lo+n) ((lo+n-lo) / 2)))) lo (lo+n):=d5.mirror (by lia);have z6:=p6.pm.size;generalize setArr st4 (mirror (arrOf st4) lo (lo+n) ((lo+n-lo) / 2))=st5 at p6 u6 z6;refine wpS_bind (wpS_mono (wpS_forRange (I:=fun x c st'=>st'=st5/\∃k,c=(none,k)/\k=x/\Up lt (arrOf st5) lo (lo+k)) (Q:=fun c st'=>st'=st5/\∃k,c=(none,k)/\n<=k/\k<=nrem/\Up lt (arrOf st5) lo (lo+k)) ?_ ?_ ⟨rfl,n,rfl,rfl,u6⟩) ?_)
      ·rintro x c st7 hx1 hx2 ⟨rfl,k,rfl,rfl,u7⟩
       try dsimp only
       refine wpS_bind (ZaE hc (p6.pm.kind.trans hk) (p6.pm.ok ho) (by lia) (by lia) fun p q e1 e2=>?_);cases hb:lt p q with
       | true=>exact wpS_pure ⟨rfl,k,rfl,by lia,by lia,u7⟩
       | false=>exact wpS_pure ⟨rfl,k+1,rfl,rfl,u7.ext (m:=lo+k) o (by lia) e2 e1 hb⟩
      ·rintro c st7 ⟨rfl,k,rfl,rfl,u7⟩;exact⟨rfl,max n nrem,rfl,by lia,by lia,u7⟩
      ·rintro c st7 ⟨rfl,k,rfl,k1,k2,u7⟩;exact wpS_pure (h k _ (by lia) k2 p6 u7)
     ·rw[if_neg q0];refine wpS_bind (Za2 ?_);have p6:=p3.trans (Pl.mirror (lo:=lo) (hi:=lo+nrem) (i:=lo) (j:=lo+n) st3 (by lia) (by lia) (by lia));have u6:Up lt (arrOf (setArr st3 (mirror (arrOf st3) lo (lo+n) ((lo+n-lo) / 2)))) lo (lo+n):=d3.mirror (by lia);have z6:=p6.pm.size;generalize setArr st3 (mirror (arrOf st3) lo (lo+n) ((lo+n-lo) / 2))=st5 at p6 u6 z6;refine wpS_bind (wpS_mono (wpS_forRange (I:=fun x c st'=>st'=st5/\∃k,c=(none,k)/\k=x/\Up lt (arrOf st5) lo (lo+k)) (Q:=fun c st'=>st'=st5/\∃k,c=(none,k)/\n<=k/\k<=nrem/\Up lt (arrOf st5) lo (lo+k)) ?_ ?_ ⟨rfl,n,rfl,rfl,u6⟩) ?_)
      ·rintro x c st7 hx1 hx2 ⟨rfl,k,rfl,rfl,u7⟩
       try dsimp only
       refine wpS_bind (ZaE hc (p6.pm.kind.trans hk) (p6.pm.ok ho) (by lia) (by lia) fun p q e1 e2=>?_);cases hb:lt p q with
       | true=>exact wpS_pure ⟨rfl,k,rfl,by lia,by lia,u7⟩
       | false=>exact wpS_pure ⟨rfl,k+1,rfl,rfl,u7.ext (m:=lo+k) o (by lia) e2 e1 hb⟩
      ·rintro c st7 ⟨rfl,k,rfl,rfl,u7⟩;exact⟨rfl,max n nrem,rfl,by lia,by lia,u7⟩
      ·rintro c st7 ⟨rfl,k,rfl,k1,k2,u7⟩;exact wpS_pure (h k _ (by lia) k2 p6 u7)
  ·rw[if_neg e2];have p2:=Pl.refl lo (lo+nrem) st1;have d3:Dn lt (arrOf st1) lo (lo+(n+1)):=by
    obtain rfl:n=1:=by lia
    exact ZkJ.ext (m:=lo+1) o (by lia) epm epn (o.le_of hless)
   refine wpS_bind (wpS_lift (wpAny_rule ⟨rfl,?_⟩));refine wpS_bind (wpS_mono (wpS_forRange (I:=fun x c st'=>Pl lo (lo+nrem) st1 st'/\∃n q,c=(none,n,q)/\n=x/\1<=n/\q+1<=n/\Dn lt (arrOf st') lo (lo+n)/\Eqv lt (arrOf st') (lo+n-(q+1)) (lo+n)) (Q:=fun c st'=>Pl lo (lo+nrem) st1 st'/\∃n q,c=(none,n,q)/\1<=n/\n<=nrem/\q+1<=n/\Dn lt (arrOf st') lo (lo+n)/\Eqv lt (arrOf st') (lo+n-(q+1)) (lo+n)) ?_ ?_ ⟨p2,n+1,0,rfl,rfl,by lia,by lia,d3,fun x y u v a1 a2 a3 a4 eu ev=>by obtain rfl:x=y:=(by lia);rw[eu] at ev;cases ev;exact o.le_refl _⟩) ?_)
   ·rintro x c st3 hx1 hx ⟨p3,n,q,rfl,rfl,m1,m2,d3,q3⟩;have z3:=p3.pm.size
    try dsimp only
    refine wpS_bind (ZaE hc (p3.pm.kind.trans hk) (p3.pm.ok ho) (by lia) (by lia) fun p1 p0 e1 e0=>?_);cases hb:lt p1 p0 with
    | true =>
     try dsimp only
     rw[if_pos rfl];by_cases q0:q > 0
     ·rw[if_pos q0];refine wpS_bind (Za2 ?_);have p4:=Pl.mirror (lo:=lo) (hi:=lo+nrem) (i:=lo+n-(q+1)) (j:=lo+n) st3 (by lia) (by lia) (by lia);have d4:=d3.turn q3 (by lia) (by lia);refine wpS_pure ⟨p3.trans p4,n+1,0,rfl,rfl,by lia,by lia,?_,fun x y u v a1 a2 a3 a4 eu ev=>by obtain rfl:x=y:=(by lia);rw[eu] at ev;cases ev;exact o.le_refl _⟩;obtain⟨p5,e5⟩:∃p5,(arrOf (setArr st3 (mirror (arrOf st3) (lo+n-(q+1)) (lo+n) ((lo+n-(lo+n-(q+1))) / 2))))[lo+n-1]?= some p5:=⟨_,getElem?_pos _ (lo+n-1) (by show _<(mirror _ _ _ _).size;rw[mirror_size];lia)⟩;refine d4.ext (m:=lo+n) o (by lia) e5 (q:=p1) ?_ ?_
      ·show(mirror (arrOf st3) (lo+n-(q+1)) (lo+n) ((lo+n-(lo+n-(q+1))) / 2))[lo+n]?= some p1;rw[getElem?_mirror_all (by lia),if_neg (by lia)];exact e1
      ·have e6:(mirror (arrOf st3) (lo+n-(q+1)) (lo+n) ((lo+n-(lo+n-(q+1))) / 2))[lo+n-1]?= some p5:=e5;rw[getElem?_mirror_all (by lia),if_pos (by lia)] at e6;exact o.le_trans (o.le_of hb) (q3 _ _ p0 p5 (show lo+n-(q+1)<=lo+n-1 by lia) (by lia) (by lia) (by lia) e0 e6)
     ·rw[if_neg q0];exact wpS_pure ⟨p3,n+1,0,rfl,rfl,by lia,by lia,d3.ext (m:=lo+n) o (by lia) e0 e1 (o.le_of hb),fun x y u v a1 a2 a3 a4 eu ev=>by obtain rfl:x=y:=(by lia);rw[eu] at ev;cases ev;exact o.le_refl _⟩
    | false =>
     try dsimp only
     rw[if_neg Bool.false_ne_true];refine wpS_bind (ZaE hc (p3.pm.kind.trans hk) (p3.pm.ok ho) (by lia) (by lia) fun p0' p1' e0' e1'=>?_);rw[e0] at e0';rw[e1] at e1';cases e0';cases e1';cases hb2:lt p0 p1 with
     | true=>exact wpS_pure ⟨p3,n,q,rfl,m1,by lia,m2,d3,q3⟩
     | false =>
      refine wpS_pure ⟨p3,n+1,q+1,rfl,rfl,by lia,by lia,d3.ext (m:=lo+n) o (by lia) e0 e1 hb2,fun x y u v a1 a2 a3 a4 eu ev=>?_⟩;have one:∀x u,lo+(n+1)-(q+1+1)<=x->x<lo+(n+1)->(arrOf st3)[x]?= some u->Le lt u p0/\Le lt p0 u:=fun x u a1 a2 eu=>by
       by_cases hx:x=lo+n
       ·rw[hx,e1] at eu;cases eu;exact⟨hb2,hb⟩
       ·exact⟨q3 x (lo+n-1) u p0 (by lia) (by lia) (by lia) (by lia) eu e0,q3 (lo+n-1) x p0 u (by lia) (by lia) (by lia) (by lia) e0 eu⟩
      exact o.le_trans (one x u a1 a2 eu).1 (one y v a3 a4 ev).2
   ·rintro c st3 ⟨p3,n',q,rfl,rfl,m1,m2,d3,q3⟩;exact⟨p3,_,q,rfl,m1,by lia,m2,d3,q3⟩
   ·rintro c st3 ⟨p3,n,q,rfl,m1,mn,m2,d3,q3⟩;have z3:=p3.pm.size
    try dsimp only
    by_cases q0:q > 0
    ·rw[if_pos q0];refine wpS_bind (Za2 ?_);have p4:=Pl.mirror (lo:=lo) (hi:=lo+nrem) (i:=lo+n-(q+1)) (j:=lo+n) st3 (by lia) (by lia) (by lia);have d4:=d3.turn q3 (by lia) (by lia);have z4:=p4.pm.size;generalize hst4:setArr st3 (mirror (arrOf st3) (lo+n-(q+1)) (lo+n) ((lo+n-(lo+n-(q+1))) / 2))=st4 at p4 z4;have d5:Dn lt (arrOf st4) lo (lo+n):=by rw[<- hst4];exact d4
     refine wpS_bind (Za2 ?_);have p6:=(p3.trans p4).trans (Pl.mirror (lo:=lo) (hi:=lo+nrem) (i:=lo) (j:=lo+n) st4 (by lia) (by lia) (by lia));have u6:Up lt (arrOf (setArr st4 (mirror (arrOf st4) lo (lo+n) ((lo+n-lo) / 2)))) lo (lo+n):=d5.mirror (by lia);have z6:=p6.pm.size;generalize setArr st4 (mirror (arrOf st4) lo (lo+n) ((lo+n-lo) / 2))=st5 at p6 u6 z6;refine wpS_bind (wpS_mono (wpS_forRange (I:=fun x c st'=>st'=st5/\∃k,c=(none,k)/\k=x/\Up lt (arrOf st5) lo (lo+k)) (Q:=fun c st'=>st'=st5/\∃k,c=(none,k)/\n<=k/\k<=nrem/\Up lt (arrOf st5) lo (lo+k)) ?_ ?_ ⟨rfl,n,rfl,rfl,u6⟩) ?_)
     ·rintro x c st7 hx1 hx2 ⟨rfl,k,rfl,rfl,u7⟩
      try dsimp only
      refine wpS_bind (ZaE hc (p6.pm.kind.trans hk) (p6.pm.ok ho) (by lia) (by lia) fun p q e1 e2=>?_);cases hb:lt p q with
      | true=>exact wpS_pure ⟨rfl,k,rfl,by lia,by lia,u7⟩
      | false=>exact wpS_pure ⟨rfl,k+1,rfl,rfl,u7.ext (m:=lo+k) o (by lia) e2 e1 hb⟩
     ·rintro c st7 ⟨rfl,k,rfl,rfl,u7⟩;exact⟨rfl,max n nrem,rfl,by lia,by lia,u7⟩
     ·rintro c st7 ⟨rfl,k,rfl,k1,k2,u7⟩;exact wpS_pure (h k _ (by lia) k2 p6 u7)
    ·rw[if_neg q0];refine wpS_bind (Za2 ?_);have p6:=p3.trans (Pl.mirror (lo:=lo) (hi:=lo+nrem) (i:=lo) (j:=lo+n) st3 (by lia) (by lia) (by lia));have u6:Up lt (arrOf (setArr st3 (mirror (arrOf st3) lo (lo+n) ((lo+n-lo) / 2)))) lo (lo+n):=d3.mirror (by lia);have z6:=p6.pm.size;generalize setArr st3 (mirror (arrOf st3) lo (lo+n) ((lo+n-lo) / 2))=st5 at p6 u6 z6;refine wpS_bind (wpS_mono (wpS_forRange (I:=fun x c st'=>st'=st5/\∃k,c=(none,k)/\k=x/\Up lt (arrOf st5) lo (lo+k)) (Q:=fun c st'=>st'=st5/\∃k,c=(none,k)/\n<=k/\k<=nrem/\Up lt (arrOf st5) lo (lo+k)) ?_ ?_ ⟨rfl,n,rfl,rfl,u6⟩) ?_)
     ·rintro x c st7 hx1 hx2 ⟨rfl,k,rfl,rfl,u7⟩
      try dsimp only
      refine wpS_bind (ZaE hc (p6.pm.kind.trans hk) (p6.pm.ok ho) (by lia) (by lia) fun p q e1 e2=>?_);cases hb:lt p q with
      | true=>exact wpS_pure ⟨rfl,k,rfl,by lia,by lia,u7⟩
      | false=>exact wpS_pure ⟨rfl,k+1,rfl,rfl,u7.ext (m:=lo+k) o (by lia) e2 e1 hb⟩
     ·rintro c st7 ⟨rfl,k,rfl,rfl,u7⟩;exact⟨rfl,max n nrem,rfl,by lia,by lia,u7⟩
     ·rintro c st7 ⟨rfl,k,rfl,k1,k2,u7⟩;exact wpS_pure (h k _ (by lia) k2 p6 u7)
end
theorem ZhF:∀{l:List (Nat×Nat×Nat)}{lo hi:Nat},Cov l lo hi->∀z∈l,lo<=z.1
 | [],_,_,_,z,hz=>(nomatch hz)
 | x::r,lo,hi,⟨a,b,c⟩,z,hz=>by
  rcases List.mem_cons.mp hz with rfl|hz
  ·lia
  ·have:=ZhF c z hz;lia
theorem Zi8:∀{l:List (Nat×Nat×Nat)}{lo hi:Nat},Cov l lo hi->∀z∈l,z.1+z.2.1<=hi
 | [],_,_,_,z,hz=>(nomatch hz)
 | x::r,lo,hi,⟨a,b,c⟩,z,hz=>by
  rcases List.mem_cons.mp hz with rfl|hz
  ·have:=c.le;lia
  ·exact Zi8 c z hz
theorem Zd0:∀{l:List (Nat×Nat×Nat)}{i lo hi sa na p sb nb q:Nat},Cov l lo hi->l[i]?= some (sa,na,p)->l[i+1]?= some (sb,nb,q) ->
  ∀z∈(l.set i (sa,na+nb,p)).eraseIdx (i+1),z=(sa,na+nb,p)\/z∈l/\(z.1+z.2.1<=sa\/sb+nb<=z.1)
 | x::y::r,0,lo,hi,sa,na,p,sb,nb,q,⟨a,b,c1,c2,c3⟩,h1,h2,z,hz=>by
  have e1:x=(sa,na,p):=by simpa using h1
  have e2:y=(sb,nb,q):=by simpa using h2
  subst e1;subst e2;have hz':z∈(sa,na+nb,p)::r:=hz;rcases List.mem_cons.mp hz' with hz|hz
  ·exact .inl hz
  ·refine .inr ⟨List.mem_cons_of_mem _ (List.mem_cons_of_mem _ hz),.inr ?_⟩;have:=ZhF c3 z hz;have c1':sb=lo+na:=c1;have this':lo+na+nb<=z.1:=this;lia
 | x::r,i+1,lo,hi,sa,na,p,sb,nb,q,⟨a,b,c⟩,h1,h2,z,hz=>by
  have h1':r[i]?= some (sa,na,p):=by simpa using h1
  have hz':z∈x::((r.set i (sa,na+nb,p)).eraseIdx (i+1)):=hz;rcases List.mem_cons.mp hz' with rfl|hz
  ·refine .inr ⟨List.mem_cons_self ..,.inl ?_⟩;have:=ZhF c _ (List.mem_of_getElem? h1');have this':lo+z.2.1<=sa:=this;lia
  ·rcases Zd0 (l:=r) (i:=i) c h1' (by simpa using h2) z hz with h|⟨h,h'⟩
   ·exact .inl h
   ·exact .inr ⟨List.mem_cons_of_mem _ h,h'⟩
 | [x],0,_,_,_,_,_,_,_,_,_,_,h2,_,_=>by simp at h2
 | [],_,_,_,_,_,_,_,_,_,_,h1,_,_,_=>by simp at h1
theorem Zgw{L r:List Keyed}{m:Nat}(h:m+r.length<=L.length)(x:Nat):(L.take m++r++L.drop (m+r.length))[x]?= if x<m then L[x]? else if x<m+r.length then r[x-m]? else L[x]? := by
 have hm:(L.take m).length=m:=by rw[List.length_take];lia
 by_cases h1:x<m
 ·rw[if_pos h1,List.append_assoc,List.getElem?_append_left (by lia),List.getElem?_take_of_lt h1]
 rw[if_neg h1];by_cases h2:x<m+r.length
 ·rw[if_pos h2,List.getElem?_append_left (by rw[List.length_append];lia),List.getElem?_append_right (by lia),hm]
 ·rw[if_neg h2,List.getElem?_append_right (by rw[List.length_append];lia),List.getElem?_drop,List.length_append,hm]
  congr 1
  lia
section
variable{lt:Keyed->Keyed->Bool}{κ : SortKind}
structure SBL(lt:Keyed->Keyed->Bool)(a₀ : Array Keyed)(κ : SortKind)(hi:Nat)(st:SortSt):Prop where
 sb:SB a₀ κ hi st
 ups:∀z∈(pendingOf st).toList,Up lt (arrOf st) z.1 (z.1+z.2.1)
theorem Up.same{arr arr':Array Keyed}{i j:Nat}(h:Up lt arr i j)(e:∀x,i<=x->x<j->arr'[x]?= arr[x]?):Up lt arr' i j:=fun x y p q h1 h2 h3 ep eq=>by
 rw[e x (by lia) (by lia)] at ep;rw[e y (by lia) (by lia)] at eq;exact h x y p q h1 h2 h3 ep eq
theorem SBL.pl{a₀ : Array Keyed}{hi hi':Nat}{st st':SortSt}(x:SBL lt a₀ κ hi st)(p:Pl hi hi' st st'):SBL lt a₀ κ hi st':=⟨x.sb.pm p.pm,fun z hz=>by
 rw[p.pm.pend] at hz;have h1:=Zi8 x.sb.cov z hz;exact(x.ups z hz).same fun i _ h=>p.out i (.inl (by lia))⟩
end
section
variable{prog:Program}{w:World}{A:Around}{E:Value->Shared->Prop}{s:Shared}{κ : SortKind}{Ok:Keyed->Prop}{st:SortSt}{lt:Keyed->Keyed->Bool}
set_option maxHeartbeats 4000000 in
theorem Zbz{a₀ : Array Keyed}{hi i:Nat}{Q:Bool->SortSt->Prop}(o:Swo lt)(hc:ZgV prog w A s κ Ok lt)(h0:∀p∈a₀.toList,Ok p)(hL:SBL lt a₀ κ hi st)(hh:hi<=a₀.size)(hi1:i+1<(pendingOf st).size)
  (h:∀st',SBL lt a₀ κ hi st'->(∀x,hi<=x->(arrOf st')[x]?= (arrOf st)[x]?)->(pendingOf st').size+1=(pendingOf st).size->Q true st'):wpS (model prog w) A E s (mergeAt' i) Q st:=by
 have hB:=hL.sb;refine wpS_bind (wpS_get ?_);obtain⟨⟨sa,na,p⟩,e1⟩:∃x,(pendingOf st)[i]?= some x:=⟨_,getElem?_pos _ i (by lia)⟩;obtain⟨⟨sb,nb,q⟩,e2⟩:∃x,(pendingOf st)[i+1]?= some x:=⟨_,getElem?_pos _ (i+1) hi1⟩;obtain⟨k1,k2,k3,k4,k5⟩:=hB.cov.at (i:=i) (by rw[<- e1];simp) (by rw[<- e2];simp);have e3:((pendingOf st)[i]?,(pendingOf st)[i+1]?)=(some (sa,na,p),some (sb,nb,q)):=by rw[e1,e2]
 have hsz:=hB.size;have l1:(pendingOf st).toList[i]?= some (sa,na,p):=by rw[<- e1];simp
 have l2:(pendingOf st).toList[i+1]?= some (sb,nb,q):=by rw[<- e2];simp
 have ua:Up lt (arrOf st) sa (sa+na):=hL.ups _ (List.mem_of_getElem? l1);have ub:Up lt (arrOf st) sb (sb+nb):=hL.ups _ (List.mem_of_getElem? l2);have oth:=Zd0 hB.cov l1 l2;show wpS _ _ _ _ (match ((pendingOf st)[i]?,(pendingOf st)[i+1]?) with|(some (sa,na,power),some (sb,nb,_))=>_|_=>_) Q st
 rw[e1,e2];dsimp only;have hpl:(((pendingOf st).setIfInBounds i (sa,na+nb,p)).eraseIdxIfInBounds (i+1)).toList=((pendingOf st).toList.set i (sa,na+nb,p)).eraseIdx (i+1):=by
  simp
 have hps:((((pendingOf st).setIfInBounds i (sa,na+nb,p)).eraseIdxIfInBounds (i+1)).size+1=(pendingOf st).size):=by
  have:=congrArg List.length hpl;rw[Array.length_toList,List.length_eraseIdx,List.length_set,Array.length_toList,if_pos hi1] at this;lia
 have hB1:SB a₀ κ hi (SortSt.mk' (kindOf st) (arrOf st) (((pendingOf st).setIfInBounds i (sa,na+nb,p)).eraseIdxIfInBounds (i+1)) (gallopOf st) (failedOf st)):=⟨hB.arr,hB.kind,hB.fail,by
  show Cov (((pendingOf st).setIfInBounds i (sa,na+nb,p)).eraseIdxIfInBounds (i+1)).toList 0 hi;rw[hpl];exact k5⟩
 have hok:=hB.ok h0;have fin:∀st':SortSt,SB a₀ κ hi st'->(pendingOf st').toList=((pendingOf st).toList.set i (sa,na+nb,p)).eraseIdx (i+1)->(∀x,x<sa\/sb+nb<=x->(arrOf st')[x]?= (arrOf st)[x]?)->Up lt (arrOf st') sa (sa+(na+nb))->SBL lt a₀ κ hi st':=fun st' hB' hp he hu=>⟨hB',fun z hz=>by
  rw[hp] at hz;rcases oth z hz with rfl|⟨hz,hd⟩
  ·exact hu
  ·exact(hL.ups z hz).same fun x h1 h2=>he x (by lia)⟩
 have exm:∀(arr:Array Keyed)(x y:Nat){p:Keyed},p∈(arr.extract x y).toList->p∈arr.toList:=fun arr x y p hp=>by
  rw[Array.toList_extract,List.extract_eq_drop_take] at hp;exact List.mem_of_mem_drop (List.mem_of_mem_take hp)
 refine wpS_bind (ZjR ?_);refine wpS_bind (ZX (arr:=arrOf st) (by lia) fun p1 m1 ep1=>?_);refine wpS_bind (ZaD (a:=arrOf st) o hc hB1.kind (hok p1 m1) hok (by lia) (by lia) ua fun k hk F1 F2=>?_);dsimp only;have low1:∀i u,i<k->(arrOf st)[sa+i]?= some u->Le lt u p1:=fun i u hi eu=>by
  have h3:=F1 i hi;unfold BV at h3;rw[eu] at h3;have h4:(!lt p1 u)=true:=h3;show lt p1 u=false
  simpa using h4
 have hig1:∀i u,k<=i->i<na->(arrOf st)[sa+i]?= some u->Le lt p1 u:=fun i u h1 h2 eu=>by
  have h3:=F2 i h1 h2;unfold BV at h3;rw[eu] at h3;have h4:(!lt p1 u)=false:=h3;exact o.le_of (by simpa using h4)
 have p1le:∀y v,sb<=y->y<sb+nb->(arrOf st)[y]?= some v->Le lt p1 v:=fun y v h1 h2 ev=>by
  by_cases e:y=sb
  ·rw[e,ep1] at ev;cases ev;exact o.le_refl _
  ·exact ub sb y p1 v (by lia) (by lia) h2 ep1 ev
 by_cases c1:(na-k == 0)=true
 ·rw[if_pos c1];have ek:k=na:=by
   have:=eq_of_beq c1;lia
  refine wpS_pure (h _ (fin _ hB1 hpl (fun _ _=>rfl) ?_) (fun _ _=>rfl) hps);intro x y u v a1 a2 a3 eu ev;have eu':(arrOf st)[x]?= some u:=eu;have ev':(arrOf st)[y]?= some v:=ev;by_cases hy:y<sb
  ·exact ua x y u v a1 a2 (by lia) eu' ev'
  by_cases hx:sb<=x
  ·exact ub x y u v hx a2 (by lia) eu' ev'
  exact o.le_trans (low1 (x-sa) u (by lia) (by rw[show sa+(x-sa)=x by lia];exact eu')) (p1le y v (by lia) (by lia) ev')
 rw[if_neg c1];have n1 : ¬ na-k=0:=fun e=>c1 (by simp[e]);refine wpS_bind (ZX (arr:=arrOf st) (by lia) fun p2 m2 ep2=>?_);refine wpS_bind (ZaD (a:=arrOf st) o hc hB1.kind (hok p2 m2) hok (by lia) (by lia) ub fun nb' hnb G1 G2=>?_);dsimp only;have ep2':(arrOf st)[sb-1]?= some p2:=by
  rw[<- ep2]
  congr 1
  lia
 have lep2:∀x u,sa<=x->x<sb->(arrOf st)[x]?= some u->Le lt u p2:=fun x u h1 h2 eu=>by
  by_cases e:x=sb-1
  ·rw[e,ep2'] at eu;cases eu;exact o.le_refl _
  ·exact ua x (sb-1) u p2 h1 (by lia) (by lia) eu ep2'
 have low2:∀i u,i<nb'->(arrOf st)[sb+i]?= some u->Le lt u p2:=fun i u hi eu=>by
  have h3:=G1 i hi;unfold BV at h3;rw[eu] at h3;exact o.le_of h3
 have hig2:∀i u,nb'<=i->i<nb->(arrOf st)[sb+i]?= some u->Le lt p2 u:=fun i u h1 h2 eu=>by
  have h3:=G2 i h1 h2;unfold BV at h3;rw[eu] at h3;exact h3
 by_cases c2:(nb' == 0)=true
 ·rw[if_pos c2];have ek:nb'=0:=eq_of_beq c2;refine wpS_pure (h _ (fin _ hB1 hpl (fun _ _=>rfl) ?_) (fun _ _=>rfl) hps);intro x y u v a1 a2 a3 eu ev;have eu':(arrOf st)[x]?= some u:=eu;have ev':(arrOf st)[y]?= some v:=ev;by_cases hy:y<sb
  ·exact ua x y u v a1 a2 (by lia) eu' ev'
  by_cases hx:sb<=x
  ·exact ub x y u v hx a2 (by lia) eu' ev'
  exact o.le_trans (lep2 x u a1 (by lia) eu') (hig2 (y-sb) v (by lia) (by lia) (by rw[show sb+(y-sb)=y by lia];exact ev'))
 rw[if_neg c2];have n2 : ¬ nb'=0:=fun e=>c2 (by simp[e]);have xs:((arrOf st).extract (sa+k) sb).size=na-k:=by
  rw[Array.size_extract];lia
 have ys:((arrOf st).extract sb (sb+nb')).size=nb':=by
  rw[Array.size_extract];lia
 have SX:So lt ((arrOf st).extract (sa+k) sb).toList:=List.pairwise_iff_getElem.mpr fun x y hx hy hxy=>by
  rw[Array.length_toList] at hx hy;have ex:((arrOf st).extract (sa+k) sb)[x]?= (arrOf st)[sa+k+x]? := by rw[Array.getElem?_extract,if_pos (by lia)]
  have ey:((arrOf st).extract (sa+k) sb)[y]?= (arrOf st)[sa+k+y]? := by rw[Array.getElem?_extract,if_pos (by lia)]
  rw[<- Array.getElem?_toList,List.getElem?_eq_getElem (by rw[Array.length_toList];exact hx)] at ex;rw[<- Array.getElem?_toList,List.getElem?_eq_getElem (by rw[Array.length_toList];exact hy)] at ey;exact ua _ _ _ _ (by lia) (show sa+k+x<sa+k+y by lia) (by lia) ex.symm ey.symm
 have SY:So lt ((arrOf st).extract sb (sb+nb')).toList:=List.pairwise_iff_getElem.mpr fun x y hx hy hxy=>by
  rw[Array.length_toList] at hx hy;have ex:((arrOf st).extract sb (sb+nb'))[x]?= (arrOf st)[sb+x]? := by rw[Array.getElem?_extract,if_pos (by lia)]
  have ey:((arrOf st).extract sb (sb+nb'))[y]?= (arrOf st)[sb+y]? := by rw[Array.getElem?_extract,if_pos (by lia)]
  rw[<- Array.getElem?_toList,List.getElem?_eq_getElem (by rw[Array.length_toList];exact hx)] at ex;rw[<- Array.getElem?_toList,List.getElem?_eq_getElem (by rw[Array.length_toList];exact hy)] at ey;exact ub _ _ _ _ (by lia) (show sb+x<sb+y by lia) (by lia) ex.symm ey.symm
 have HB0:∀p,((arrOf st).extract sb (sb+nb'))[0]?= some p->∀y∈((arrOf st).extract (sa+k) sb).toList,Le lt p y:=fun p ep y hy=>by
  rw[Array.getElem?_extract,if_pos (by lia),Nat.add_zero,ep1] at ep;cases ep;obtain⟨m,h1,h2,e⟩:=ZbA hy;exact hig1 (m-sa) y (by lia) (by lia) (by rw[show sa+(m-sa)=m by lia];exact e)
 have HLA:∀x∈((arrOf st).extract sb (sb+nb')).toList,∀q,((arrOf st).extract (sa+k) sb)[((arrOf st).extract (sa+k) sb).size-1]?= some q->Le lt x q:=fun x hx q eq=>by
  rw[xs,Array.getElem?_extract,if_pos (by lia),show sa+k+(na-k-1)=sb-1 by lia,ep2'] at eq;cases eq;obtain⟨m,h1,h2,e⟩:=ZbA hx;exact low2 (m-sb) x (by lia) (by rw[show sb+(m-sb)=m by lia];exact e)
 have whole:∀(r:Array Keyed)(arr':Array Keyed),Rs lt ((arrOf st).extract (sa+k) sb) ((arrOf st).extract sb (sb+nb')) r->r.toList.length=(na-k)+nb'->arr'.toList=(arrOf st).toList.take (sa+k)++r.toList++(arrOf st).toList.drop (sa+k+r.toList.length) ->
   (∀x,x<sa\/sb+nb<=x->arr'[x]?= (arrOf st)[x]?)/\Up lt arr' sa (sa+(na+nb)):=fun r arr' hr hrl ha=>by
  have get:∀x,arr'[x]?= if x<sa+k then(arrOf st)[x]? else if x<sa+k+r.toList.length then r.toList[x-(sa+k)]? else(arrOf st)[x]? := fun x=>by
   rw[<- Array.getElem?_toList,ha,Zgw (by have hll:(arrOf st).toList.length=(arrOf st).size:=Array.length_toList;lia),Array.getElem?_toList]
  have inr:∀u,u∈r.toList->(∃m,sa+k<=m/\m<sb/\(arrOf st)[m]?= some u)\/∃m,sb<=m/\m<sb+nb'/\(arrOf st)[m]?= some u:=fun u hu=>by
   rcases List.mem_append.mp (hr.perm.mem_iff.mp hu) with hu|hu
   ·exact .inl (ZbA hu)
   ·exact .inr (ZbA hu)
  refine⟨fun x hx=>?_,fun x y u v a1 a2 a3 eu ev=>?_⟩
  ·rw[get];by_cases h1:x<sa+k
   ·rw[if_pos h1]
   ·rw[if_neg h1,if_neg (by lia)]
  rw[get] at eu ev;by_cases hx1:x<sa+k
  ·rw[if_pos hx1] at eu;have hu1:=low1 (x-sa) u (by lia) (by rw[show sa+(x-sa)=x by lia];exact eu);by_cases hy1:y<sa+k
   ·rw[if_pos hy1] at ev;exact ua x y u v a1 a2 (by lia) eu ev
   rw[if_neg hy1] at ev;by_cases hy2:y<sa+k+r.toList.length
   ·rw[if_pos hy2] at ev;rcases inr v (List.mem_of_getElem? ev) with⟨m,b1,b2,e⟩|⟨m,b1,b2,e⟩
    ·exact ua x m u v a1 (by lia) (by lia) eu e
    ·exact o.le_trans hu1 (p1le m v b1 (by lia) e)
   ·rw[if_neg hy2] at ev;exact o.le_trans hu1 (p1le y v (by lia) (by lia) ev)
  rw[if_neg hx1] at eu;rw[if_neg (by lia)] at ev;by_cases hx2:x<sa+k+r.toList.length
  ·rw[if_pos hx2] at eu;by_cases hy2:y<sa+k+r.toList.length
   ·rw[if_pos hy2] at ev;obtain⟨hx3,rfl⟩:=List.getElem?_eq_some_iff.mp eu;obtain⟨hy3,rfl⟩:=List.getElem?_eq_some_iff.mp ev;exact(List.pairwise_iff_getElem.mp hr.sort) _ _ hx3 hy3 (by lia)
   ·rw[if_neg hy2] at ev;rcases inr u (List.mem_of_getElem? eu) with⟨m,b1,b2,e⟩|⟨m,b1,b2,e⟩
    ·exact o.le_trans (lep2 m u (by lia) b2 e) (hig2 (y-sb) v (by lia) (by lia) (by rw[show sb+(y-sb)=y by lia];exact ev))
    ·exact ub m y u v b1 (by lia) (by lia) e ev
  ·rw[if_neg hx2] at eu;rw[if_neg (by lia)] at ev;exact ub x y u v (by lia) a2 (by lia) eu ev
 by_cases c3:na-k<=nb'
 ·rw[if_pos c3];refine wpS_bind (ZeR (a:=(arrOf st).extract (sa+k) sb) (b:=(arrOf st).extract sb (sb+nb')) o hc hB1.kind (fun p hp=>hok p (exm _ _ _ hp)) (fun p hp=>hok p (exm _ _ _ hp)) (by rw[xs];lia) (by rw[ys];lia) SX SY HB0 HLA fun r st2 lk hr=>?_);refine wpS_bind (wpS_modify ?_);refine wpS_bind (wpS_get ?_);have hf:failedOf st2=none:=lk.fail.trans hB.fail;have hr2:r.toList.Perm (((arrOf st).toList.drop (sa+k)).take ((na-k)+nb')):=by
   refine hr.perm.trans (List.Perm.of_eq ?_);rw[Array.toList_extract,Array.toList_extract,Zi0 _ (by lia) (by lia)]
   congr 1
   lia
  have hrl:r.toList.length=(na-k)+nb':=by
   rw[hr2.length_eq,List.length_take,List.length_drop,Array.length_toList];lia
  show wpS _ _ _ _ (pure (failedOf st2).isNone) Q _;rw[hf];have hnew:(List.foldl (fun(a:Array Keyed)(x:Keyed×Nat)=>a.setIfInBounds (sa+k+x.2) x.1) (arrOf st2) r.toList.zipIdx).toList=(arrOf st).toList.take (sa+k)++r.toList++(arrOf st).toList.drop (sa+k+r.toList.length):=by
   rw[lk.arr,Zhp _ _ _ (by show sa+k+r.toList.length<=(arrOf st).size;lia)]
  obtain⟨w1,w2⟩:=whole r _ hr hrl hnew;refine wpS_pure (h _ (fin _ ⟨?_,lk.kind.trans hB.kind,hf,?_⟩ (by show(pendingOf st2).toList=_;rw[lk.pend];exact hpl) w1 w2) (fun x hx=>w1 x (.inr (by lia))) ?_)
  ·show(List.foldl (fun(a:Array Keyed)(x:Keyed×Nat)=>a.setIfInBounds (sa+k+x.2) x.1) (arrOf st2) r.toList.zipIdx).toList.Perm a₀.toList;rw[hnew];exact(Zf6 hr2 hrl).trans hB.arr
  ·show Cov (pendingOf st2).toList 0 hi;rw[lk.pend];exact hB1.cov
  ·show(pendingOf st2).size+1=_;rw[lk.pend];exact hps
 ·rw[if_neg c3];refine wpS_bind (ZeA (a:=(arrOf st).extract (sa+k) sb) (b:=(arrOf st).extract sb (sb+nb')) o hc hB1.kind (fun p hp=>hok p (exm _ _ _ hp)) (fun p hp=>hok p (exm _ _ _ hp)) (by rw[xs];lia) (by rw[ys];lia) SX SY HB0 HLA fun r st2 lk hr=>?_);refine wpS_bind (wpS_modify ?_);refine wpS_bind (wpS_get ?_);have hf:failedOf st2=none:=lk.fail.trans hB.fail;have hr2:r.toList.Perm (((arrOf st).toList.drop (sa+k)).take ((na-k)+nb')):=by
   refine hr.perm.trans (List.Perm.of_eq ?_);rw[Array.toList_extract,Array.toList_extract,Zi0 _ (by lia) (by lia)]
   congr 1
   lia
  have hrl:r.toList.length=(na-k)+nb':=by
   rw[hr2.length_eq,List.length_take,List.length_drop,Array.length_toList];lia
  show wpS _ _ _ _ (pure (failedOf st2).isNone) Q _;rw[hf];have hnew:(List.foldl (fun(a:Array Keyed)(x:Keyed×Nat)=>a.setIfInBounds (sa+k+x.2) x.1) (arrOf st2) r.toList.zipIdx).toList=(arrOf st).toList.take (sa+k)++r.toList++(arrOf st).toList.drop (sa+k+r.toList.length):=by
   rw[lk.arr,Zhp _ _ _ (by show sa+k+r.toList.length<=(arrOf st).size;lia)]
  obtain⟨w1,w2⟩:=whole r _ hr hrl hnew;refine wpS_pure (h _ (fin _ ⟨?_,lk.kind.trans hB.kind,hf,?_⟩ (by show(pendingOf st2).toList=_;rw[lk.pend];exact hpl) w1 w2) (fun x hx=>w1 x (.inr (by lia))) ?_)
  ·show(List.foldl (fun(a:Array Keyed)(x:Keyed×Nat)=>a.setIfInBounds (sa+k+x.2) x.1) (arrOf st2) r.toList.zipIdx).toList.Perm a₀.toList;rw[hnew];exact(Zf6 hr2 hrl).trans hB.arr
  ·show Cov (pendingOf st2).toList 0 hi;rw[lk.pend];exact hB1.cov
  ·show(pendingOf st2).size+1=_;rw[lk.pend];exact hps
end
section
variable{prog:Program}{w:World}{A:Around}{E:Value->Shared->Prop}{s:Shared}{κ : SortKind}{Ok:Keyed->Prop}{st:SortSt}{lt:Keyed->Keyed->Bool}
set_option maxHeartbeats 4000000 in
theorem Zhw{a₀ : Array Keyed}{Q:Unit->SortSt->Prop}(o:Swo lt)(hc:ZgV prog w A s κ Ok lt)(h0:∀p∈a₀.toList,Ok p)(hB:SBL lt a₀ κ 0 st)(h:∀st',(arrOf st').toList.Perm a₀.toList->So lt (arrOf st').toList->failedOf st'=none->Q () st'):wpS (model prog w) A E s sortRuns' Q st:=by
 refine wpS_bind (wpS_get ?_);have hsz:=hB.sb.size;show wpS _ _ _ _ (forIn [:(arrOf st).size] _ _ >>= _) Q st;rw[hsz];refine wpS_bind (wpS_mono (wpS_forRange (I:=fun x c st'=>∃lo,c=(none,lo)/\lo<=a₀.size/\SBL lt a₀ κ lo st'/\x<=lo) (Q:=fun c st'=>∃lo,c=(none,lo)/\lo=a₀.size/\SBL lt a₀ κ lo st') ?_ (fun c st' ⟨lo,z1,z2,z3,z4⟩=>⟨lo,z1,by lia,z3⟩) ⟨0,rfl,Nat.zero_le _,hB,Nat.le_refl _⟩) ?_)
 ·rintro x c st1 _ hx ⟨lo,rfl,hlo,hB1,hxl⟩
  try dsimp only
  by_cases c1:lo>=a₀.size
  ·rw[if_pos c1];exact wpS_pure ⟨lo,rfl,by lia,hB1⟩
  rw[if_neg c1];have hs1:=hB1.sb.size;refine wpS_bind (ZgB o hc hB1.sb.kind (hB1.sb.ok h0) (by lia) (by lia) fun n st2 n1 n2 p2 u2=>?_);have hB2:=hB1.pl p2;have hs2:=hB2.sb.size
  try dsimp only
  show wpS _ _ _ _ (if n<minRun' a₀.size a₀.size 0 then _ else _) _ st2
  by_cases c2:n<minRun' a₀.size a₀.size 0
  ·rw[if_pos c2];refine wpS_bind (wpS_lift (wpAny_rule ⟨rfl,?_⟩));refine wpS_bind (Zfh o hc hB2.sb.kind (hB2.sb.ok h0) (by show lo+min (a₀.size-lo) (minRun' a₀.size a₀.size 0)<=_;lia) (by show n<=min (a₀.size-lo) (minRun' a₀.size a₀.size 0);lia) (by show 1<=min (a₀.size-lo) (minRun' a₀.size a₀.size 0);lia) u2 fun st3 p3 u3=>?_);rw[if_neg (by decide)];have hB3:=hB2.pl p3;have u3':Up lt (arrOf st3) lo (lo+min (a₀.size-lo) (minRun' a₀.size a₀.size 0)):=u3;have hN:1<=min (a₀.size-lo) (minRun' a₀.size a₀.size 0):=by lia
   refine wpS_bind (wpS_get ?_);cases hb:(pendingOf st3).back? with
   | none =>
    dsimp only;refine wpS_bind (wpS_modify ?_);refine wpS_pure ⟨lo+min (a₀.size-lo) (minRun' a₀.size a₀.size 0),rfl,by lia,⟨⟨hB3.sb.arr,hB3.sb.kind,hB3.sb.fail,?_⟩,fun z hz=>?_⟩,by lia⟩
    ·show Cov ((pendingOf st3).push (lo,min (a₀.size-lo) (minRun' a₀.size a₀.size 0),0)).toList 0 (lo+min (a₀.size-lo) (minRun' a₀.size a₀.size 0));rw[Array.toList_push];exact hB3.sb.cov.push hN
    ·have hz':z∈((pendingOf st3).push (lo,min (a₀.size-lo) (minRun' a₀.size a₀.size 0),0)).toList:=hz;rw[Array.toList_push] at hz';rcases List.mem_append.mp hz' with hz'|hz'
     ·exact hB3.ups z hz'
     ·rw[List.mem_singleton.mp hz'];exact u3'
   | some t =>
    obtain⟨s1,n1,q⟩:=t;dsimp only;refine wpS_bind (wpS_mono (wpS_forRange (I:=fun _ c st'=>c=(none,())/\SBL lt a₀ κ lo st'/\∀x,lo<=x->(arrOf st')[x]?= (arrOf st3)[x]?) (Q:=fun c st'=>c=(none,())/\SBL lt a₀ κ lo st'/\∀x,lo<=x->(arrOf st')[x]?= (arrOf st3)[x]?) ?_ (fun _ _ z=>z) ⟨rfl,hB3,fun _ _=>rfl⟩) ?_)
    ·rintro y c st4 _ _ ⟨rfl,hB4,hO4⟩;refine wpS_bind (wpS_get ?_);by_cases g1:(pendingOf st4).size > 1
     ·rw[if_pos g1];obtain⟨⟨a1,a2,older⟩,e⟩:∃x,(pendingOf st4)[(pendingOf st4).size-2]?= some x:=⟨_,getElem?_pos _ _ (by lia)⟩;rw[e];dsimp only
      split
      ·exact wpS_pure ⟨rfl,hB4,hO4⟩
      ·refine wpS_bind (Zbz o hc h0 hB4 hlo (by show(pendingOf st4).size-2+1<(pendingOf st4).size;lia) fun st5 hB5 hO5 _=>?_);rw[if_neg (by decide)];exact wpS_pure ⟨rfl,hB5,fun x hx=>(hO5 x hx).trans (hO4 x hx)⟩
     ·rw[if_neg g1];exact wpS_pure ⟨rfl,hB4,hO4⟩
    ·rintro c st4 ⟨rfl,hB4,hO4⟩;dsimp only;refine wpS_bind (wpS_modify ?_);refine wpS_bind (wpS_modify ?_);refine wpS_pure ⟨lo+min (a₀.size-lo) (minRun' a₀.size a₀.size 0),rfl,by lia,⟨⟨hB4.sb.arr,hB4.sb.kind,hB4.sb.fail,?_⟩,fun z hz=>?_⟩,by lia⟩
     ·show Cov (Array.push ((pendingOf st4).modify _ _) (lo,min (a₀.size-lo) (minRun' a₀.size a₀.size 0),0)).toList 0 (lo+min (a₀.size-lo) (minRun' a₀.size a₀.size 0));rw[Array.toList_push,Array.toList_modify];refine Cov.push ?_ hN;refine Cov.last _ (fun x=>?_) _ hB4.sb.cov;exact⟨rfl,rfl⟩
     ·change z∈(Array.push ((pendingOf st4).modify _ _) (lo,min (a₀.size-lo) (minRun' a₀.size a₀.size 0),0)).toList at hz;rw[Array.toList_push,Array.toList_modify] at hz;rcases List.mem_append.mp hz with hz|hz
      ·obtain⟨i,hi⟩:=List.mem_iff_getElem?.mp hz;rw[List.getElem?_modify] at hi;obtain⟨z0,hz0,rfl⟩:=Option.map_eq_some_iff.mp hi;have h1:=hB4.ups z0 (List.mem_of_getElem? hz0)
       split
       ·exact h1
       ·exact h1
      ·rw[List.mem_singleton.mp hz];exact u3'.same fun x h1 _=>hO4 x h1
  ·rw[if_neg c2];have hB3:=hB2;have hN:=n1;have u3':=u2;refine wpS_bind (wpS_get ?_);cases hb:(pendingOf st2).back? with
   | none =>
    dsimp only;refine wpS_bind (wpS_modify ?_);refine wpS_pure ⟨lo+n,rfl,by lia,⟨⟨hB3.sb.arr,hB3.sb.kind,hB3.sb.fail,?_⟩,fun z hz=>?_⟩,by lia⟩
    ·show Cov ((pendingOf st2).push (lo,n,0)).toList 0 (lo+n);rw[Array.toList_push];exact hB3.sb.cov.push hN
    ·have hz':z∈((pendingOf st2).push (lo,n,0)).toList:=hz;rw[Array.toList_push] at hz';rcases List.mem_append.mp hz' with hz'|hz'
     ·exact hB3.ups z hz'
     ·rw[List.mem_singleton.mp hz'];exact u3'
   | some t =>
    obtain⟨s1,n1,q⟩:=t;dsimp only;refine wpS_bind (wpS_mono (wpS_forRange (I:=fun _ c st'=>c=(none,())/\SBL lt a₀ κ lo st'/\∀x,lo<=x->(arrOf st')[x]?= (arrOf st2)[x]?) (Q:=fun c st'=>c=(none,())/\SBL lt a₀ κ lo st'/\∀x,lo<=x->(arrOf st')[x]?= (arrOf st2)[x]?) ?_ (fun _ _ z=>z) ⟨rfl,hB3,fun _ _=>rfl⟩) ?_)
    ·rintro y c st4 _ _ ⟨rfl,hB4,hO4⟩;refine wpS_bind (wpS_get ?_);by_cases g1:(pendingOf st4).size > 1
     ·rw[if_pos g1];obtain⟨⟨a1,a2,older⟩,e⟩:∃x,(pendingOf st4)[(pendingOf st4).size-2]?= some x:=⟨_,getElem?_pos _ _ (by lia)⟩;rw[e];dsimp only
      split
      ·exact wpS_pure ⟨rfl,hB4,hO4⟩
      ·refine wpS_bind (Zbz o hc h0 hB4 hlo (by show(pendingOf st4).size-2+1<(pendingOf st4).size;lia) fun st5 hB5 hO5 _=>?_);rw[if_neg (by decide)];exact wpS_pure ⟨rfl,hB5,fun x hx=>(hO5 x hx).trans (hO4 x hx)⟩
     ·rw[if_neg g1];exact wpS_pure ⟨rfl,hB4,hO4⟩
    ·rintro c st4 ⟨rfl,hB4,hO4⟩;dsimp only;refine wpS_bind (wpS_modify ?_);refine wpS_bind (wpS_modify ?_);refine wpS_pure ⟨lo+n,rfl,by lia,⟨⟨hB4.sb.arr,hB4.sb.kind,hB4.sb.fail,?_⟩,fun z hz=>?_⟩,by lia⟩
     ·show Cov (Array.push ((pendingOf st4).modify _ _) (lo,n,0)).toList 0 (lo+n);rw[Array.toList_push,Array.toList_modify];refine Cov.push ?_ hN;refine Cov.last _ (fun x=>?_) _ hB4.sb.cov;exact⟨rfl,rfl⟩
     ·change z∈(Array.push ((pendingOf st4).modify _ _) (lo,n,0)).toList at hz;rw[Array.toList_push,Array.toList_modify] at hz;rcases List.mem_append.mp hz with hz|hz
      ·obtain⟨i,hi⟩:=List.mem_iff_getElem?.mp hz;rw[List.getElem?_modify] at hi;obtain⟨z0,hz0,rfl⟩:=Option.map_eq_some_iff.mp hi;have h1:=hB4.ups z0 (List.mem_of_getElem? hz0)
       split
       ·exact h1
       ·exact h1
      ·rw[List.mem_singleton.mp hz];exact u3'.same fun x h1 _=>hO4 x h1
 ·rintro c st1 ⟨lo,rfl,rfl,hB1⟩
  try dsimp only
  refine wpS_bind (wpS_mono (wpS_forRange (I:=fun x c st'=>c=(none,())/\SBL lt a₀ κ a₀.size st'/\(pendingOf st').size+x<=a₀.size+1) (Q:=fun c st'=>c=(none,())/\SBL lt a₀ κ a₀.size st'/\(pendingOf st').size<=1) ?_ (fun c st' ⟨z1,z2,z3⟩=>⟨z1,z2,by lia⟩) ⟨rfl,hB1,by have:=hB1.sb.cov.le;rw[Array.length_toList] at this;lia⟩) ?_)
  ·rintro x c st2 _ _ ⟨rfl,hB2,hp2⟩
   try dsimp only
   refine wpS_bind (wpS_get ?_)
   try dsimp only
   by_cases c2:(pendingOf st2).size<=1
   ·rw[if_pos c2];exact wpS_pure ⟨rfl,hB2,c2⟩
   ·rw[if_neg c2];have hx:∀b:Bool,(if b=true then(pendingOf st2).size-2-1 else(pendingOf st2).size-2)+1<(pendingOf st2).size:=fun b=>by
     cases b
     ·rw[if_neg Bool.false_ne_true];lia
     ·rw[if_pos rfl];lia
    refine wpS_bind (Zbz o hc h0 hB2 (Nat.le_refl _) (hx _) fun st3 hB3 _ hs3=>?_);rw[if_neg (by decide)];exact wpS_pure ⟨rfl,hB3,by lia⟩
  ·rintro c st2 ⟨rfl,hB2,hp2⟩;refine wpS_pure (h st2 hB2.sb.arr ?_ hB2.sb.fail);have hz2:=hB2.sb.size;have hcov:=hB2.sb.cov;have hups:=hB2.ups;have hpl:(pendingOf st2).toList.length<=1:=by rw[Array.length_toList];exact hp2
   match hl:(pendingOf st2).toList,hpl with
   | [],_ =>
    rw[hl] at hcov;have h0:0=a₀.size:=hcov;refine ZkU (n:=0) (fun x y _ _ _ _ h3=>by lia) (by lia)
   | [z],_ =>
    rw[hl] at hcov hups;obtain⟨z1,z2,z3⟩:=hcov;have z3':0+z.2.1=a₀.size:=z3;have hu:=hups z (List.mem_singleton.mpr rfl);rw[z1,z3'] at hu;exact ZkU hu (by lia)
end
end Srd
namespace Srd
open PySem PyProof.Rows Srt PySem.W
section
variable{prog:Program}{w:World}{A:Around}{E:Value->Shared->Prop}{s:Shared}
def ZbD(prog:Program)(w:World)(A:Around)(lv:Value->Value->Bool)(vs:List Value)(s:Shared):Prop :=
 ∃ κ,(∀(Q:SortKind->Shared->Prop)(E:Value->Shared->Prop),Q κ s->wpAny (model prog w) A (keyKind' vs.toArray) Q E s)/\ZgV prog w A s κ (fun p=>p∈(pairsOf vs).toList) fun x y=>lv x.1 y.1
theorem ZdJ{vs:List Value}{p:Keyed}(h:p∈(pairsOf vs).toList):p.1=p.2:=by
 rw[pairsOf_toList] at h;obtain⟨i,hi⟩:=List.mem_iff_getElem?.mp h;rw[List.getElem?_zip_eq_some] at hi;have:=hi.1.symm.trans hi.2;exact Option.some.inj this
theorem Ziy{lt:Keyed->Keyed->Bool}{vs:List Value}(h:vs.length<2):So lt (pairsOf vs).toList:=List.pairwise_iff_getElem.mpr fun i j hi hj hij=>by
 rw[Array.length_toList,pairsOf_size] at hi hj;lia
theorem ZhB{lv:Value->Value->Bool}{vs:List Value}{xs:Array Keyed}(hp:xs.toList.Perm (pairsOf vs).toList)(h:So (fun x y=>lv x.1 y.1) xs.toList):(xs.map (·.2)).toList.Pairwise (fun u v=>lv v u=false):=by
 rw[Array.toList_map,List.pairwise_map];refine List.Pairwise.imp_of_mem (fun{x y} hx hy hxy=>?_) h;have hxy':lv y.1 x.1=false:=hxy;rw[ZdJ (hp.mem_iff.mp hx),ZdJ (hp.mem_iff.mp hy)] at hxy';exact hxy'
theorem ZfC{lv:Value->Value->Bool}(o:Swo fun x y=>lv x.1 y.1){a:Addr}{vs:List Value}{n:Nat}{P:Fin->Shared->Prop}(ho:s.heap.get? a=some (seqObj "list" vs.toArray n)) (hlen:vs.length<=90000)
  (hc:∀h6:Heap,(∀b o,b≠a->s.heap.get? b=some o->h6.get? b=some o)->2<=vs.length->ZbD prog w A lv vs { s with heap:=h6 })
  (h:∀out:Array Value,out.toList.Perm vs->out.toList.Pairwise (fun u v=>lv v u=false)->P (.done (.ret .none)) { s with heap:=sortedHeap s.heap a vs out }):wpAny (model prog w) A (Builtin.«list.sort» ⟨[.ref a],[]⟩) P E s:=by
 have hv:vs.toArray.size<=sizeLine:=by rw[List.size_toArray,sizeLine_eq];lia
 have ha:a<s.heap.objs.size:=Heap.lt_size ho;obtain⟨e1,ho1⟩:∃e1,(s.heap.update a (Obj.mapSeq fun _=>#[])).get? a=some (seqObj "list" #[] e1):=⟨_,get?_update_seq ho (fun _=>#[])⟩;rw[list_sort_plain];refine wpAny_bind (listItems_at ho rfl (wpAny_bind (listUpdate_at ho rfl (wpAny_bind (seqEpoch_at ho1 rfl (wpAny_bind (wpAny_newTuple (wpAny_bind (wpAny_newList (wpAny_holding ?_)))))))  hv (Nat.zero_le _))));have nT:a≠(s.heap.update a (Obj.mapSeq fun _=>#[])).objs.size:=by rw[Heap.size_update];exact Nat.ne_of_lt ha
 have nL:a≠((s.heap.update a (Obj.mapSeq fun _=>#[])).push (seqObj "tuple" vs.toArray 0)).objs.size:=by rw[size_push',Heap.size_update];exact Nat.ne_of_lt (Nat.lt_succ_of_lt ha)
 have ho6:(((s.heap.update a (Obj.mapSeq fun _=>#[])).push (seqObj "tuple" vs.toArray 0)).push (seqObj "list" #[] 0)).get? a=some (seqObj "list" #[] e1):=by
  rw[Heap.get?_push_ne _ _ _ nL,Heap.get?_push_ne _ _ _ nT];exact ho1
 have hkeep:∀b o,b≠a->s.heap.get? b=some o->(((s.heap.update a (Obj.mapSeq fun _=>#[])).push (seqObj "tuple" vs.toArray 0)).push (seqObj "list" #[] 0)).get? b=some o:=fun b o hb e=>by
  refine Heap.get?_push_of_some _ (Heap.get?_push_of_some _ ?_);rw[Heap.get?_update_other _ _ hb.symm];exact e
 show wpAny (model prog w) A _ P E { s with heap:=((s.heap.update a (Obj.mapSeq fun _=>#[])).push (seqObj "tuple" vs.toArray 0)).push (seqObj "list" #[] 0) };dsimp only;by_cases h2:vs.toArray.size<2
 ·rw[if_pos h2,if_pos h2];refine wpAny_bind (wpAny_pure ?_);rw[StateT.run_pure];refine wpAny_bind (wpAny_pure (wpAny_bind (seqEpoch_at ho6 rfl (wpAny_bind (listUpdate_at ho6 rfl ?_ (Nat.zero_le _) ?_)))))
  ·simp only[bne_self_eq_false,Bool.false_eq_true,if_false];exact wpAny_pure (h _ (ZeB (xs:=pairsOf vs) (List.Perm.refl _)) (ZhB (xs:=pairsOf vs) (List.Perm.refl _) (Ziy (by rw[List.size_toArray] at h2;exact h2))))
  ·show((pairsOf vs).map (·.2)).size<=_;rw[Array.size_map,pairsOf_size,sizeLine_eq];lia
 ·rw[if_neg h2,if_neg h2];rw[List.size_toArray] at h2;obtain⟨κ,hkk,hcm⟩:=hc _ hkeep (by lia);refine wpAny_bind (hkk _ _ ?_);refine wpAny_bind (wpAny_mono (Zhw (a₀ := pairsOf vs) (Q:=fun _ st'=>(arrOf st').toList.Perm (pairsOf vs).toList/\So (fun x y=>lv x.1 y.1) (arrOf st').toList/\failedOf st'=none) o hcm (fun p hp=>hp) ⟨⟨List.Perm.refl _,rfl,rfl,rfl⟩,fun z hz=>(nomatch hz)⟩ fun st' a1 a3 a2=>⟨a1,a3,a2⟩) ?_ fun _ _ e=>e)
  rintro⟨⟨⟩,st'⟩ s' ⟨rfl,hp,hso,hf⟩;dsimp only;refine wpAny_bind (seqEpoch_at ho6 rfl (wpAny_bind (listUpdate_at ho6 rfl ?_ (Nat.zero_le _) ?_)))
  ·rw[hf];simp only[bne_self_eq_false,Bool.false_eq_true,if_false];exact wpAny_pure (h _ (ZeB hp) (ZhB hp hso))
  ·have hp':(arrOf st').toList.Perm (pairsOf vs).toList:=hp;have:=hp'.length_eq;rw[Array.length_toList,Array.length_toList,pairsOf_size] at this;show((arrOf st').map (·.2)).size<=_;rw[Array.size_map,sizeLine_eq];lia
theorem Zce{lv:Value->Value->Bool}(o:Swo fun x y=>lv x.1 y.1){v:Value}{C:List Value->Prop}{Q:Value->Shared->Prop}
  (hcol:∀(Q':List Value->Shared->Prop)(E':Value->Shared->Prop),(∀(ys:List Value)(h':Heap)(tk:Nat)(d:Drawn),(∀b o,s.heap.get? b=some o->h'.get? b=some o)->C ys->ys.length<=90000->s.heap.objs.size<=h'.objs.size->Q' ys { s with heap:=h',toks:=tk,drawn:=d })->wpAny (model prog w) A.in1 (collect v) Q' E' s)
  (hc:∀(ys:List Value)(h6:Heap)(tk:Nat)(d:Drawn),C ys->(∀b o,s.heap.get? b=some o->h6.get? b=some o)->2<=ys.length->ZbD prog w A.in1.in1 lv ys { s with heap:=h6,toks:=tk,drawn:=d })
  (q:∀(p:Addr)(ys:List Value)(out:Array Value)(h':Heap)(tk:Nat)(d:Drawn)(c:Nat),C ys->out.toList.Perm ys->out.toList.Pairwise (fun u v=>lv v u=false)->(∀b o,s.heap.get? b=some o->h'.get? b=some o)->h'.get? p=some (seqObj "list" out c)->s.heap.objs.size<=p->out.size<=90000->Q (.ref p) { s with heap:=h',toks:=tk,drawn:=d }) :
  wpAny (model prog w) A (call (.builtin "sorted") [v]) Q E s:=by
 refine Calls.call_function_entry kind_sorted plain_sorted entry_sorted (args_sorted1 _) ?_;unfold Builtin.«sorted»;refine wpAny_bind (m:=checkCount "sorted" 1 1 _) (wpAny_pure (wpAny_bind (hcol _ _ fun ys h1 tk d k1 hC hyl hle=>wpAny_bind (wpAny_newList ?_ (by rw[sizeLine_eq];lia)))));have hoL:(h1.push (seqObj "list" ys.toArray 0)).get? h1.objs.size=some (seqObj "list" ys.toArray 0):=Heap.get?_push_size _ rfl;have keep:∀b o,s.heap.get? b=some o->(h1.push (seqObj "list" ys.toArray 0)).get? b=some o:=fun b o e=>Heap.get?_push_of_some _ (k1 b o e);have hbp:∀b o,s.heap.get? b=some o->h1.objs.size≠b:=fun b o e=>Nat.ne_of_gt (Nat.lt_of_lt_of_le (Heap.lt_size e) hle);change wpAny _ _ _ _ _ { s with heap:=h1.push (seqObj "list" ys.toArray 0),toks:=tk,drawn:=d };refine wpAny_bind (wpAny_holding (wpAny_call_entry slot_list_sort ⟨_,hoL,rfl⟩ entry_list_sort (ZfC (s:={ s with heap:=h1.push (seqObj "list" ys.toArray 0),toks:=tk,drawn:=d }) o hoL (by lia) (fun h6 k6 h2=>hc ys h6 tk d hC (fun b o e=>k6 b o (hbp b o e).symm (keep b o e)) h2) fun out hp hso=>⟨_,rfl,?_⟩) (args_list_sort _)));generalize h1.push (seqObj "list" ys.toArray 0)=h5 at hoL keep;obtain⟨e1,ho1⟩:∃e1,(h5.update h1.objs.size (Obj.mapSeq fun _=>#[])).get? h1.objs.size=some (seqObj "list" #[] e1):=⟨_,get?_update_seq hoL (fun _=>#[])⟩;have ho6:=Heap.get?_push_of_some (seqObj "list" #[] 0) (Heap.get?_push_of_some (seqObj "tuple" ys.toArray 0) ho1);have hol:out.size<=90000:=by rw[<- Array.length_toList,hp.length_eq];exact hyl
 refine wpAny_pure ⟨_,rfl,q h1.objs.size ys out (sortedHeap h5 h1.objs.size ys out) tk d _ hC hp hso (fun b o e=>?_) (get?_update_seq ho6 (fun _=>out)) hle hol⟩;unfold sortedHeap;rw[Heap.get?_update_other _ _ (hbp b o e)];refine Heap.get?_push_of_some _ (Heap.get?_push_of_some _ ?_);rw[Heap.get?_update_other _ _ (hbp b o e)];exact keep b o e
def Zlv:Value->Int
 | .int i _=>i
 | _=>0
def iLt(u v:Value):Bool:=decide (Zlv u<Zlv v)
theorem Zjv:Swo fun x y=>iLt x.1 y.1:=⟨fun x y h=>decide_eq_false (by have:=of_decide_eq_true h;lia),fun x y z h1 h2=>decide_eq_false (by have:=of_decide_eq_false h1;have:=of_decide_eq_false h2;lia)⟩
theorem ZdN{vs:List Value}(hv:∀v∈vs,∃i t,v=Value.int i t)(h2:2<=vs.length):ZbD prog w A iLt vs s:=by
 refine⟨oneType',fun Q E hq=>kas_kind (T:=.type "int") h2 (fun v hm=>?_) rfl rfl hq,?_⟩
 ·obtain⟨i,t,rfl⟩:=hv v hm;exact Looks.of_pure rfl
 ·intro x y hx hy E;rw[pairsOf_toList] at hx hy;obtain⟨i,t,e⟩:=hv _ (mem_zip_self hx).2;obtain⟨i',t',e'⟩:=hv _ (mem_zip_self hy).2;rw[e,e',keyLt'_oneType];refine oneLt_int ⟨rfl,?_⟩;show decide (i<i')=decide (Zlv x.1<Zlv y.1);rw[e,e'];rfl
end
section
variable{prog:Program}{w:World}{A:Around}{E:Value->Shared->Prop}{s:Shared}{T:String}{r d:Addr}{n:Nat}{P:Nat->Value->Prop}{OK:Heap->Prop}
theorem Zfc{Q:List Value->Shared->Prop}(K:KdlSrc prog w T r d n P OK)(hh:A.handled=none)(hok:OK s.heap)(hn:n<=sizeLine)
  (q:∀(acc:Array Value)(h':Heap)(tk:Nat),(∀b o,s.heap.get? b=some o->h'.get? b=some o)->ItemsOf P acc n->s.heap.objs.size<=h'.objs.size->Q acc.toList { s with heap:=h',toks:=tk }):wpAny (model prog w) A (collect (.ref r)) Q E s:=by
 unfold collect;refine wpAny_bind (wpAny_runValue (codeAny_builtin entry_proto_collect' ?_));change wpAny _ _ (do again (.builtin "list.__iadd__" ⟨[<- newList [],.ref r],[]⟩)) _ _ s;refine wpAny_bind (wpAny_newList (wpAny_pure ⟨Code.quiet_builtin _ (by decide +kernel),codeAny_builtin entry_list_iadd' ?_⟩));change wpAny _ A.in1 (Builtin.List.listExtendWith (.ref s.heap.objs.size) (.ref r) (.ref s.heap.objs.size)) _ _ { s with heap:=s.heap.push (seqObj "list" #[] 0) };have hlt:=K.there _ hok;refine kdl_extend (R:=wants (fun v s'=>wpAny (model prog w) A (match v with
     | Value.ref a=>do
      let o <- load a
      match o.data with
      | .seq xs _=>pure xs.toList
      | _=>unsupported "internal:collect"
     | _=>unsupported "internal:collect") Q E s') E) (s:={ s with heap:=s.heap.push (seqObj "list" #[] 0) }) K hh (K.keep _ _ hok fun b _ o e=>Heap.get?_push_of_some _ e) s.heap.objs.size (Nat.ne_of_gt hlt.1) (Nat.ne_of_gt hlt.2) _ 0 (Heap.get?_push_size _ rfl) (fun h' tk acc c kp hS hit=>?_) hn
 refine wpAny_bind (wpAny_load hS ?_);refine wpAny_pure ?_;exact q acc h' tk (fun b o e=>kp b o (Nat.ne_of_lt (Heap.lt_size e)) (Heap.get?_push_of_some _ e)) hit (Nat.le_of_lt (Heap.lt_size hS))
end
end Srd
namespace Srd
open PySem PyProof.Rows
theorem Zbj:isSubtype (.type "AttributeError") (.type "AttributeError")=pure true:=by rw[isSubtype_type];kernel_rfl
section
variable{prog:Program}{w:World}{A:Around}{E:Value->Shared->Prop}{h:Heap}{g:Array GenState}{d:Drawn}{t:Nat}{os:OsState}{a:Addr}
theorem ZgT{α : Type}{Q : α -> Shared->Prop}{o:Value}{name msg:Str}(hh:A.handled=none)(hm:msg.length<=sizeLine)(hq:∀(x:Addr) (h':Heap) (tk:Nat),(∀b u,h.get? b=some u->h'.get? b=some u)->(∃ob,h'.get? x=some ob/\ob.cls=.type "AttributeError")->h.objs.size<=h'.objs.size->E (.ref x) ⟨h',g,d,tk,os⟩) :
  wpAny (model prog w) A (raiseAttrError o name msg:Sem α) Q E ⟨h,g,d,t,os⟩:=by
 unfold raiseAttrError
 repeat (any_goals (first|assumption|wp_step))
 refine wpAny_of_eq Zbj ?_;rw[if_neg (by decide)];generalize hfa:(if((Manifest.find? "AttributeError").elim false fun t=>t.mro.contains "StopIteration" || t.mro.contains "SystemExit")=true then [Value.str msg t].headD Value.none else Value.none)=fa
 have k1:∀b u,h.get? b=some u->(h.push { cls:=Value.type "tuple",data:=Data.seq #[Value.str msg t] }).get? b=some u:=fun b u e=>Heap.get?_push_of_some _ e;have z1:(h.push { cls:=Value.type "tuple",data:=Data.seq #[Value.str msg t] }).objs.size=h.objs.size+1:=Heap.size_push ..;generalize h.push { cls:=Value.type "tuple",data:=Data.seq #[Value.str msg t] }=h1 at k1 z1;have e1:(h1.push { cls:=Value.type "AttributeError",data:=Data.fields (#[Value.ref h.objs.size,Value.none,Value.none,Value.none,Value.bool false,fa]++ownMembersOf (Value.type "AttributeError") [Value.str msg t]) }).get? h1.objs.size=some { cls:=Value.type "AttributeError",data:=Data.fields (#[Value.ref h.objs.size,Value.none,Value.none,Value.none,Value.bool false,fa]++ownMembersOf (Value.type "AttributeError") [Value.str msg t]) }:=Heap.get?_push_size _ rfl;have k2:∀b u,h.get? b=some u->(h1.push { cls:=Value.type "AttributeError",data:=Data.fields (#[Value.ref h.objs.size,Value.none,Value.none,Value.none,Value.bool false,fa]++ownMembersOf (Value.type "AttributeError") [Value.str msg t]) }).get? b=some u:=fun b u e=>Heap.get?_push_of_some _ (k1 b u e);have z2:(h1.push { cls:=Value.type "AttributeError",data:=Data.fields (#[Value.ref h.objs.size,Value.none,Value.none,Value.none,Value.bool false,fa]++ownMembersOf (Value.type "AttributeError") [Value.str msg t]) }).objs.size=h1.objs.size+1:=Heap.size_push ..;generalize h1.push { cls:=Value.type "AttributeError",data:=Data.fields (#[Value.ref h.objs.size,Value.none,Value.none,Value.none,Value.bool false,fa]++ownMembersOf (Value.type "AttributeError") [Value.str msg t]) }=h2 at e1 k2 z2;refine wpAny_bind (wpAny_load e1 ?_);dsimp only;have v6:(#[Value.ref h.objs.size,Value.none,Value.none,Value.none,Value.bool false,fa]++ownMembersOf (Value.type "AttributeError") [Value.str msg t])[6]?= some unsetMember:=rfl;have v7:(#[Value.ref h.objs.size,Value.none,Value.none,Value.none,Value.bool false,fa]++ownMembersOf (Value.type "AttributeError") [Value.str msg t])[7]?= some unsetMember:=rfl;refine wpAny_ite_split (fun hab=>absurd hab (by rw[v6,v7];decide)) (fun _=>wpAny_ite_split (fun hab=>absurd hab (by rw[v6,v7];decide)) (fun _=>wpAny_pure ?_));rw[if_pos rfl];refine wpAny_bind (wpAny_rule (wpAny_bind (wpAny_typeOf (T := "AttributeError") ⟨_,e1,rfl⟩ ?_)));dsimp only;unfold layMembers;refine wpAny_bind (wpAny_load e1 ?_);dsimp only;refine wpAny_update e1 ?_;unfold raiseNew;refine wpAny_bind (wpAny_handled ?_);rw[hh];refine wpAny_throw (hq _ _ _ (fun b u e=>?_) ?_ ?_)
 ·rw[Heap.get?_update_other _ _ (show h1.objs.size≠b from fun z=>?_)]
  ·exact k2 b u e
  ·have:=Heap.lt_size e;have h3:h1.objs.size<h.objs.size:=z ▸ this;lia
 ·exact⟨_,Heap.get?_update_self _ e1 rfl,rfl⟩
 ·rw[Heap.size_update];show h.objs.size<=h2.objs.size;lia
end
theorem ZaR:entryFor table "dict.update.loop" = some Builtin.«dict.update.loop» := entryFor_of_tree (by kernel_rfl)
theorem Zag:plainId "dict.update.loop" = true:=by decide +kernel
section
variable{prog:Program}{w:World}{K:Type}[DecidableEq K]{knd:KeyKind prog w K}{A:Around}{E:Value->Shared->Prop}{R:Result->Shared->Prop}
def ZhP(knd:KeyKind prog w K)(h:Heap)(v:Value)(k:K)(u:Value):Prop := ∃b o n uk,v=.ref b/\h.get? b=some o/\o.cls=.type "tuple" /\ o.data=.seq #[uk,u] n/\knd.is k uk=true
def Zhq(knd:KeyKind prog w K)(h0:Heap)(d:Addr)(items:Array Value)(ps:List (K×Value)):Prop:=items.size=ps.length/\∀(i:Nat) v p,items[i]?= some v->ps[i]?= some p->∀h:Heap,(∀b o,b<d->h0.get? b=some o->h.get? b=some o)->ZhP knd h v p.1 p.2
theorem pair_items{s:Shared}{v:Value}{k:K}{u:Value}{Q:List Value->Shared->Prop}(hp:ZhP knd s.heap v k u)(q:∀uk,knd.is k uk=true->Q [uk,u] s):wpAny (model prog w) A (Builtin.Dict.pairItems v) Q E s:=by
 obtain⟨b,o,n,uk,rfl,ho,hc,hd,hk⟩:=hp;unfold Builtin.Dict.pairItems;refine wpAny_bind (wpAny_typeOf (T := "tuple") ⟨o,ho,hc⟩ ?_);rw[if_pos (by decide)];refine wpAny_bind (wpAny_seqItems ho hd (wpAny_pure (q uk hk)))
end
end Srd
namespace L2
open PySem PySem.Spec PyProof.Rows PySem.W
def putAll(kvs:List (Key×V)):List (Key×V):=kvs.foldl (fun m kv=>putK m kv.1 kv.2) []
theorem ZbH:∀(kvs m:List (Key×V)),(kvs.foldl (fun m kv=>putK m kv.1 kv.2) m).length<=m.length+kvs.length
 | [],m=>Nat.le_refl _
 | kv::kvs,m=>by
  have h1:=ZbH kvs (putK m kv.1 kv.2);have h2:=Zb5 m kv.1 kv.2;rw[List.length_cons,List.foldl_cons];lia
theorem ZgH(kvs:List (Key×V)):(putAll kvs).length<=kvs.length:=by
 have:=ZbH kvs [];rw[List.length_nil,Nat.zero_add] at this;exact this
theorem Zjf:∀{kvs:List (Key×V)}{ps:List (Key×Value)}{m:List (Key×V)}{m':List (Key×Value)},KV kvs ps->KV m m'->KV (kvs.foldl (fun m kv=>putK m kv.1 kv.2) m) (merged m' ps)
 | _,_,_,_,.nil,h=>h
 | _,_,m,m',.cons (a:=kv) (b:=p) r t,h=>by
  have e:p.1=kv.1:=r.1.symm;have h1:=h.put kv.1 r.2;have h2:=Zjf t h1;show KV (List.foldl _ (putK m kv.1 kv.2) _) (merged (stored m' p.1 p.2) _);rw[e];exact h2
section
variable{X:Cx}
theorem Zhu{zs:List V}{ns:List Int}(h:zs.Perm (ns.map V.int)):∃ms:List Int,zs=ms.map V.int/\ms.Perm ns:=by
 obtain⟨ms,rfl,_⟩:=ZfK zs fun z hz=>h.mem_iff.mp hz;refine⟨ms,rfl,?_⟩;have h2:=h.filterMap (fun v=>match v with|V.int i=>some i|_=>none)
 simpa[List.filterMap_map,Function.comp_def] using h2
theorem ZeC:∀{vs:List V}{us:List Value},Vals vs us->∀v∈vs,∃u∈us,RelV v u
 | _,_,.cons a t,v,hv=>by
  rcases List.mem_cons.mp hv with rfl|hv
  ·exact⟨_,List.mem_cons_self ..,a⟩
  ·obtain⟨u,hu,r⟩:=ZeC t v hv;exact⟨u,List.mem_cons_of_mem _ hu,r⟩
theorem rising:∀{ms:List Int}{us:List Value},Vals (ms.map V.int) us->us.Pairwise (fun u v=>Srd.iLt v u=false)->ms.Pairwise (· <= ·)
 | [],_,_,_=>.nil
 | m::ms,us,r,h=>by
  cases r with
  | cons r rr =>
   obtain⟨t,rfl⟩:=r;obtain⟨h1,h2⟩:=List.pairwise_cons.mp h;refine List.pairwise_cons.mpr ⟨fun m' hm=>?_,rising rr h2⟩;obtain⟨u,hu,ru⟩:=ZeC rr (V.int m') (List.mem_map.mpr ⟨m',hm,rfl⟩);obtain⟨t',rfl⟩:=ru;have:=of_decide_eq_false (h1 _ hu);have h3 : ¬ m'<m:=this;lia
end
end L2
namespace L2
open PySem PySem.Spec PyProof.Rows
def notStar:Expr->Bool
 | .Starred ..=>false
 | _=>true
theorem Zdg{e:Expr}(es:List Expr)(env:Env)(h:notStar e=true):starEach (e::es) env=(false,eval e env)::starEach es env:=by
 cases e <;> first|rfl|(exact absurd h Bool.false_ne_true)
theorem Zf4(env:Env)(pos:Pos):∀es:List Expr,es.all notStar=true->(backTo pos (starEach es env)).any (·.1)=false
 | [],_=>rfl
 | e::es,h=>by
  rw[List.all_cons,Bool.and_eq_true] at h;rw[Zdg es env h.1];show(false || (backTo pos (starEach es env)).any (·.1))=false;rw[Zf4 env pos es h.2];rfl
section
variable{X:Cx}{x:Str}{ps:List Str}{j k:Nat}{sp:Sp}{e:Expr}{es:List Expr}{t:TA}{te:TE}{p pos:Pos}
theorem ZiK(ha:PE X e te)(hr:PA X es t)(hn:notStar e=true:=by rfl):PA X (e::es) (Zfi te t):=Za ha hr (Zdg es X.env hn)
end
@[irreducible] def PEi(X:Cx)(e:Expr)(t:TE):Prop:=PE X e t
@[irreducible] def PAi(X:Cx)(es:List Expr)(t:TA):Prop:=PA X es t
section
variable{X:Cx}{x:Str}{ps:List Str}{j k:Nat}{sp:Sp}{e:Expr}{es:List Expr}{t:TA}{te:TE}{p pos:Pos}
theorem PEi.to(h:PEi X e te):PE X e te:=by unfold PEi at h;exact h
theorem PEi.of(h:PE X e te):PEi X e te:=by unfold PEi;exact h
theorem PAi.to(h:PAi X es t):PA X es t:=by unfold PAi at h;exact h
theorem PAi.of(h:PA X es t):PAi X es t:=by unfold PAi;exact h
theorem Zbh{i:Int}{j:Nat}:PEi X (.Constant (.int i) j pos) (tC (.int i)):=.of Ze
theorem Z2{x:Str}{j:Nat}:PEi X (.Constant (.str x) j pos) (tC (.str x)):=.of ZP
theorem ZM:PAi X [] Zku:=.of Zf
theorem Zi(ha:PEi X e te)(hr:PAi X es t)(hn:notStar e=true:=by rfl):PAi X (e::es) (Zfi te t):=.of (ZiK ha.to hr.to hn)
theorem Zae{x1:Nat}(h:PAi X es t):PEi X (.Tuple es x1 pos) (ZlA t):=.of (Z0 h.to)
theorem Zba(h:PAi X es t):PEi X (.List es pos) (Zly t):=.of (Zas h.to)
end
end L2
namespace Srd
open PySem PyProof.Rows Srt PySem.W
structure Sto{α : Type}(lt : α -> α -> Bool):Prop where
 irr:∀a,lt a a=false
 trans:∀a b c,lt a b=true->lt b c=true->lt a c=true
 tri:∀a b,lt a b=false->lt b a=false->a=b
section
variable{α β : Type}{lt : α -> α -> Bool}{lt2 : β -> β -> Bool}
theorem Sto.asym(o:Sto lt){a b : α}(h:lt a b=true):lt b a=false:=by
 cases e:lt b a with
 | false=>rfl
 | true =>
  have:=o.trans a b a h e;rw[o.irr] at this;cases this
theorem Sto.neg(o:Sto lt){x y z : α}(h1:lt x y=false)(h2:lt y z=false):lt x z=false:=by
 cases e:lt x z with
 | false=>rfl
 | true =>
  cases e2:lt y x with
  | true=>rw[o.trans y x z e2 e] at h2;cases h2
  | false =>
   have:=o.tri x y h1 e2;subst this;rw[e] at h2;cases h2
theorem Sto.swo(o:Sto lt)(f:Value -> α):Swo fun x y=>lt (f x.1) (f y.1):=⟨fun _ _ h=>o.asym h,fun _ _ _ h1 h2=>o.neg h1 h2⟩
def Zjs[DecidableEq α](lt : α -> α -> Bool)(lt2 : β -> β -> Bool)(x y : α × β):Bool:=lt x.1 y.1 || (decide (x.1=y.1)&&lt2 x.2 y.2)
theorem Sto.lex[DecidableEq α](o:Sto lt)(o2:Sto lt2):Sto (Zjs lt lt2) where
 irr:=fun a=>by unfold Zjs;rw[o.irr,o2.irr];simp
 trans:=fun a b c h1 h2=>by
  unfold Zjs at *;simp only[Bool.or_eq_true,Bool.and_eq_true,decide_eq_true_eq] at *;rcases h1 with h1|⟨e1,h1⟩
  ·rcases h2 with h2|⟨e2,h2⟩
   ·exact .inl (o.trans _ _ _ h1 h2)
   ·exact .inl (e2 ▸ h1)
  ·rcases h2 with h2|⟨e2,h2⟩
   ·exact .inl (e1.symm ▸ h2)
   ·exact .inr ⟨e1.trans e2,o2.trans _ _ _ h1 h2⟩
 tri:=fun a b h1 h2=>by
  unfold Zjs at *;simp only[Bool.or_eq_false_iff,Bool.and_eq_false_imp,decide_eq_true_eq] at *;have e1:=o.tri _ _ h1.1 h2.1;have e2:=o2.tri _ _ (h1.2 e1) (h2.2 e1.symm);exact Prod.ext e1 e2
theorem ZdL:Sto fun a b:Int=>decide (a<b):=⟨fun a=>by simp,fun a b c h1 h2=>by simp only[decide_eq_true_eq] at *;lia,fun a b h1 h2=>by simp only[decide_eq_false_iff_not] at *;lia⟩
theorem ZdI:∀a b:List Nat,¬ a<b -> ¬ b<a->a=b
 | [],[],_,_=>rfl
 | [],b::bs,h,_=>absurd (List.nil_lt_cons b bs) h
 | a::as,[],_,h=>absurd (List.nil_lt_cons a as) h
 | a::as,b::bs,h1,h2=>by
  rw[List.cons_lt_cons_iff] at h1 h2;have e:a=b:=by
   rcases Nat.lt_trichotomy a b with z|z|z
   ·exact absurd (.inl z) h1
   ·exact z
   ·exact absurd (.inl z) h2
  subst e;rw[ZdI as bs (fun z=>h1 (.inr ⟨rfl,z⟩)) (fun z=>h2 (.inr ⟨rfl,z⟩))]
theorem Za8:∀a:List Nat,¬ a<a
 | [],h=>by cases h
 | a::as,h=>by
  rw[List.cons_lt_cons_iff] at h;rcases h with h|⟨_,h⟩
  ·lia
  ·exact Za8 as h
theorem Zcr:∀a b c:List Nat,a<b->b<c->a<c
 | [],_,[],_,h2=>by cases h2
 | [],_,c::cs,_,_=>List.nil_lt_cons c cs
 | a::as,[],_,h1,_=>by cases h1
 | a::as,b::bs,[],_,h2=>by cases h2
 | a::as,b::bs,c::cs,h1,h2=>by
  rw[List.cons_lt_cons_iff] at *;rcases h1 with h1|⟨e1,h1⟩
  ·rcases h2 with h2|⟨e2,h2⟩
   ·exact .inl (by lia)
   ·exact .inl (by lia)
  ·rcases h2 with h2|⟨e2,h2⟩
   ·exact .inl (by lia)
   ·exact .inr ⟨by lia,Zcr as bs cs h1 h2⟩
theorem ZjA{x y:Str}(h:x.cps.toList=y.cps.toList):x=y:=by
 cases x;cases y
 congr 1
 exact Array.toList_inj.mp h
theorem Zj3:Sto fun a b:Str=>decide (a.cps.toList<b.cps.toList):=⟨fun a=>decide_eq_false (Za8 _),fun a b c h1 h2=>decide_eq_true (Zcr _ _ _ (of_decide_eq_true h1) (of_decide_eq_true h2)),fun a b h1 h2=>ZjA (ZdI _ _ (of_decide_eq_false h1) (of_decide_eq_false h2))⟩
end
abbrev Qd:=Int×Str×Int×Int
def qLt:Qd->Qd->Bool:=Zjs (fun a b:Int=>decide (a<b)) (Zjs (fun a b:Str=>decide (a.cps.toList<b.cps.toList)) (Zjs (fun a b:Int=>decide (a<b)) fun a b:Int=>decide (a<b)))
theorem Zkq:Sto qLt:=ZdL.lex (Zj3.lex (ZdL.lex ZdL))
def IsQ(h:Heap)(v:Value)(q:Qd):Prop := ∃a o t u t2 t3 n,v=.ref a/\h.get? a=some o/\o.cls=.type "tuple" /\ o.data=.seq #[.int q.1 t,.str q.2.1 u,.int q.2.2.1 t2,.int q.2.2.2 t3] n
theorem IsQ.inj{h:Heap}{v:Value}{q q':Qd}(x:IsQ h v q)(y:IsQ h v q'):q=q':=by
 obtain⟨a,o,t,u,t2,t3,n,rfl,h1,_,h3⟩:=x;obtain⟨a',o',t',u',t2',t3',n',e,h1',_,h3'⟩:=y;cases e;rw[h1] at h1';cases h1';rw[h3] at h3';obtain⟨q1,q2,q3,q4⟩:=q;obtain⟨r1,r2,r3,r4⟩:=q';simp only[Data.seq.injEq,Array.mk.injEq,List.cons.injEq,Value.int.injEq,Value.str.injEq,and_true] at h3';obtain⟨⟨⟨e1,_⟩,⟨e2,_⟩,⟨e3,_⟩,⟨e4,_⟩⟩,_⟩:=h3';rw[e1,e2,e3,e4]
theorem IsQ.keep{h h':Heap}{v:Value}{q:Qd}(x:IsQ h v q)(k:∀b o,h.get? b=some o->h'.get? b=some o):IsQ h' v q:=by
 obtain⟨a,o,t,u,t2,t3,n,rfl,h1,r⟩:=x;exact⟨a,o,t,u,t2,t3,n,rfl,k _ _ h1,r⟩
open Classical in
noncomputable def kq(h:Heap)(v:Value):Qd:=if x:∃q,IsQ h v q then x.choose else(0,Str.empty,0,0)
theorem ZiB{h:Heap}{v:Value}{q:Qd}(x:IsQ h v q):kq h v=q:=by
 unfold kq;rw[dif_pos ⟨q,x⟩];exact(Exists.choose_spec (⟨q,x⟩:∃q,IsQ h v q)).inj x
section
variable{prog:Program}{w:World}{A:Around}{s:Shared}
theorem Zg1{h:Heap}:∀{vs:List Value},(∀v∈vs,∃q,IsQ h v q)->∃fs,KatTups h vs fs/\fs.length=vs.length/\∀f∈fs,∃i t,f=.int i t
 | [],_=>⟨[],trivial,rfl,fun _ h=>nomatch h⟩
 | v::vs,hv=>by
  obtain⟨q,a,o,t,u,t2,t3,n,rfl,ho,hc,hd⟩:=hv v (List.mem_cons_self ..);obtain⟨fs,kt,hl,hf⟩:=Zg1 (vs:=vs) fun x hx=>hv x (List.mem_cons_of_mem _ hx);refine⟨.int q.1 t::fs,KatTups.cons ho hc hd rfl kt,by simp[hl],fun f hm=>?_⟩;rcases List.mem_cons.mp hm with rfl|hm
  ·exact⟨_,t,rfl⟩
  ·exact hf f hm
theorem ZeX{h0:Heap}{vs:List Value}(hv:∀v∈vs,∃q,IsQ h0 v q)(k0:∀b o,h0.get? b=some o->s.heap.get? b=some o)(h2:2<=vs.length):ZbD prog w A (fun u v=>qLt (kq h0 u) (kq h0 v)) vs s:=by
 have hv':∀v∈vs,∃q,IsQ s.heap v q:=fun v hm=>let ⟨q,x⟩:=hv v hm;⟨q,x.keep k0⟩;obtain⟨fs,k,hl,hf⟩:=Zg1 hv';refine⟨tuples' true,fun Q E hq=>?_,?_⟩
 ·refine kat_kind (T:=.type "int") k (by lia) (fun v hm=>?_) rfl hq;obtain⟨i,t,rfl⟩:=hf v hm;exact Looks.of_pure rfl
 ·intro x y hx hy E;rw[pairsOf_toList] at hx hy;obtain⟨q,xq⟩:=hv _ (mem_zip_self hx).2;obtain⟨q',yq⟩:=hv _ (mem_zip_self hy).2;have e1:(fun x y:Keyed=>qLt (kq h0 x.1) (kq h0 y.1)) x y=qLt q q':=by
   show qLt (kq h0 x.1) (kq h0 y.1)=_;have hx1:=(mem_zip_self hx);have hy1:=(mem_zip_self hy);rw[ZiB xq,ZiB yq]
  rw[e1];obtain⟨a,o,t,u,t2,t3,n,e,ho,hc,hd⟩:=xq.keep k0;obtain⟨a',o',t',u',t2',t3',n',e',ho',hc',hd'⟩:=yq.keep k0;rw[e,e'];obtain⟨q1,q2,q3,q4⟩:=q;obtain⟨r1,r2,r3,r4⟩:=q';refine kat_lt ho hd ho' hd' ?_;have unf:qLt (q1,q2,q3,q4) (r1,r2,r3,r4)=(decide (q1<r1) || (decide (q1=r1)&&(decide (q2.cps.toList<r2.cps.toList) || (decide (q2=r2)&&(decide (q3<r3) || (decide (q3=r3)&&decide (q4<r4))))))):=rfl;rw[unf];refine kat_cons (wpAny_eqBool_int (kat_go (fun c1=>kat_yes ?_) (fun c1=>kat_no ?_)))
  ·have c1':q1=r1:=eq_of_beq c1;refine kat_cons (wpAny_eqBool_str (kat_go (fun c2=>kat_yes ?_) (fun c2=>kat_no ?_)))
   ·have c2':q2=r2:=of_decide_eq_true c2;refine kat_cons (wpAny_eqBool_int (kat_go (fun c3=>kat_yes ?_) (fun c3=>kat_no ?_)))
    ·have c3':q3=r3:=eq_of_beq c3;refine kat_cons (wpAny_eqBool_int (kat_go (fun c4=>kat_yes (kat_nil ⟨rfl,?_⟩)) (fun c4=>kat_no ?_)))
     ·have c4':q4=r4:=eq_of_beq c4;subst c1' c2' c3' c4';rw[decide_eq_false (Za8 q2.cps.toList)];simp
     ·refine kat_one _ _ (wpAny_lt_int ⟨rfl,?_⟩);subst c1' c2' c3';rw[decide_eq_false (Za8 q2.cps.toList)];simp
    ·refine kat_one _ _ (wpAny_lt_int ⟨rfl,?_⟩);have c3' : ¬ q3=r3:=fun z=>by rw[z] at c3;simp at c3
     subst c1' c2';rw[decide_eq_false (Za8 q2.cps.toList)];simp[c3']
   ·refine kat_one _ _ (PyProof.Rows.lt_str ⟨rfl,?_⟩);have c2' : ¬ q2=r2:=of_decide_eq_false c2;subst c1';simp[c2']
  ·refine oneLt_int ⟨rfl,?_⟩;have c1' : ¬ q1=r1:=fun z=>by rw[z] at c1;simp at c1
   simp[c1']
end
end Srd
namespace L2
open PySem PySem.Spec PyProof.Rows PySem.W Srd Sts Stg
def tq(q:Qd):HO:=.tup [.int q.1,.str q.2.1,.int q.2.2.1,.int q.2.2.2]
def QL(H:Hp)(zs:List V)(qs:List Qd):Prop:=Paired (fun z q=>∃p,z=V.ref p/\H p=some (tq q)) zs qs
def kOf(q:Qd):List Key:=[Sum.inl q.1,Sum.inr q.2.1,Sum.inl q.2.2.1,Sum.inl q.2.2.2]
theorem QL.mem{H:Hp}:∀{zs:List V}{qs:List Qd},QL H zs qs->∀z∈zs,∃p,∃q∈qs,z=V.ref p/\H p=some (tq q)
 | _,_,.cons ⟨p,e1,e2⟩ t,z,hz=>by
  rcases List.mem_cons.mp hz with rfl|hz
  ·exact⟨p,_,List.mem_cons_self ..,e1,e2⟩
  ·obtain⟨p',q',h1,h2⟩:=QL.mem t z hz;exact⟨p',q',List.mem_cons_of_mem _ h1,h2⟩
theorem QL.length{H:Hp}:∀{zs:List V}{qs:List Qd},QL H zs qs->zs.length=qs.length
 | _,_,.nil=>rfl
 | _,_,.cons _ t=>by rw[List.length_cons,List.length_cons,QL.length t]
theorem QL.get{H:Hp}:∀{zs:List V}{qs:List Qd},QL H zs qs->∀(i:Nat) z,zs[i]?= some z->∃p q,qs[i]?= some q/\z=V.ref p/\H p=some (tq q)
 | _,_,.cons ⟨p,e1,e2⟩ t,i,z,hz=>by
  cases i with
  | zero =>
   injection hz with hz;subst hz;exact⟨p,_,rfl,e1,e2⟩
  | succ i=>exact QL.get t i z hz
theorem Zf0:∀{vs:List V}{us:List Value},Vals vs us->∀(i:Nat) u,us[i]?= some u->∃v,vs[i]?= some v/\RelV v u
 | _,_,.cons r t,i,u,h=>by
  cases i with
  | zero =>
   injection h with h;subst h;exact⟨_,rfl,r⟩
  | succ i=>exact Zf0 t i u h
section
variable{X:Cx}{e:Expr}{te:TE}{p p' pos pos':Pos}
theorem Zh1{P:Program}{w:World}{H:Hp}{h:Heap}{t:Addr}{q:Qd}(ok:HOk P w H h)(e:H t=some (tq q)):IsQ h (.ref t) q:=by
 obtain⟨_,us,rus,o,ho,hc',n,hd⟩:=ok t _ e;obtain⟨u1,us,rfl,r1,rus⟩:=Vals.inv rus;obtain⟨u2,us,rfl,r2,rus⟩:=Vals.inv rus;obtain⟨u3,us,rfl,r3,rus⟩:=Vals.inv rus;obtain⟨u4,us,rfl,r4,rus⟩:=Vals.inv rus;obtain rfl:=Vals.end_ rus;obtain⟨t1,rfl⟩:=r1;obtain⟨t2,rfl⟩:=r2;obtain⟨t3,rfl⟩:=r3;obtain⟨t4,rfl⟩:=r4;exact⟨t,o,t1,t2,t3,t4,n,rfl,ho,hc',hd⟩
def QIt(P:Program)(w:World)(h0:Heap)(items:List Value)(qs:List Qd):Prop:=items.length=qs.length/\∀(i:Nat) v q,items[i]?= some v->qs[i]?= some q->∃t,v=.ref t/\IsTupleKey (ZaB P w) h0 (kOf q) t/\IsQ h0 v q
theorem QIt.of{P:Program}{w:World}{H:Hp}{h:Heap}{zs:List V}{qs:List Qd}{us:List Value}(ok:HOk P w H h)(r:Vals zs us)(ql:QL H zs qs):QIt P w h us qs:=by
 refine⟨by rw[<- r.length,ql.length],fun i v q hv hq=>?_⟩;obtain⟨z,hz,rz⟩:=Zf0 r i v hv;obtain⟨t,q',h1,rfl,h3⟩:=ql.get i z hz;rw[hq] at h1;cases h1;obtain rfl:v=Value.ref t:=rz;exact⟨t,rfl,ZdW ok (ks:=kOf q) h3,Zh1 ok h3⟩
theorem QIt.mem{P:Program}{w:World}{h0:Heap}{items:List Value}{qs:List Qd}(x:QIt P w h0 items qs){v:Value}(hv:v∈items):∃t,∃q∈qs,v=.ref t/\IsTupleKey (ZaB P w) h0 (kOf q) t/\IsQ h0 v q:=by
 obtain⟨i,hi⟩:=List.mem_iff_getElem?.mp hv;have hlt:=(List.getElem?_eq_some_iff.mp hi).1;rw[x.1] at hlt;obtain⟨t,h1,h2,h3⟩:=x.2 i v qs[i] hi (List.getElem?_eq_getElem hlt);exact⟨t,qs[i],List.getElem_mem hlt,h1,h2,h3⟩
theorem Zi2{P:Program}{w:World}{H:Hp}{h0:Heap}(ok:HOk P w H h0){ys:List V}{its:List Value}{qs:List Qd}(rv:Vals ys its)(ql:QL H ys qs):∀us:List Value,(∀u∈us,u∈its)->∃zs,Vals zs us/\QL H zs (us.map (kq h0))
 | [],_=>⟨[],.nil,.nil⟩
 | u::us,h=>by
  obtain⟨y,hy,ry⟩:=Zcw rv u (h u (List.mem_cons_self ..));obtain⟨zs,rz,hz⟩:=Zi2 ok rv ql us fun x hx=>h x (List.mem_cons_of_mem _ hx);obtain⟨t,q,_,rfl,e2⟩:=ql.mem y hy;have hu:u=Value.ref t:=ry;subst hu;exact⟨_,.cons ry rz,.cons ⟨t,rfl,by rw[ZiB (Zh1 ok e2)];exact e2⟩ hz⟩
end
end L2
namespace L2
open PySem PySem.Spec PyProof.Rows PySem.W Srd
def ZkO(K:PySem.W.Frag)(xs:List V)(H:Hp)(Q:VK):Prop :=
 (∃l ys qs,xs=[.ref l]/\SqL K H l ys/\ys.length<=90000/\QL H ys qs/\∀r zs ms,H r=none->ms.Pairwise (fun a b=>qLt b a=false)->ms.Perm qs->QL H zs ms->Q (.ref r) (upd H r (.lst zs))) \/
 (∃(l:Addr)(ns:List Int),xs=[.ref l]/\SqL K H l (ns.map V.int)/\ns.length<=90000/\∀r (ms:List Int),H r=none->ms.Pairwise (· <= ·)->ms.Perm ns->Q (.ref r) (upd H r (.lst (ms.map V.int))))
section
variable{X:Cx}
theorem ZfJ{prog:Program}{w:World}{A:Around}{s:Shared}{l:Addr}{vs:List Value}(hl:s.heap.IsList l vs.toArray)(hn:vs.length<=90000){Q':List Value->Shared->Prop}{E':Value->Shared->Prop}
  (hq:∀(ys:List Value)(h':Heap)(tk:Nat)(d:Drawn),(∀b o,s.heap.get? b=some o->h'.get? b=some o)->ys=vs->ys.length<=90000->s.heap.objs.size<=h'.objs.size->Q' ys { s with heap:=h',toks:=tk,drawn:=d }):wpAny (model prog w) A (collect (.ref l)) Q' E' s:=by
 refine collect_list hl ?_ (by rw[sizeLine_eq];lia);refine hq _ _ s.toks s.drawn (fun b o e=>?_) rfl hn ?_
 ·rw[Heap.get?_update_other _ _ (Nat.ne_of_gt (Heap.lt_size e))];exact Heap.get?_push_of_some _ e
 ·rw[Heap.size_update,Heap.size_push];exact Nat.le_succ _
theorem Zje{P:Program}{w:World}{H:Hp}{h0:Heap}(ok:HOk P w H h0):∀{ys:List V}{its:List Value}{qs:List Qd},Vals ys its->QL H ys qs->its.map (kq h0)=qs
 | _,_,_,.nil,.nil=>rfl
 | _,_,_,.cons (b:=u) r rr,.cons ⟨p,e1,e2⟩ t=>by
  subst e1;have hu:u=Value.ref p:=r;subst hu;rw[List.map_cons,Zje ok rr t,ZiB (Zh1 ok e2)]
theorem ZcL(hc:X.calm=true):Zbk X (.builtin "sorted") (ZkO X.K):=by
 intro pins s σ H xs us Q I r h;rcases h with⟨l,ys,qs,rfl,hq,hlen,hql,q⟩|⟨l,ns,rfl,hq,hlen,q⟩
 ·obtain⟨u,rfl,ru⟩:=vals1 r;obtain rfl:u=.ref l:=ru;obtain⟨its,rv,pl,hz⟩:=I.list hq;have hl:=rv.length;have x:QIt X.prog X.w s.heap its qs:=QIt.of I.hok rv hql;refine Zce (lv:=fun u v=>qLt (kq s.heap u) (kq s.heap v)) (C:=fun ys=>ys=its) (Zkq.swo (kq s.heap)) (fun Q' E' hq'=>?_) (fun ys' h6 tk6 d6 hC k6 h2l=>?_) fun pa ys' out h3 tk3 d3 c hC hperm hso k3 e3 hle hos=>?_
  ·exact ZfJ pl.isList (by lia) hq'
  ·subst hC;exact ZeX (h0:=s.heap) (fun v hv'=>let ⟨_,q,_,_,_,h3⟩:=x.mem hv';⟨q,h3⟩) k6 h2l
  ·subst hC;obtain⟨zs,rz,hzq⟩:=Zi2 I.hok rv hql out.toList fun u hu=>hperm.mem_iff.mp hu;have hzl:zs.length=out.size:=rz.length.trans (Array.length_toList ..);have I2:=I.laid (h':=h3) (t':=tk3) (a:=pa) (o:=.lst zs) (fun b o e=>k3 b o e) hle (show ZaA X.prog X.w _ h3 _ (.lst zs) from⟨by rw[sizeLine_eq];lia,out.toList,c,rz,e3⟩);refine⟨.ref pa,_,I2.draws (d:=d3),rfl,q pa zs _ (I.hok.fresh hle) (List.pairwise_map.mpr hso) ?_ hzq⟩;rw[<- Zje I.hok rv hql];exact hperm.map _
 ·obtain⟨u,rfl,ru⟩:=vals1 r;obtain rfl:u=.ref l:=ru;obtain⟨its,rv,pl,hz⟩:=I.list hq;have hl:=rv.length;rw[List.length_map] at hl;refine Zce (C:=fun ys=>ys=its) Zjv (fun Q' E' hq'=>?_) (fun ys' h6 tk6 d6 hC k6 h2l=>ZdN (fun v hv=>?_) h2l) fun pa ys' out h3 tk3 d3 c hC hperm hso k3 e3 hle hos=>?_
  ·exact ZfJ pl.isList (by lia) hq'
  ·subst hC;obtain⟨y,hy,ry⟩:=Zcw rv v hv;obtain⟨i,_,rfl⟩:=List.mem_map.mp hy;obtain⟨t,rfl⟩:=ry;exact⟨i,t,rfl⟩
  ·subst hC;obtain⟨zs,pz,rz⟩:=Zhj hperm rv;obtain⟨ms,rfl,pm⟩:=Zhu pz;have hzl:=rz.length;have I2:=I.laid (h':=h3) (t':=tk3) (a:=pa) (o:=.lst (ms.map V.int)) (fun b o e=>k3 b o e) hle (show ZaA X.prog X.w _ h3 _ (.lst (ms.map V.int)) from⟨by rw[hzl,Array.length_toList,sizeLine_eq];lia,out.toList,c,rz,e3⟩);exact⟨.ref pa,_,I2.draws (d:=d3),rfl,q pa ms (I.hok.fresh hle) (rising rz hso) pm⟩
end
end L2
namespace Fg
open PySem L2 FgM
theorem Zch:bootBuiltins "sorted" = some (.builtin "sorted"):=by decide +kernel
theorem Zc6{K:PySem.W.Frag}{a p:Addr}{xs:List V}{g:TG}{te:TE}{R:Hp->Prop}{σ0:St}{H0:Hp}(Pv:Nat->List V->St->Hp->Prop)(h0:Pv 0 [] σ0 H0)
  (hl:∀i ys σ H,i<=xs.length->Pv i ys σ H->SqT K H a xs/\H p=some (.lst ys))
  (hs:∀i ys x σ H,i<xs.length->xs[i]?= some x->Pv i ys σ H->g x σ H fun σ3 H4=>te σ3 H4 fun v H5=>H5 p=some (.lst ys)/\ys.length<sizeLine/\∃m',m'<xs.length-i/\CW xs.length Pv (i+1) m' (ys ++ [v]) σ3 (upd H5 p (.lst (ys ++ [v]))))
  (hd:∀ys σ H,Pv xs.length ys σ H->R H) :
  ∃W:Nat->Nat->List V->St->Hp->Prop,(∃m,W 0 m [] σ0 H0)/\∀i m ys σc H2,W i m ys σc H2->H2 p=some (.lst ys)/\(((Itt K a).stop i H2/\R H2)\/((Itt K a).go i H2/\∀x H3,(Itt K a).yld i H2 x H3->g x σc H3 fun σ3 H4=>te σ3 H4 fun v H5 =>
   H5 p=some (.lst ys)/\ys.length<sizeLine/\∃m',m'<m/\W (i+1) m' (ys ++ [v]) σ3 (upd H5 p (.lst (ys ++ [v]))))):=by
 refine⟨CW xs.length Pv,⟨_,rfl,Nat.zero_le _,h0⟩,?_⟩;rintro i m ys σ H ⟨rfl,hi,hp⟩;obtain⟨h1,h2⟩:=hl i ys σ H hi hp;refine⟨h2,?_⟩;by_cases hlt:i<xs.length
 ·refine .inr ⟨⟨xs,xs[i],h1,List.getElem?_eq_getElem hlt⟩,?_⟩;rintro x H3 ⟨rfl,hx⟩;exact hs i ys x σ _ hlt (hx xs h1) hp
 ·refine .inl ⟨⟨xs,h1,by lia⟩,hd ys σ H ?_⟩;have e:i=xs.length:=by lia
  rw[<- e];exact hp
theorem ZcA{lo:Int}{n:Nat}{p:Addr}{g:TG}{te:TE}{R:Hp->Prop}{σ0:St}{H0:Hp}(Pv:Nat->List V->St->Hp->Prop)(h0:Pv 0 [] σ0 H0)
  (hl:∀i ys σ H,i<=n->Pv i ys σ H->H p=some (.lst ys))
  (hs:∀i ys σ H,i<n->Pv i ys σ H->g (.int (lo+i)) σ H fun σ3 H4=>te σ3 H4 fun v H5=>H5 p=some (.lst ys)/\ys.length<sizeLine/\∃m',m'<n-i/\CW n Pv (i+1) m' (ys ++ [v]) σ3 (upd H5 p (.lst (ys ++ [v]))))
  (hd:∀ys σ H,Pv n ys σ H->R H) :
  ∃W:Nat->Nat->List V->St->Hp->Prop,(∃m,W 0 m [] σ0 H0)/\∀i m ys σc H2,W i m ys σc H2->H2 p=some (.lst ys)/\(((Itr lo n).stop i H2/\R H2)\/((Itr lo n).go i H2/\∀x H3,(Itr lo n).yld i H2 x H3->g x σc H3 fun σ3 H4=>te σ3 H4 fun v H5 =>
   H5 p=some (.lst ys)/\ys.length<sizeLine/\∃m',m'<m/\W (i+1) m' (ys ++ [v]) σ3 (upd H5 p (.lst (ys ++ [v]))))):=by
 refine⟨CW n Pv,⟨_,rfl,Nat.zero_le _,h0⟩,?_⟩;rintro i m ys σ H ⟨rfl,hi,hp⟩;refine⟨hl i ys σ H hi hp,?_⟩;by_cases hlt:i<n
 ·refine .inr ⟨hlt,?_⟩;rintro x H3 ⟨rfl,rfl⟩;exact hs i ys σ _ hlt hp
 ·have e:i=n:=by lia
  subst e;exact .inl ⟨Nat.le_refl _,hd ys σ H hp⟩
theorem Zgn{X:Cx}{K:PySem.W.Frag}(h:X.K=K):IxR X (ZlO K):=h ▸ ZW
theorem ZfT{α : Type}[DecidableEq α]:∀{l m:List α},l.Nodup->(∀x∈l,x∈m)->l.length<=m.length
 | [],_,_,_=>Nat.zero_le _
 | a::l,m,hn,h=>by
  obtain⟨h1,h2⟩:=List.nodup_cons.mp hn;have ha:=h a (List.mem_cons_self ..);have h3:=ZfT (m:=m.erase a) h2 fun x hx=>(List.mem_erase_of_ne (fun(e:x=a)=>h1 (e ▸ hx))).mpr (h x (List.mem_cons_of_mem _ hx));rw[List.length_erase_of_mem ha] at h3;have:=List.length_pos_of_mem ha;rw[List.length_cons];lia
theorem ZiP{x:Int}{xs:List Int}:inV (.int x) (xs.map V.int)=decide (x∈xs):=by
 unfold inV;rw[Bool.eq_iff_iff,List.any_eq_true,decide_eq_true_eq];constructor
 ·rintro⟨y,hy,h⟩;obtain⟨z,hz,rfl⟩:=List.mem_map.mp hy;have:z=x:=by
   have h':(z == x)=true:=by simpa[eqV] using h
   exact eq_of_beq h'
  exact this ▸ hz
 ·intro h;exact⟨V.int x,List.mem_map.mpr ⟨x,h,rfl⟩,by simp[eqV]⟩
end Fg
namespace Srd
open PySem PyProof.Rows Srt PySem.W
abbrev Pr:=Int×Int
def pLt:Pr->Pr->Bool:=Zjs (fun a b:Int=>decide (a<b)) fun a b:Int=>decide (a<b)
theorem Zh0:Sto pLt:=ZdL.lex ZdL
def IsP(h:Heap)(v:Value)(q:Pr):Prop := ∃a o t u n,v=.ref a/\h.get? a=some o/\o.cls=.type "tuple" /\ o.data=.seq #[.int q.1 t,.int q.2 u] n
theorem IsP.inj{h:Heap}{v:Value}{q q':Pr}(x:IsP h v q)(y:IsP h v q'):q=q':=by
 obtain⟨a,o,t,u,n,rfl,h1,_,h3⟩:=x;obtain⟨a',o',t',u',n',e,h1',_,h3'⟩:=y;cases e;rw[h1] at h1';cases h1';rw[h3] at h3';obtain⟨q1,q2⟩:=q;obtain⟨r1,r2⟩:=q';simp only[Data.seq.injEq,Array.mk.injEq,List.cons.injEq,Value.int.injEq,and_true] at h3';obtain⟨⟨⟨e1,_⟩,⟨e2,_⟩⟩,_⟩:=h3';rw[e1,e2]
theorem IsP.keep{h h':Heap}{v:Value}{q:Pr}(x:IsP h v q)(k:∀b o,h.get? b=some o->h'.get? b=some o):IsP h' v q:=by
 obtain⟨a,o,t,u,n,rfl,h1,r⟩:=x;exact⟨a,o,t,u,n,rfl,k _ _ h1,r⟩
open Classical in
noncomputable def kpr(h:Heap)(v:Value):Pr:=if x:∃q,IsP h v q then x.choose else(0,0)
theorem Zgj{h:Heap}{v:Value}{q:Pr}(x:IsP h v q):kpr h v=q:=by
 unfold kpr;rw[dif_pos ⟨q,x⟩];exact(Exists.choose_spec (⟨q,x⟩:∃q,IsP h v q)).inj x
section
variable{prog:Program}{w:World}{A:Around}{s:Shared}
theorem Zhd{h:Heap}:∀{vs:List Value},(∀v∈vs,∃q,IsP h v q)->∃fs,KatTups h vs fs/\fs.length=vs.length/\∀f∈fs,∃i t,f=.int i t
 | [],_=>⟨[],trivial,rfl,fun _ h=>nomatch h⟩
 | v::vs,hv=>by
  obtain⟨q,a,o,t,u,n,rfl,ho,hc,hd⟩:=hv v (List.mem_cons_self ..);obtain⟨fs,kt,hl,hf⟩:=Zhd (vs:=vs) fun x hx=>hv x (List.mem_cons_of_mem _ hx);refine⟨.int q.1 t::fs,KatTups.cons ho hc hd rfl kt,by simp[hl],fun f hm=>?_⟩;rcases List.mem_cons.mp hm with rfl|hm
  ·exact⟨_,t,rfl⟩
  ·exact hf f hm
theorem ZeN{h0:Heap}{vs:List Value}(hv:∀v∈vs,∃q,IsP h0 v q)(k0:∀b o,h0.get? b=some o->s.heap.get? b=some o)(h2:2<=vs.length):ZbD prog w A (fun u v=>pLt (kpr h0 u) (kpr h0 v)) vs s:=by
 have hv':∀v∈vs,∃q,IsP s.heap v q:=fun v hm=>let ⟨q,x⟩:=hv v hm;⟨q,x.keep k0⟩;obtain⟨fs,k,hl,hf⟩:=Zhd hv';refine⟨tuples' true,fun Q E hq=>?_,?_⟩
 ·refine kat_kind (T:=.type "int") k (by lia) (fun v hm=>?_) rfl hq;obtain⟨i,t,rfl⟩:=hf v hm;exact Looks.of_pure rfl
 ·intro x y hx hy E;rw[pairsOf_toList] at hx hy;obtain⟨q,xq⟩:=hv _ (mem_zip_self hx).2;obtain⟨q',yq⟩:=hv _ (mem_zip_self hy).2;have e1:(fun x y:Keyed=>pLt (kpr h0 x.1) (kpr h0 y.1)) x y=pLt q q':=by
   show pLt (kpr h0 x.1) (kpr h0 y.1)=_;have hx1:=(mem_zip_self hx);have hy1:=(mem_zip_self hy);rw[Zgj xq,Zgj yq]
  rw[e1];obtain⟨a,o,t,u,n,e,ho,hc,hd⟩:=xq.keep k0;obtain⟨a',o',t',u',n',e',ho',hc',hd'⟩:=yq.keep k0;rw[e,e'];obtain⟨q1,q2⟩:=q;obtain⟨r1,r2⟩:=q';refine kat_lt ho hd ho' hd' ?_;have unf:pLt (q1,q2) (r1,r2)=(decide (q1<r1) || (decide (q1=r1)&&decide (q2<r2))):=rfl;rw[unf];refine kat_cons (wpAny_eqBool_int (kat_go (fun c1=>kat_yes ?_) (fun c1=>kat_no ?_)))
  ·have c1':q1=r1:=eq_of_beq c1;refine kat_cons (wpAny_eqBool_int (kat_go (fun c4=>kat_yes (kat_nil ⟨rfl,?_⟩)) (fun c4=>kat_no ?_)))
   ·have c4':q2=r2:=eq_of_beq c4;subst c1' c4';simp
   ·refine kat_one _ _ (wpAny_lt_int ⟨rfl,?_⟩);subst c1';simp
  ·refine oneLt_int ⟨rfl,?_⟩;have c1' : ¬ q1=r1:=fun z=>by rw[z] at c1;simp at c1
   simp[c1']
end
end Srd
namespace L2
open PySem PySem.Spec PyProof.Rows PySem.W Srd
def tp(q:Pr):HO:=.tup [.int q.1,.int q.2]
def pK(q:Pr):List Key:=[Sum.inl q.1,Sum.inl q.2]
def PL(H:Hp)(zs:List V)(qs:List Pr):Prop:=Paired (fun z q=>∃p,z=V.ref p/\H p=some (tp q)) zs qs
theorem PL.mem{H:Hp}:∀{zs:List V}{qs:List Pr},PL H zs qs->∀z∈zs,∃p,∃q∈qs,z=V.ref p/\H p=some (tp q)
 | _,_,.cons ⟨p,e1,e2⟩ t,z,hz=>by
  rcases List.mem_cons.mp hz with rfl|hz
  ·exact⟨p,_,List.mem_cons_self ..,e1,e2⟩
  ·obtain⟨p,q,hq,r⟩:=PL.mem t z hz;exact⟨p,q,List.mem_cons_of_mem _ hq,r⟩
theorem PL.length{H:Hp}:∀{zs:List V}{qs:List Pr},PL H zs qs->zs.length=qs.length
 | _,_,.nil=>rfl
 | _,_,.cons _ t=>by rw[List.length_cons,List.length_cons,PL.length t]
theorem PL.get{H:Hp}:∀{zs:List V}{qs:List Pr},PL H zs qs->∀(i:Nat) z,zs[i]?= some z->∃p q,qs[i]?= some q/\z=V.ref p/\H p=some (tp q)
 | _,_,.cons ⟨p,e1,e2⟩ t,i,z,hz=>by
  cases i with
  | zero =>
   injection hz with hz;subst hz;exact⟨p,_,rfl,e1,e2⟩
  | succ i=>exact PL.get t i z hz
theorem PL.keep{H H':Hp}:∀{zs:List V}{qs:List Pr},PL H zs qs->(∀b xs,H b=some (.tup xs)->H' b=some (.tup xs))->PL H' zs qs
 | _,_,.nil,_=>.nil
 | _,_,.cons ⟨p,e1,e2⟩ t,k=>.cons ⟨p,e1,k _ _ e2⟩ (PL.keep t k)
theorem Zha{P:Program}{w:World}{H:Hp}{h:Heap}{t:Addr}{q:Pr}(ok:HOk P w H h)(e:H t=some (tp q)):IsP h (.ref t) q:=by
 obtain⟨_,us,rus,o,ho,hc',n,hd⟩:=ok t _ e;obtain⟨u1,us,rfl,r1,rus⟩:=Vals.inv rus;obtain⟨u2,us,rfl,r2,rus⟩:=Vals.inv rus;obtain rfl:=Vals.end_ rus;obtain⟨t1,rfl⟩:=r1;obtain⟨t2,rfl⟩:=r2;exact⟨t,o,t1,t2,n,rfl,ho,hc',hd⟩
theorem Zji{P:Program}{w:World}{H:Hp}{h0:Heap}(ok:HOk P w H h0){ys:List V}{its:List Value}{qs:List Pr}(rv:Vals ys its)(ql:PL H ys qs):∀us:List Value,(∀u∈us,u∈its)->∃zs,Vals zs us/\PL H zs (us.map (kpr h0))
 | [],_=>⟨[],.nil,.nil⟩
 | u::us,h=>by
  obtain⟨y,hy,ry⟩:=Zcw rv u (h u (List.mem_cons_self ..));obtain⟨zs,rz,hz⟩:=Zji ok rv ql us fun x hx=>h x (List.mem_cons_of_mem _ hx);obtain⟨t,q,_,rfl,e2⟩:=ql.mem y hy;have hu:u=Value.ref t:=ry;subst hu;exact⟨_,.cons ry rz,.cons ⟨t,rfl,by rw[Zgj (Zha ok e2)];exact e2⟩ hz⟩
theorem Zh2{P:Program}{w:World}{H:Hp}{h0:Heap}(ok:HOk P w H h0):∀{ys:List V}{its:List Value}{qs:List Pr},Vals ys its->PL H ys qs->its.map (kpr h0)=qs
 | _,_,_,.nil,.nil=>rfl
 | _,_,_,.cons (b:=u) r rr,.cons ⟨p,e1,e2⟩ t=>by
  subst e1;have hu:u=Value.ref p:=r;subst hu;rw[List.map_cons,Zh2 ok rr t,Zgj (Zha ok e2)]
theorem ZjG{H:Hp}{kvs:List (List Key×V)}{xs:List (List Key×Addr×Value)}(h:Paired (fun(p:List Key×V)(q:List Key×Addr×Value)=>p.1=q.1/\H q.2.1=some (.tup (p.1.map kV))/\RelV p.2 q.2.2) kvs xs):∀{ps:List Pr},kvs.map (·.1)=ps.map pK->∃ys,Vals ys (xs.map fun x=>Value.ref x.2.1)/\PL H ys ps:=by
 induction h with
 | nil =>
  intro ps e;cases ps with
  | nil=>exact⟨[],.nil,.nil⟩
  | cons n ns=>cases e
 | @cons p q l m r t ih =>
  intro ps e;cases ps with
  | nil=>cases e
  | cons n ns =>
   rw[List.map_cons,List.map_cons] at e;obtain⟨e1,e2⟩:=List.cons.inj e;obtain⟨ys,h1,h2⟩:=ih e2;refine⟨.ref q.2.1::ys,.cons rfl h1,.cons ⟨q.2.1,rfl,?_⟩ h2⟩;have h3:=r.2.1;rw[e1] at h3;exact h3
section
variable{X:Cx}
theorem ZbZ(hc:X.calm=true):Zbk X (.builtin "sorted") (fun xs H Q=>∃(d:Addr)(kvs:List (List Key×V))(ps:List Pr),xs=[.ref d]/\H d=some (.dT kvs)/\kvs.length<=90000/\kvs.map (·.1)=ps.map pK/\∀(r:Addr)(zs:List V)(ms:List Pr),H r=none->ms.Perm ps->ms.Pairwise (fun a b=>pLt b a=false)->PL H zs ms->Q (.ref r) (upd H r (.lst zs))):=by
 intro pins s σ H xs us Q I r h;obtain⟨d,kvs,ps,rfl,hd,hlen,hkn,q⟩:=h;obtain⟨u,rfl,rx⟩:=vals1 r;obtain rfl:u=.ref d:=rx;obtain⟨z,lo,xs,rel,o,es,ep,ho,hx,hdat,hes,hnd⟩:=(show ZaA X.prog X.w H s.heap d (.dT kvs) from I.hok d _ hd);obtain⟨ys,rv,pl⟩:=ZjG rel hkn;have hek:es.toList.map (·.key)=xs.map fun x=>Value.ref x.2.1:=by
  rw[hes,List.map_map];rfl
 have hxl:kvs.length=xs.length:=rel.length;have hel:es.size=xs.length:=by rw[<- Array.length_toList,hes,List.length_map]
 refine Zce (lv:=fun u v=>pLt (kpr s.heap u) (kpr s.heap v)) (C:=fun ys=>ys=xs.map fun x=>Value.ref x.2.1) (Zh0.swo (kpr s.heap)) (fun Q' E' hq=>?_) (fun ys' h6 tk6 d6 hC k6 h2l=>?_) fun pa ys' out h3 tk3 d3 c hC hperm hso k3 e3 hle hos=>?_
 ·refine Zfc (Zj6 lo) (I.ok.hd hc) (⟨o,ho,hx,hdat⟩:ZhO s.heap d es ep) (by rw[sizeLine_eq];lia) fun acc h' tk kp hit hle=>?_;have hacc:acc.toList=es.toList.map (·.key):=by
   refine List.ext_getElem? fun j=>?_;rw[Array.getElem?_toList,List.getElem?_map,Array.getElem?_toList];cases hj:acc[j]? with
   | none =>
    have h3:acc.size<=j:=Array.getElem?_eq_none_iff.mp hj;rw[hit.1] at h3;rw[Array.getElem?_eq_none h3];rfl
   | some v =>
    obtain⟨e,h1,rfl⟩:=hit.2 j v hj;rw[h1];rfl
  rw[hacc,hek];exact hq _ h' tk s.drawn kp rfl (by rw[List.length_map];lia) hle
 ·subst hC;refine ZeN (h0:=s.heap) (fun v hv=>?_) k6 h2l;obtain⟨y,hy,ry⟩:=Zcw rv v hv;obtain⟨t,q1,_,rfl,e2⟩:=pl.mem y hy;obtain rfl:v=Value.ref t:=ry;exact⟨q1,Zha I.hok e2⟩
 ·subst hC;obtain⟨zs,rz,hzq⟩:=Zji I.hok rv pl out.toList fun u hu=>hperm.mem_iff.mp hu;have hzl:zs.length=out.size:=rz.length.trans (Array.length_toList ..);have hol:out.size=xs.length:=by
   have:=hperm.length_eq;rw[Array.length_toList,List.length_map] at this;exact this
  have I2:=I.laid (h':=h3) (t':=tk3) (a:=pa) (o:=.lst zs) (fun b o e=>k3 b o e) hle (show ZaA X.prog X.w _ h3 _ (.lst zs) from⟨by rw[sizeLine_eq];lia,out.toList,c,rz,e3⟩);refine⟨.ref pa,_,I2.draws (d:=d3),rfl,q pa zs _ (I.hok.fresh hle) ?_ (List.pairwise_map.mpr hso) hzq⟩;rw[<- Zh2 I.hok rv pl];exact hperm.map _
end
end L2
namespace L2
open PySem PySem.Spec PyProof.Rows Srd
section
variable{X:Cx}
def Zkp:V->List V->Hp->VK->Prop:=fun x vs H Q=>∃(l:Addr)(xs:List V)(i:Int)(k:Nat)(y:V),x=.ref l/\vs=[.int i,y]/\i=(k:Int)/\H l=some (.lst xs)/\k<=xs.length/\xs.length<sizeLine/\Q .non (upd H l (.lst (xs.take k++y::xs.drop k)))
theorem ZeJ:MtM X "list.insert" Zkp:=by
 intro pins s σ H x vs v us Q I rx rv h;obtain⟨l,xs,i,k,y,rfl,rfl,hi,hH,hk,hz,q⟩:=h;cases rx;obtain⟨u,us',rfl,ru,rv⟩:=rv.inv;obtain⟨u2,rfl,ru2⟩:=rv.one;obtain⟨t,rfl⟩:=ru;obtain⟨z,its,n,r,hl,e⟩:=I.lstM hH;have hf:Builtin.List.listFitsIndex i=true:=by
  have h1:sizeLine<9223372036854775808:=by unfold sizeLine;lia
  exact fitsIndex_both (by lia) (by lia)
 refine call_meets F.slot_list_insert ⟨_,e,rfl⟩ F.entry_list_insert (F.args_list_insert_3 _ _ _)
  (@AutoSeq1.list_insert_list_int_val_1 l its.toArray n i t u2 (by simp[hf]) (by rw[List.size_toArray,<- hl];exact z)) ⟨e,?_⟩
 refine⟨.non,_,I.lset (its':=its.take k++u2::its.drop k) hH e ?_ ((r.take k).append (.cons ru2 (r.drop k))) ?_,rfl,q⟩
 ·have e1 : ¬ (i<0):=by lia
  have e2:min i.toNat its.length=k:=by lia
  simp only[if_neg e1,List.size_toArray,e2];apply Array.toList_inj.mp;simp only[List.extract_toArray,List.push_toArray,List.append_toArray,List.extract_eq_take_drop,List.drop_zero,Nat.sub_zero];rw[List.take_of_length_le (l:=its.drop k) (by rw[List.length_drop];exact Nat.le_refl _)];simp
 ·rw[List.length_append,List.length_cons,List.length_take,List.length_drop];lia
theorem ZbU:Zbk X (.type "tuple") (fun xs H Q=>∃p ys,xs=[.ref p]/\SqL X.K H p ys/\∀l o,H l=none->o.cls=.type "tuple" -> o.dict=none->Q (.ref l) (upd H l (.frz o (.tup ys)))):=by
 intro pins s σ H xs us Q I r h;obtain⟨p,ys,rfl,hq,q⟩:=h;obtain⟨u,rfl,rx⟩:=vals1 r;cases rx;obtain⟨its,r',pl,hz⟩:=I.list hq;have hlen:=r'.length;refine call_tuple_list pl.isList (fun h' kp=>?_) (by simp only[List.size_toArray] <;> lia)
 have I1:Inv X pins σ H { s with heap:=h' }:=I.kept (t':=s.toks) kp;have I2:Inv X pins σ (upd H h'.objs.size (.frz { cls:=.type "tuple",data:=.seq its.toArray } (.tup ys))) { s with heap:=h'.push { cls:=.type "tuple",data:=.seq its.toArray } } :=
  I1.laid (t':=s.toks) (fun b o e=>Heap.get?_push_of_some _ e) (Nat.le_refl _) (show ZaA X.prog X.w _ _ _ (.frz { cls:=.type "tuple",data:=.seq its.toArray } (.tup ys)) from⟨Heap.get?_push_size _ rfl,hz,its,r',IsTup.new _ _⟩)
 exact⟨.ref h'.objs.size,_,I2,rfl,q _ _ (I1.hok.fresh (Nat.le_refl _)) rfl rfl⟩
end
end L2
namespace L2
open PySem PySem.Spec PyProof.Rows
section
variable{X:Cx}{C:Addr}{m x:Str}{ps:List Str}{j k:Nat}{sp:Sp}{o e:Expr}{es:List Expr}{ta:TE}{t:TA}{p pos apos:Pos}
theorem Zkg(G:HasC X.prog X.w X.K X.mg X.base C x ps j sp)(hr:Room k X.A)(hg:Gl X x)(ha:PA X (e::es) t)(hk:j+1<=k:=by decide)(hdb:(x == ("__debug__" : Str))=false:=by decide)
  (he:starEach (e::es) X.env=(false,eval e X.env)::starEach es X.env:=by rfl) (hpl:(backTo pos (starEach es X.env)).any (·.1)=false:=by rfl):PE X (.Call (.Name x p) (e::es) [] pos) (ZkE C sp [] E0 t):=by
 obtain⟨f,fd,F,b,M,hm⟩:=G.ex;exact ZjS M F (hr.mono hk) hg hm b .nil ZjC ha hdb he hpl
end
end L2
namespace Stg
open PySem PyProof.Rows Sts
end Stg
namespace Fg
open PySem L2 FgM
abbrev Pr:=Srd.Pr
def ZmI:List Pr:=(List.range 64).flatMap fun a:Nat=>(List.range 64).map fun b:Nat=>((a:Int),(b:Int))
theorem Zio:ZmI.length=4096:=by decide +kernel
theorem ZdF{l:List Pr}{n:Int}(hn:n<=64)(h:l.Nodup)(hb:∀p∈l,(0<=p.1/\p.1<n)/\0<=p.2/\p.2<n):l.length<=4096:=by
 rw[<- Zio];refine ZfT h fun p hp=>?_;obtain⟨⟨a1,a2⟩,b1,b2⟩:=hb p hp;refine List.mem_flatMap.mpr ⟨p.1.toNat,List.mem_range.mpr (by lia),List.mem_map.mpr ⟨p.2.toNat,List.mem_range.mpr (by lia),?_⟩⟩;rw[Int.toNat_of_nonneg a1,Int.toNat_of_nonneg b1]
def ZR(ex:List Addr)(H H':Hp):Prop := ∀b o,b∉ex->H b=some o->H' b=some o
theorem ZR.trans{ex:List Addr}{H H1 H2:Hp}(a:ZR ex H H1)(b:ZR ex H1 H2):ZR ex H H2:=fun c o hc h=>b c o hc (a c o hc h)
theorem Zg.keepX{ex:List Addr}{H H':Hp}(s:Zg H H'):ZR ex H H':=fun b o _ h=>s b o h
theorem ZR.upd{ex:List Addr}{H H':Hp}{a:Addr}{o:HO}(k:ZR ex H H')(h:a∈ex):ZR ex H (L2.upd H' a o):=fun b u hb e=>by
 have hne:b≠a:=fun z=>hb (by rw[z];exact h);rw[Zu hne];exact k b u hb e
end Fg
namespace L2
open PySem PySem.Spec PyProof.Rows
theorem Zld{X:Cx}:OpR X (compareOp .Is) (fun x y H Q=>∃a b,x=.bl a/\y=.bl b/\Q (.bl (decide (a=b))) H):=by
 intro pins s σ H x y v u Q I rx ry h;obtain⟨a,b,rfl,rfl,q⟩:=h;cases rx;cases ry;cases a <;> cases b <;> exact wpAny_pure (Zac I q rfl)
end L2
namespace Fg
open PySem L2 FgM
theorem made{H H':Hp}{x dx C:Addr}(hx:H x=none)(hdx:H dx=none)(kb:∀b o,b≠x->(upd (upd H dx (.own x)) x (.ins C dx [])) b=some o->H' b=some o):Zg H H':=fun b o e=>kb b o (Zq e hx) (by
 rw[Zu (Zq e hx),Zu (Zq e hdx)];exact e)
theorem Zca{H:Hp}{x dx C b:Addr}(h:(upd (upd H dx (.own x)) x (.ins C dx [])) b=none):H b=none:=by
 by_cases h1:b=x
 ·rw[h1,Zb] at h;cases h
 ·rw[Zu h1] at h;by_cases h2:b=dx
  ·rw[h2,Zb] at h;cases h
  ·rw[Zu h2] at h;exact h
end Fg
namespace L2
open PySem PySem.Spec PyProof.Rows
theorem Z6{X:Cx}{K:PySem.W.Frag}(hK:X.K=K):Zbk X (.builtin "isinstance") (fun xs H Q=>∃x n t b,xs=[x,.ty n]/\TyOf K H x t/\PySem.W.kitOne K t (.type n)=some b/\Q (.bl b) H):=hK ▸ ZfB
theorem Zdv(ns:List Int)(f:Nat->Int)(h:∀j,f j=ns.getD j 0):∀j,j<=ns.length->preSum f j=(ns.take j).sum
 | 0,_=>rfl
 | j+1,hj=>by
  have hn:ns[j]?= some (ns[j]'(by lia)):=List.getElem?_eq_getElem (by lia);show preSum f j+f j=_;rw[Zdv ns f h j (by lia),h j,List.take_succ_eq_append_getElem (by lia),List.sum_append,List.getD_eq_getElem?_getD,hn];simp
section
variable{X:Cx}
theorem ZeP(hc:X.calm=true):Zbk X (.builtin "sum") (fun xs H Q=>∃(a:Addr)(ns:List Int),xs=[.ref a]/\SqL X.K H a (ns.map V.int)/\Q (.int ns.sum) H):=by
 intro pins s σ H xs us Q I r h;obtain⟨a,ns,rfl,hq,q⟩:=h;obtain⟨u,rfl,r1⟩:=vals1 r;cases r1;obtain⟨its,rv,pl,hz⟩:=I.list hq;have hall:∀{ns:List Int}{its:List Value},Vals (ns.map V.int) its->∃xs:List (Int×Tok),its=xs.map (fun p=>Value.int p.1 p.2)/\xs.map (·.1)=ns:=by
  intro ns
  induction ns with
  | nil =>
   intro its h;cases h;exact⟨[],rfl,rfl⟩
  | cons n ns ih =>
   intro its h;cases h with
   | cons h1 h2 =>
    obtain⟨t,rfl⟩:=h1;obtain⟨xs,rfl,e⟩:=ih h2;exact⟨(n,t)::xs,rfl,by rw[List.map_cons,e]⟩
 obtain⟨ps,rfl,hps⟩:=hall rv;have hl:s.heap.IsList a (intItems ps.toArray):=by
  have:=pl.isList
  simpa[intItems] using this
 refine sum_intListG (I.ok.hd hc) hl fun h' tk t' hk=>?_;refine⟨V.int _,H,I.kept hk,⟨t',rfl⟩,?_⟩;have e:preSum (numAt ps.toArray) ps.toArray.size=ns.sum:=by
  rw[Zdv ns _ (fun j=>by rw[numAt_eq,<- hps]) _ (by rw[List.size_toArray,<- hps,List.length_map];lia),List.size_toArray,<- hps,List.take_of_length_le (by rw[List.length_map];lia)]
 rw[e];exact q
end
end L2
namespace Fg
open PySem L2 FgM
namespace Pa
end Pa
end Fg
namespace L2
open PySem PySem.Spec PyProof.Rows
@[irreducible] def PSi(X:Cx)(st:Stmt)(t:TS):Prop:=PS X st t
@[irreducible] def Zh6(X:Cx)(ss:List Stmt)(t:TS):Prop:=PSs X ss t
section
variable{X:Cx}
theorem Zis{st:Stmt}{t:TS}(h:PSi X st t):Zh6 X [st] t:=by
 unfold PSi at h;unfold Zh6;exact Zk h
theorem Zg9{st:Stmt}{ss:List Stmt}{t u:TS}(h:PSi X st t)(k:PSs X ss u):Zh6 X (st::ss) (Zlx t u):=by
 unfold PSi at h;unfold Zh6;exact Zd h k
theorem Zg7{i:Nat}{x:Str}{e:Expr}{te:TE}{pos pos':Pos}(hN:X.N.Nodup)(hi:X.N[i]?= some x)(hx:Loc X.env.scope x)(he:PEi X e te)(hs:swapsWith e (some (.Name x pos')) pos.line X.env=pure false:=by rfl)(hf:X.fn x=true\/X.env.scope.names.lookup x=some .local:=by first|exact .inl rfl|exact .inr rfl|assumption):PSi X (.Assign [.Name x pos'] e pos) (Zlw te (ZgZ i)):=by
 unfold PSi;exact Zx hN hi hx he.to hs hf
theorem ZjQ{b:List Stmt}{D:Ends}{σ : St}{H:Hp}(s:List Stmt){t:TS}(h:Zh6 X s t)(k:∀u,Zh6 X s u->u=t->∃t,PSs X b t/\t D σ H):∃t,PSs X b t/\t D σ H:=k t h rfl
theorem Zex{st:Stmt}{ss:List Stmt}{t u:TS}(h:PS X st t)(k:Zh6 X ss u):PSs X (st::ss) (Zlx t u):=by
 unfold Zh6 at k;exact Zd h k
end
end L2
namespace Srd
open PySem PyProof.Rows
theorem Zes:typeLookup (.type "tuple") "keys" = pure none:=by rw[typeLookup_type,builtinLookup_eq_fast];kernel_rfl
section
variable{prog:Program}{w:World}{A:Around}{E:Value->Shared->Prop}{h:Heap}{g:Array GenState}{d:Drawn}{t:Nat}{os:OsState}{a:Addr}
theorem ZcU{tk:Tok}{Q:Fin->Shared->Prop}{its:Array Value}{n:Nat}{sl:Array (Option Value)}(hh:A.handled=none)(hx:h.get? a=some { cls:=.type "tuple",dict:=none,data:=.seq its n,slots:=sl }) (hq:∀(x:Addr)(h':Heap)(tk:Nat),(∀b u,h.get? b=some u->h'.get? b=some u)->(∃ob,h'.get? x=some ob/\ob.cls=.type "AttributeError")->h.objs.size<=h'.objs.size->E (.ref x) ⟨h',g,d,tk,os⟩) :
  wpAny (model prog w) A (Builtin.«object.__getattribute__» ⟨[.ref a,.str "keys" tk],[]⟩) Q E ⟨h,g,d,t,os⟩:=by
 have hT:(⟨h,g,d,t,os⟩:Shared).TypeIs (.ref a) "tuple" := ⟨_,hx,rfl⟩;have f4:=Zes
 repeat (any_goals (first|assumption|with_reducible apply ZgT hh|wp_step))
 decide +kernel
theorem ZcS:typeLookup (.type "tuple") "__getattr__" = pure none:=by rw[typeLookup_type,builtinLookup_eq_fast];kernel_rfl
theorem Zdd{tk:Tok}{R:Result->Shared->Prop}{its:Array Value}{n:Nat}{sl:Array (Option Value)}(hh:A.handled=none)(hx:h.get? a=some { cls:=.type "tuple",dict:=none,data:=.seq its n,slots:=sl }) (hq:∀(x:Addr)(h':Heap)(tk:Nat),(∀b u,h.get? b=some u->h'.get? b=some u)->(∃ob,h'.get? x=some ob/\ob.cls=.type "AttributeError")->h.objs.size<=h'.objs.size->R (.error (.ref x)) ⟨h',g,d,tk,os⟩) :
  codeAny (model prog w) A (.call (.builtin "tuple.__getattribute__") ⟨[.ref a,.str "keys" tk],[]⟩) R ⟨h,g,d,t,os⟩ :=
 codeAny_call_builtin F.slot_tuple_getattribute.plain F.entry_tuple_ga (F.slot_tuple_getattribute.check _ _ _ _ _ _ _ _ (show(⟨h,g,d,t,os⟩:Shared).TypeIs (.ref a) "tuple" from⟨_,hx,rfl⟩) (F.args_tuple_getattribute_2 _ _) (ZcU hh hx hq))
theorem Zet{tk:Tok}{Q:Value->Shared->Prop}{its:Array Value}{n:Nat}{sl:Array (Option Value)}(hh:A.handled=none)(hx:h.get? a=some { cls:=.type "tuple",dict:=none,data:=.seq its n,slots:=sl }) (hq:∀(x:Addr)(h':Heap)(tk:Nat),(∀b u,h.get? b=some u->h'.get? b=some u)->(∃ob,h'.get? x=some ob/\ob.cls=.type "AttributeError")->h.objs.size<=h'.objs.size->E (.ref x) ⟨h',g,d,tk,os⟩) :
  wpAny (model prog w) A (getAttrBy (.ref a) (.str "keys" tk) false) Q E ⟨h,g,d,t,os⟩:=by
 have hT:(⟨h,g,d,t,os⟩:Shared).TypeIs (.ref a) "tuple" := ⟨_,hx,rfl⟩;have f2:=F.slot_tuple_getattribute.lookup;have f3:=F.slot_tuple_getattribute.bind (.ref a);have f4:=ZcS
 repeat (any_goals (first|assumption|wp_step))
 refine Zdd hh hx fun x h' tk' k1 k2 k3=>?_;obtain⟨ob,e2,c2⟩:=k2;dsimp only;unfold getattributeRaised;refine wpAny_bind (wpAny_isInstance (T := "AttributeError") (b:=true) ⟨ob,e2,c2⟩ Zbj ?_);rw[if_pos rfl];unfold hookBehind;rw[if_neg (by decide)];refine wpAny_bind (wpAny_of_eq f4 ?_);unfold hookOrError attributeErrorLeaves;dsimp only;rw[if_pos (by decide)];exact wpAny_bind (wpAny_throw (hq x h' tk' k1 ⟨ob,e2,c2⟩ k3))
theorem Zdl{Q:Option Value->Shared->Prop}{its:Array Value}{n:Nat}{sl:Array (Option Value)}(hh:A.handled=none)(hx:h.get? a=some { cls:=.type "tuple",dict:=none,data:=.seq its n,slots:=sl }) (hq:∀(h':Heap)(tk:Nat),(∀b u,h.get? b=some u->h'.get? b=some u)->h.objs.size<=h'.objs.size->Q none ⟨h',g,d,tk,os⟩) :
  wpAny (model prog w) A (getAttr? (.ref a) "keys") Q E ⟨h,g,d,t,os⟩:=by
 unfold getAttr? getAttrBy?
 repeat (any_goals (first|assumption|with_reducible apply Zet hh hx|wp_step))
 intro x h' tk' k1 k2 k3;obtain⟨ob,e2,c2⟩:=k2;dsimp only;refine wpAny_bind (wpAny_isInstance (T := "AttributeError") (b:=true) ⟨ob,e2,c2⟩ Zbj ?_);rw[if_pos rfl];exact wpAny_pure (hq h' tk' k1 k3)
end
section
variable{prog:Program}{w:World}{K:Type}[DecidableEq K]{knd:KeyKind prog w K}{A:Around}{E:Value->Shared->Prop}{R:Result->Shared->Prop}
set_option maxHeartbeats 1000000 in
theorem Zgv{h0:Heap}{D I l:Addr}{items:Array Value}{ps:List (K×Value)}(hh:A.in1.handled=none)(ht:Zhq knd h0 D items ps)(hDI:D<I)(hlI:l≠I)(hn:items.size<=100000):∀(k i:Nat)(j:Int)(jt:Tok)(s:Shared),items.size-i=k->i<=items.size->(s.heap.IsTupleIter I l i/\s.heap.IsTuple l items)->l<D->s.heap.DictOf knd D (merged [] (ps.take i))->(∀b o,b<D->h0.get? b=some o->s.heap.get? b=some o) ->
   (∀h' tk,h'.DictOf knd D (merged [] ps)->(∀b o,b<D->h0.get? b=some o->h'.get? b=some o)->R (.ok (.ret .none)) { s with heap:=h',toks:=tk })->codeAny (model prog w) A (.builtin "dict.update.loop" ⟨[.ref D,.ref I,.int j jt,.none],[]⟩) R s:=by
 have W:=Walks.tuple (prog:=prog) (w:=w) (A:=A.in1) hh I l hlI items;have DK:∀{h h':Heap}{kvs:List (K×Value)},h.DictOf knd D kvs->(∀b o,b<=D->h.get? b=some o->h'.get? b=some o)->h'.DictOf knd D kvs:=fun{h h' kvs} ⟨o,es,ep,ho,r⟩ hk=>⟨o,es,ep,hk D o (Nat.le_refl _) ho,r⟩;intro k
 induction k with
 | zero =>
  intro i j jt s hk hi hst hlD hd hb hR;obtain rfl:i=items.size:=by lia
  refine codeAny_builtin ZaR ?_;rw[Around.under_plainId Zag _];change wpAny _ A.in1 (pyNext (.ref I) >>= _) _ _ s;refine wpAny_bind (W.done s _ _ hst fun h' tk hm=>?_);change wpAny _ A.in1 (Builtin.Dict.addKeywords D [] >>= fun _=>ret Value.none) _ _ _;refine wpAny_bind ?_;unfold Builtin.Dict.addKeywords;refine wpAny_pure (wpAny_pure ?_);rw[ht.1,List.take_length] at hd;exact hR h' tk (DK hd fun b o hb' e=>hm b o (fun z=>Nat.lt_irrefl _ (Nat.lt_of_le_of_lt (List.mem_singleton.mp z ▸ hb') hDI)) e) fun b o hb' e=>hm b o (fun z=>Nat.lt_irrefl _ (Nat.lt_trans (List.mem_singleton.mp z ▸ hb') hDI)) (hb b o hb' e)
 | succ k ih =>
  intro i j jt s hk hi hst hlD hd hb hR;have hlt:i<items.size:=by lia
  refine codeAny_builtin ZaR ?_;rw[Around.under_plainId Zag _];change wpAny _ A.in1 (pyNext (.ref I) >>= _) _ _ s;refine wpAny_bind (W.item i s _ _ hlt hst fun v h' tk hP hst' hm=>?_);have hd':h'.DictOf knd D (merged [] (ps.take i)):=DK hd fun b o hb' e=>hm b o (fun z=>Nat.lt_irrefl _ (Nat.lt_of_le_of_lt (List.mem_singleton.mp z ▸ hb') hDI)) e;have hb1:∀b o,b<D->h0.get? b=some o->h'.get? b=some o:=fun b o hb' e=>hm b o (fun z=>Nat.lt_irrefl _ (Nat.lt_trans (List.mem_singleton.mp z ▸ hb') hDI)) (hb b o hb' e);have hpl:i<ps.length:=by have:=ht.1;lia
  have hp:=ht.2 i v ps[i] hP (List.getElem?_eq_getElem hpl) h' hb1;refine wpAny_bind (wpAny_holding (wpAny_bind (wpAny_tryCatch (pair_items (s:={ s with heap:=h',toks:=tk }) hp fun uk huk=>?_))));dsimp only;have hml:(merged [] (ps.take i)).length<=sizeLine:=by
   have:=merged_length_le ([]:List (K×Value)) (ps.take i);rw[List.length_take] at this;have h0l:([]:List (K×Value)).length=0:=rfl;have:=ht.1;rw[sizeLine_eq];lia
  refine wpAny_holding (wpAny_dictSet_pairs (s:={ s with heap:=h',toks:=tk }) (hsz:=hml) huk hd' fun h2 hd2 sb=>?_);have hk2:∀b o,b≠D->h'.get? b=some o->h2.get? b=some o:=fun b o hb e=>(sb.2 b hb).trans e;refine wpAny_pure ⟨plainId_quiet Zag _,ih (i+1) (j+1) 0 _ (by lia) hlt ?_ hlD ?_ (fun b o hb' e=>hk2 b o (Nat.ne_of_lt hb') (hb1 b o hb' e)) fun h3 tk3 hw3 hb3=>hR h3 tk3 hw3 hb3⟩
  ·refine W.frame _ h' h2 hst' fun b hb o e=>hk2 b o (fun z=>?_) e;simp only[List.mem_cons,List.not_mem_nil,or_false] at hb;rcases hb with rfl|rfl
   ·exact Nat.lt_irrefl _ (z ▸ hDI)
   ·exact Nat.lt_irrefl _ (z ▸ hlD)
  ·rw[merged_take_succ [] ps i ps[i] (List.getElem?_eq_getElem hpl)];exact hd2
set_option maxHeartbeats 1000000 in
theorem ZcT{s:Shared}{l:Addr}{items:Array Value}{n:Nat}{sl:Array (Option Value)}{ps:List (K×Value)}{Q:Value->Shared->Prop}(hh:A.handled=none)(hl:s.heap.get? l=some { cls:=.type "tuple",dict:=none,data:=.seq items n,slots:=sl }) (ht:Zhq knd s.heap s.heap.objs.size items ps) (hn:items.size<=100000)
  (q:∀(h':Heap)(tk:Nat),h'.DictOf knd s.heap.objs.size (merged [] ps)->(∀b o,s.heap.get? b=some o->h'.get? b=some o)->Q (.ref s.heap.objs.size) { s with heap:=h',toks:=tk }) :
  wpAny (model prog w) A (call (.type "dict") [.ref l]) Q E s:=by
 refine callType_codes (Q₁ := fun obj s₁=>obj=.ref s.heap.objs.size/\s₁ = { s with heap:=s.heap.push { cls:=.type "dict",data:=.dict #[] } }) F.kt_called_dict (F.kt_typeCall_dict_1 _) F.entry_dict_init (kt_code_dict_new _ ⟨rfl,rfl⟩) ?_;rintro obj s₁ ⟨rfl,rfl⟩;have hnew:(s.heap.push { cls:=.type "dict",data:=.dict #[] }).DictOf knd s.heap.objs.size []:=Heap.DictOf.new s.heap;have hl1:(s.heap.push { cls:=.type "dict",data:=.dict #[] }).get? l=some { cls:=.type "tuple",dict:=none,data:=.seq items n,slots:=sl }:=Heap.get?_push_of_some _ hl;have hlD:l<s.heap.objs.size:=Heap.lt_size hl;have k0:∀b o,b<s.heap.objs.size->s.heap.get? b=some o->(s.heap.push { cls:=.type "dict",data:=.dict #[] }).get? b=some o:=fun b o _ e=>Heap.get?_push_of_some _ e;have z0:(s.heap.push { cls:=.type "dict",data:=.dict #[] }).objs.size=s.heap.objs.size+1:=Heap.size_push ..;refine⟨hnew.typeIs,F.args_dict_init_2 _ _,?_⟩;generalize s.heap.push { cls:=.type "dict",data:=.dict #[] }=h1 at hnew hl1 k0 z0;unfold Builtin.«dict.__init__»;refine wpAny_bind ?_;unfold Builtin.Dict.selfAndRest;refine wpAny_bind (wpAny_notOrdered_dict hnew.typeIs ?_);show wpAny _ _ (pure (s.heap.objs.size,[Value.ref l])) _ _ _;refine wpAny_pure ?_;show wpAny _ _ (Builtin.Dict.updateFrom "dict.__init__" s.heap.objs.size (.ref l) [] .none) _ _ _;unfold Builtin.Dict.updateFrom;refine wpAny_bind (wpAny_typeOf (T := "tuple") ⟨_,hl1,rfl⟩ ?_);rw[if_pos (by decide)];refine wpAny_bind (Zdl hh hl1 fun h2 tk2 k2 z2=>?_);rw[if_pos (show(none:Option Value).isNone=true from rfl)];refine wpAny_bind (wpAny_rule ?_);have hl2:=k2 _ _ hl1;have hL2:h2.IsTuple l items:=⟨_,hl2,rfl,n,rfl⟩;refine wpAny_bind (wpAny_pyIter_tuple hL2 ?_);have hd2:h2.DictOf knd s.heap.objs.size []:=let ⟨o,es,ep,ho,r⟩:=hnew;⟨o,es,ep,k2 _ _ ho,r⟩;have hd3:(h2.push { cls:=.type "tuple_iterator",data:=.fields #[.ref l,.int 0 0] }).DictOf knd s.heap.objs.size []:=hd2.push _;have hsz:s.heap.objs.size<h2.objs.size:=by lia
 refine wpAny_pure ⟨plainId_quiet Zag _,?_⟩;refine Zgv (knd:=knd) (h0:=s.heap) (by simpa using hh) ht hsz (Nat.ne_of_lt (Nat.lt_trans hlD hsz)) hn (items.size-0) 0 0 0 _ rfl (Nat.zero_le _) ⟨⟨_,Heap.get?_push_size _ rfl,rfl,rfl⟩,hL2.push _⟩ hlD hd3 (fun b o hb e=>Heap.get?_push_of_some _ (k2 _ _ (k0 b o hb e))) fun h' tk hd' hb'=>?_;exact⟨rfl,q h' tk hd' fun b o e=>hb' b o (Heap.lt_size e) e⟩
end
end Srd
namespace L2
open PySem PySem.Spec PyProof.Rows
section
variable{X:Cx}
theorem Zeg(hc:X.calm=true):Zbk X (.type "dict") (fun xs H Q=>∃l ob ys kvs,xs=[.ref l]/\H l=some (.frz ob (.tup ys))/\ob.dict=none/\ys.length<=90000/\Paired (fun(y:V)(kv:Key×V)=>∃t,y=.ref t/\H t=some (.tup [kV kv.1,kv.2])) ys kvs/\∀d,H d=none->Q (.ref d) (upd H d (.dK (putAll kvs)))):=by
 intro pins s σ H xs us Q I r h;obtain⟨l,ob,ys,kvs,rfl,hq,hdi,hlen,hp,q⟩:=h;obtain⟨u,rfl,ru⟩:=vals1 r;cases ru;obtain⟨ho,hz,its,rv,o,ho2,ocl,n,oda⟩:=I.hok l _ hq;have hl:=rv.length;obtain rfl:o=ob:=Option.some.inj (ho2.symm.trans ho);clear ho2;obtain⟨ocls,odict,odata,oslots⟩:=o;simp only at ocl hdi oda;subst ocl hdi oda;have key:∀{ys:List V}{kvs:List (Key×V)}{its:List Value},Paired (fun(y:V)(kv:Key×V)=>∃t,y=.ref t/\H t=some (.tup [kV kv.1,kv.2])) ys kvs->Vals ys its->∃ps:List (Key×Value),KV kvs ps/\its.length=ps.length/\∀(i:Nat) v p,its[i]?= some v->ps[i]?= some p->Srd.ZhP (ZaB X.prog X.w) s.heap v p.1 p.2:=by
  intro ys kvs its hp
  induction hp generalizing its with
  | nil =>
   intro rv;cases rv;exact⟨[],.nil,rfl,fun i v p h=>(nomatch h)⟩
  | @cons y kv ys kvs r t ih =>
   intro rv;cases rv with
   | @cons _ v _ its ry rr =>
    obtain⟨ps,h1,h2,h3⟩:=ih rr;obtain⟨ta,rfl,ht⟩:=r;obtain rfl:v=Value.ref ta:=ry;obtain⟨_,us,rus,o,ho,hc',n,hd⟩:=I.hok ta _ ht;obtain⟨u1,u2,rfl,r1,r2⟩:=Vals.two rus;refine⟨(kv.1,u2)::ps,.cons ⟨rfl,r2⟩ h1,by rw[List.length_cons,List.length_cons,h2],fun i v p e1 e2=>?_⟩;cases i with
    | zero =>
     injection e1 with e1;injection e2 with e2;subst e1 e2;exact⟨ta,o,n,u1,rfl,ho,hc',hd,Zgt r1⟩
    | succ i=>exact h3 i v p e1 e2
 obtain⟨ps,h1,h2,h3⟩:=key hp rv;refine Srd.ZcT (knd:=ZaB X.prog X.w) (ps:=ps) (I.ok.hd hc) ho ⟨by rw[List.size_toArray];exact h2,fun i v p e1 e2 h' hk=>?_⟩ (by rw[List.size_toArray];lia) fun h' tk hd' hk=>?_
 ·obtain⟨b,o,n,uk,e,ho2,r⟩:=h3 i v p (by rw[<- e1];simp) e2;exact⟨b,o,n,uk,e,hk b o (Heap.lt_size ho2) ho2,r⟩
 ·have hkl:kvs.length=ps.length:=h1.length;have hpl:=ZgH kvs;exact⟨.ref _,_,I.laid (t':=tk) (fun b o e=>hk b o e) (Nat.le_refl _) (show ZaA X.prog X.w _ h' _ (.dK (putAll kvs)) from⟨by rw[sizeLine_eq];lia,beq_eq_false_iff_ne.mpr (Ne.symm (Nat.ne_of_lt I.big)),_,Zjf h1 .nil,hd'⟩),rfl,q _ (I.hok.fresh (Nat.le_refl _))⟩
end
end L2
namespace L2
open PySem PySem.Spec PyProof.Rows PySem.SeqAt
def ZlQ(K:PySem.W.Frag)(l p:Addr)(xs:List V)(Q:VK)(W:Nat->Addr->Hp->Prop):Prop :=
 ∀i t H1,W i t H1->H1 p=some (.lst [.ref t])/\SqL K H1 l xs /\
  ((xs.length=i/\Q (.ref t) H1)\/∃xi,xs[i]?= some xi/\Zl4 (.ref t) xi H1 (fun r H2=>H2 p=some (.lst [.ref t])/\∃r',r=.ref r'/\W (i+1) r' (upd H2 p (.lst [r]))))
section
variable{X:Cx}{pins:List (Addr×Obj)}{σ : St}{H:Hp}{s:Shared}{Q:VK}{l p it:Addr}{xs:List V}{W:Nat->Addr->Hp->Prop}
theorem ZjM{x y:V}{u v:Value}{i:Nat}{Q2:VK}{Q':Value->Shared->Prop}(I:Inv (Zbi X) pins σ H s)(st:s.heap.IsListIter it l i)(hf:Zcx (Zbi X) pins H it)
  (rx:RelV x u) (ry:RelV y v) (h:Zl4 x y H Q2) (hQ:∀v kx s' H',Inv (Zbi X) pins σ H' s'->s'.heap.IsListIter it l i->Zcx (Zbi X) pins H' it->RelV kx v->Q2 kx H'->Q' v s') :
  wpAny (model X.prog X.w) X.A.in1 (binaryOp .Add u v) Q' no0 s:=by
 obtain⟨o,e,hd,back⟩:=ZeF st;have I':Inv (Zbi X) (pins ++ [(it,o)]) σ H s:=I.pins_of fun q hq=>(List.mem_append.mp hq).elim (fun z=>I.pin q (List.mem_append_right _ z)) fun z=>by
  rw[List.mem_singleton.mp z];exact⟨e,hf.1,hf.2.1,hf.2.2.1,hd⟩
 refine thn (ZbE (X:=Zbi X) (pins ++ [(it,o)]) s σ H x y u v Q2 I' rx ry h) fun v s' ⟨kx,H',I2,rk,q⟩=>?_;have pn:=I2.pin (it,o) (List.mem_append_right _ (List.mem_append_right _ (List.mem_singleton.mpr rfl)));exact hQ v kx s' H' I2.unpinned (back _ pn.1) ⟨pn.2.1,hf.2⟩ rk q
theorem ZiS(hc:X.calm=true)(ok:X.Ok)(hW:ZlQ X.K l p xs Q W) :
  ∀(r i:Nat)(t:Addr)(H:Hp)(s:Shared),xs.length-i=r->W i t H->Inv (Zbi X) pins σ H s->s.heap.IsListIter it l i->Zcx (Zbi X) pins H it ->
   codeAny (model X.prog X.w) X.A (.builtin "sum.loop" ⟨[.ref it,.ref p,rawInt 2,rawInt 0],[]⟩) (Zmw X pins σ Q) s:=by
 intro r
 induction r with
 | zero =>
  intro i t H s hr0 w I st hf;obtain⟨hp,hq,alt⟩:=hW i t H w;obtain⟨_,its,n,rv,_,e⟩:=I.lstM hp;obtain⟨ub,rfl,rb⟩:=vals1 rv;obtain rfl:ub=Value.ref t:=rb;refine codeAny_builtin PySem.F.entry_sum_loop ?_;rw[Around.under_plainId PySem.F.plain_sum_loop _];show wpAny _ X.A.in1 (seqItems? (.ref p) >>= _) _ _ _;refine wpAny_bind (wpAny_seqItems e rfl ?_);show wpAny _ X.A.in1 (tryCatch (pyNext (.ref it)) _ >>= _) _ _ _;rcases alt with⟨hl,q⟩|⟨xi,hx,_⟩
  ·refine wpAny_bind (wpAny_tryCatch (Zj8 hc I st hq (by lia) hf fun s1 I1=>?_));exact wpAny_pure ⟨.ref t,H,Inv.out1 ok I1,rfl,q⟩
  ·have:=(List.getElem?_eq_some_iff.mp hx).1;lia
 | succ r ih =>
  intro i t H s hr0 w I st hf;obtain⟨hp,hq,alt⟩:=hW i t H w;obtain⟨_,its,n,rv,_,e⟩:=I.lstM hp;obtain⟨ub,rfl,rb⟩:=vals1 rv;obtain rfl:ub=Value.ref t:=rb;refine codeAny_builtin PySem.F.entry_sum_loop ?_;rw[Around.under_plainId PySem.F.plain_sum_loop _];show wpAny _ X.A.in1 (seqItems? (.ref p) >>= _) _ _ _;refine wpAny_bind (wpAny_seqItems e rfl ?_);show wpAny _ X.A.in1 (tryCatch (pyNext (.ref it)) _ >>= _) _ _ _;rcases alt with⟨hl,q⟩|⟨xi,hx,hsp⟩
  ·lia
  ·refine wpAny_bind (wpAny_tryCatch (ZiU I st hq hx hf fun u s1 I1 st1 ru=>?_));show wpAny _ X.A.in1 ((holding [u] (binaryOp .Add (.ref t) u)).attempt >>= _) _ _ _;refine wpAny_bind (wpAny_attempt (wpAny_holding (wpAny_mono (ZjM I1 st1 hf (x:=.ref t) (y:=xi) rfl ru hsp (Q':=fun v s'=>∃r' H',v=Value.ref r'/\Inv (Zbi X) pins σ H' s'/\s'.heap.IsListIter it l (i+1)/\Zcx (Zbi X) pins H' it/\H' p=some (.lst [.ref t])/\W (i+1) r' (upd H' p (.lst [.ref r'])))
    fun v kx s' H' a b c d e'=>?_) (fun v s2 h2=>?_) fun _ _ hF=>hF.elim)))
   ·obtain⟨e1,r',rfl,e2⟩:=e';exact⟨r',H',d,a,b,c,e1,e2⟩
   obtain⟨r',H2,rfl,I2,st2,hf2,hp2,w2⟩:=h2;obtain⟨_,its2,n2,rv2,_,e2⟩:=I2.lstM hp2;show wpAny _ X.A.in1 (updateSeq p (fun _=>#[Value.ref r']) >>= _) _ _ _;refine wpAny_bind (wpAny_updateSeq e2 rfl ?_);have I3:=I2.lset (f:=fun _=>#[Value.ref r']) (t':=s2.toks) (its':=[Value.ref r']) hp2 e2 rfl (.cons (show RelV (.ref r') (.ref r') from rfl) .nil) (by show 1<=sizeLine;decide);refine wpAny_bind (wpAny_letGo ?_);have hp3:(upd H2 p (.lst [.ref r'])) p=some (.lst [.ref r']):=Zb;obtain⟨_,its3,n3,rv3,_,e3⟩:=I3.lstM hp3;refine wpAny_bind (wpAny_updateSeq e3 rfl ?_);have I4:=I3.lset (f:=fun _=>#[Value.ref r']) (t':=s2.toks) (its':=[Value.ref r']) hp3 e3 rfl (.cons (show RelV (.ref r') (.ref r') from rfl) .nil) (by show 1<=sizeLine;decide);have eu:upd (upd H2 p (.lst [.ref r'])) p (.lst [.ref r'])=upd H2 p (.lst [.ref r']):=by
    funext b
    by_cases z:b=p
    ·rw[z,Zb,Zb]
    ·rw[Zu z]
   rw[eu] at I4;refine wpAny_pure ⟨plainId_quiet PySem.F.plain_sum_loop _,ih (i+1) r' _ _ (by lia) w2 I4 ?_ (ZkA hf2 ⟨_,hp2⟩)⟩;obtain⟨o,eo,_,back⟩:=ZeF st2;have ne:=Zq hp2 hf2.1;exact back _ ((Heap.get?_update_other _ _ ne).trans ((Heap.get?_update_other _ _ ne).trans eo))
theorem ZhA(a b:Value):argsOk "sum" ⟨[a,b],[]⟩:=by unfold argsOk;kernel_rfl
theorem ZdO(hc:X.calm=true):Zbk X (.builtin "sum") (fun xs H Q=>∃(a z:Addr)(ys:List V)(z0:List V),xs=[.ref a,.ref z]/\SqL X.K H a ys/\H z=some (.lst z0)/\∀p,H p=none->∃W:Nat->Addr->Hp->Prop,W 0 z (upd H p (.lst [.ref z]))/\ZlQ X.K a p ys Q W):=by
 intro pins s σ H xs us Q I r h;obtain⟨a,z,ys,z0,rfl,hq,hz,alt⟩:=h;obtain⟨u,v,rfl,ru,rv0⟩:=Vals.two r;obtain rfl:u=Value.ref a:=ru;obtain rfl:v=Value.ref z:=rv0;obtain⟨its,rv,pl,hzl⟩:=I.list hq;obtain⟨_,itz,nz,rz,hlz,ez⟩:=I.lstM hz;refine call_function_tree PySem.F.kind_sum PySem.F.plain_sum PySem.F.entry_sum (ZhA _ _) ?_;unfold Builtin.«sum»;simp only[List.length_cons,List.length_nil];rw[if_neg (by decide)];refine wpAny_bind (wpAny_of_eq (show Builtin.Builtins.bindParams "sum" ["start"] 0 ⟨[.ref z],[]⟩=pure [some (.ref z)] from rfl) ?_);refine wpAny_bind (wpAny_pyIter_list pl.isList ?_);refine wpAny_bind (wpAny_pure ?_);have hS:(s.heap.push { cls:=.type "list_iterator",data:=.fields #[.ref a,.int 0 0] }).objs.size=s.heap.objs.size+1:=size_push' ..;have tl:∀tk,({ s with heap:=s.heap.push { cls:=.type "list_iterator",data:=.fields #[.ref a,.int 0 0] },toks:=tk }:Shared).TypeIs (.ref z) "list" := fun tk=>⟨_,Heap.get?_push_of_some _ ez,rfl⟩;simp only[List.forIn_cons,List.forIn_nil];refine wpAny_bind (wpAny_bind (wpAny_bind (wpAny_isInstance (T := "list") (b:=false) (tl _) F.sub_list_str ?_)));simp only[Bool.false_eq_true,if_false];refine wpAny_pure (wpAny_bind (wpAny_bind (wpAny_isInstance (T := "list") (b:=false) (tl _) F.sub_list_bytes ?_)));simp only[Bool.false_eq_true,if_false];refine wpAny_pure (wpAny_bind (wpAny_bind (wpAny_isInstance (T := "list") (b:=false) (tl _) F.sub_list_bytearray ?_)));simp only[Bool.false_eq_true,if_false];refine wpAny_pure (wpAny_pure ?_);refine wpAny_bind (wpAny_newList ?_ (by show 1<=sizeLine;decide));refine wpAny_pure ⟨plainId_quiet PySem.F.plain_sum_loop _,?_⟩;have I0:Inv (Zbi X) pins σ H { s with heap:=s.heap.push { cls:=.type "list_iterator",data:=.fields #[.ref a,.int 0 0] },toks:=s.toks }:=I.in1.kept fun b o e=>Heap.get?_push_of_some _ e;have I1:=I0.lnew (its:=[.ref z]) (t':=s.toks) (.cons (show RelV (.ref z) (.ref z) from rfl) .nil) (by show 1<=sizeLine;decide);have fr:H (s.heap.push { cls:=.type "list_iterator",data:=.fields #[.ref a,.int 0 0] }).objs.size=none:=I0.fresh;have ne:s.heap.objs.size≠(s.heap.push { cls:=.type "list_iterator",data:=.fields #[.ref a,.int 0 0] }).objs.size:=by rw[hS];exact Nat.ne_of_lt (Nat.lt_succ_self _)
 have hf:Zcx (Zbi X) pins (upd H (s.heap.push { cls:=.type "list_iterator",data:=.fields #[.ref a,.int 0 0] }).objs.size (.lst [.ref z])) s.heap.objs.size:=I.in1.fpOk (Nat.le_refl _) (by rw[Zu ne];exact I.fresh);have st:((s.heap.push { cls:=.type "list_iterator",data:=.fields #[.ref a,.int 0 0] }).push { cls:=.type "list",data:=.seq ([.ref z]:List Value).toArray }).IsListIter s.heap.objs.size a 0:=⟨_,Heap.get?_push_of_some _ (Heap.get?_push_size _ rfl),rfl,rfl⟩;obtain⟨W,w0,hW⟩:=alt _ fr;exact ZiS hc I.ok hW _ 0 z _ _ rfl w0 I1 st hf
end
end L2
namespace L2
open PySem PySem.Spec PyProof.Rows
section
variable{X:Cx}
theorem ZiC:MtM X "str.lower" (fun x vs H Q=>∃z y:Str,x=.str z/\vs=[]/\Txt.lower z=y/\y.length<=100000/\Q (.str y) H):=by
 intro pins s σ H x vs v us Q I rx rv h;obtain⟨z,y,rfl,rfl,rfl,hz,q⟩:=h;obtain⟨t,rfl⟩:=rx;have hus:=rv.zero;subst hus;exact call_gives PySem.F.slot_str_lower (typeIs_str _ _ _) PySem.F.entry_str_lower (PySem.F.args_str_lower_1 _) (gives_str_lower z t (by
  have hz:(Txt.lower z).length<=100000:=hz;exact decide_eq_false (Nat.not_lt.mpr (Fg.Z9 hz)))) ⟨Fg.Z9 hz,.str _,H,I.tok _,⟨_,rfl⟩,q⟩
theorem Zib:Txt.lower (Str.ofString "ABCDEFGHIJKLMNOPQRSTUVWXYZ")=Str.ofString "abcdefghijklmnopqrstuvwxyz" := by decide +kernel
end
section
variable{X:Cx}{e:Expr}{te:TE}{pos p2 p3 p4:Pos}{j:Nat}{es:List Expr}{t:TA}
def Zll(t:TA):TE:=fun σ H Q=>t σ H fun xs H1=>xs.length<=sizeLine/\∀p (o:Obj),H1 p=none->o.dict=none->Q (.ref p) (upd H1 p (.frz o (.tup xs)))
theorem ZjJ{x1}(h:PA X es t):PE X (.Tuple es x1 pos) (Zll t):=by
 intro pins s σ H Q I hq;refine wpAny_Tuple_spliced (thn (h pos pins s σ H _ I hq) fun us s1 ⟨xs,H1,I1,r,z,q⟩=>⟨by rw[<- r.length];exact z,?_⟩);have hf:H1 s1.heap.objs.size=none:=I1.hok.fresh (Nat.le_refl _);refine⟨.ref s1.heap.objs.size,upd H1 s1.heap.objs.size (.frz { cls:=.type "tuple",data:=.seq us.toArray } (.tup xs)),I1.laid (t':=s1.toks) (fun b u e=>Heap.get?_push_of_some _ e) (Nat.le_refl _) ?_,rfl,q _ _ hf rfl⟩;exact(show ZaA X.prog X.w _ _ _ (.frz { cls:=.type "tuple",data:=.seq us.toArray } (.tup xs)) from⟨Heap.get?_push_size _ rfl,z,us,r,IsTup.new _ _⟩)
def Zlf(K:PySem.W.Frag):V->Hp->VK->Prop:=fun x H Q=>∃a xs,x=.ref a/\SqT K H a xs/\∀p (o:Obj),H p=none->o.dict=none->Q (.ref p) (upd H p (.frz o (.tup xs.reverse)))
theorem ZiI(he:PE X e te):PE X (.Subscript e (.Slice none none (some (.UnaryOp .USub (.Constant (.int 1) j p4) p3)) p2) pos) (tUn (Zlf X.K) te):=by
 intro pins s σ H Q I h;refine Subscript_ (thn (he pins s σ H _ I h) fun v s1 ⟨x,H1,I1,r1,q1⟩=>?_);obtain⟨a,xs,rfl,hx,q⟩:=q1;cases r1;refine wpAny_Slice (thn (Zbv pins s1 σ H1 (fun o H'=>o=none/\H'=H1) I1 ⟨rfl,rfl⟩) fun vl s2 ⟨l,H2,I2,pl,el,eh⟩=>?_);subst el eh;refine thn (Zbv pins s2 σ H2 (fun o H'=>o=none/\H'=H2) I2 ⟨rfl,rfl⟩) fun vu s3 ⟨u,H3,I3,pu,el,eh⟩=>?_;subst el eh;refine thn (ZbC (Zlp Zja Ze) pins s3 σ H3 (fun o H'=>o=some (-1)/\H'=H3) I3 ⟨1,rfl,-1,rfl,rfl,rfl⟩) fun vt s4 ⟨o,H4,I4,pt,el,eh⟩=>?_;subst el eh;have I5:Inv X pins σ H4 { s4 with heap:=s4.heap.push { cls:=.type "slice",data:=.fields #[vl,vu,vt] } }:=I4.kept (t':=s4.toks) fun b ob q=>Heap.get?_push_of_some _ q;obtain⟨its,r,ht,hz⟩:=I5.tuple hx;have hlen:=r.length;show wpAny (model X.prog X.w) X.A (subscriptTail e (.Slice none none (some (.UnaryOp .USub (.Constant (.int 1) j p4) p3)) p2) (.ref a) (.ref s4.heap.objs.size)) (EP X pins σ Q) X.xe { s4 with heap:=s4.heap.push { cls:=.type "slice",data:=.fields #[vl,vu,vt] } };refine tail_any (ops:=[.ref a,.ref s4.heap.objs.size]) ht.typeIs PyProof.Rows.slot_tuple_getitem.lookup (HT.ZcK ht (Heap.IsSliceOf.new ..) pl pu pt ?_ (by lia)) (by with_unfolding_all rfl)
 refine⟨.ref _,_,I5.laid (t':=s4.toks) (o:=.frz { cls:=.type "tuple",data:=.seq its.reverse.toArray } (.tup xs.reverse)) (fun b ob q=>Heap.get?_push_of_some _ q) (Nat.le_refl _) ?_,rfl,q _ _ (I5.hok.fresh (Nat.le_refl _)) rfl⟩;exact⟨Heap.get?_push_size _ (by first|rfl|simp),by rw[List.length_reverse];exact hz,_,r.reverse,IsTup.new _ _⟩
end
end L2
namespace L2
open PySem PySem.Spec PyProof.Rows PyProof PySem.SeqAt
section
variable{X:Cx}{pos:Pos}
def ZlE(i j k:Nat)(ta:TA):TS:=fun D σ H=>ta σ H fun vs H1=>∃v w z,vs=[v,w,z]/\D.nx (((σ.set k (some z)).set j (some w)).set i (some v)) H1
theorem Zkm{i j k:Nat}{x y z:Str}{a b c:Expr}{ta:TA}{px py pz pt:Pos}{kt k2 pt2}(hc:X.calm=true)(hN:X.N.Nodup)(hi:X.N[i]?= some x)(hj:X.N[j]?= some y)(hk:X.N[k]?= some z)
  (hx:X.env.scope.names.lookup x=some .local) (hy:X.env.scope.names.lookup y=some .local) (hz:X.env.scope.names.lookup z=some .local) (ha:PA X [a,b,c] ta)
  (hw:swappedStores [.Tuple [.Name x px,.Name y py,.Name z pz] kt pt] (.Tuple [a,b,c] k2 pt2) X.env=pure (some [x,y,z]))
  (hs:swapsWithSole [.Tuple [.Name x px,.Name y py,.Name z pz] kt pt] (.Tuple [a,b,c] k2 pt2) pos.line X.env=pure false:=by rfl) :
  PS X (.Assign [.Tuple [.Name x px,.Name y py,.Name z pz] kt pt] (.Tuple [a,b,c] k2 pt2) pos) (ZlE i j k ta):=by
 intro pins s σ H D I h;rw[exec_Assign_arm];refine wpAny_bind (wpAny_standAt ?_);rw[hs];refine wpAny_bind (wpAny_pure ?_);rw[if_neg (by decide)];refine wpAny_bind (Tuple_ (thn (ha _ pins s σ H _ I h) fun us s1 ⟨vs,H1,I1,r1,q1⟩=>?_));obtain⟨v,w,m,e1,q1⟩:=q1;subst e1;obtain⟨u1,u2,u3,rfl,rv,rw',rm⟩:∃u1 u2 u3,us=[u1,u2,u3]/\RelV v u1/\RelV w u2/\RelV m u3:=by
  cases r1 with
  | cons p q =>
   cases q with
   | cons p' q' =>
    cases q' with
    | cons p'' q'' =>
     cases q'';exact⟨_,_,_,rfl,p,p',p''⟩
 refine wpAny_newObj_type ?_ (by show 3<=sizeLine;decide);have I2:Inv X pins σ H1 { s1 with heap:=s1.heap.push { cls:=.type "tuple",data:=.seq [u1,u2,u3].toArray } }:=I1.kept (t':=s1.toks) fun b o e=>Heap.get?_push_of_some _ e;rw[hw];refine wpAny_bind (wpAny_pure ?_);show wpAny (model X.prog X.w) X.A (do rule "assign.swapped-stores";let items <- unpackItems (.ref s1.heap.objs.size) 3 none;assignInOrder [fun v=>bindName X.env z v,fun v=>bindName X.env y v,fun v=>bindName X.env x v] items.reverse;pure Flow.next) _ _ _
 refine wpAny_bind (wpAny_rule (wpAny_bind (unpackItems_tuple (items :=#[u1,u2,u3]) (I.ok.hd hc) (IsTup.new s1.heap _) fun h' hx'=>?_)));have I3:=I2.kept (h':=h') (t':=s1.toks) fun b o e=>hx' b o (Nat.ne_of_lt (Heap.lt_size e)) e;show wpAny _ _ (assignInOrder [fun v=>bindName X.env z v,fun v=>bindName X.env y v,fun v=>bindName X.env x v] [u3,u2,u1] >>= fun _=>pure Flow.next) _ _ _
 refine wpAny_bind (assignInOrder_cons (wpAny_bindName (ZbN I3 hN hk (.inl hz) rm (fun s2 I4=>?_) (.inr hz))));refine assignInOrder_cons (wpAny_bindName (ZbN I4 hN hj (.inl hy) rw' (fun s3 I5=>?_) (.inr hy)));refine assignInOrder_cons (wpAny_bindName (ZbN I5 hN hi (.inl hx) rv (fun s4 I6=>assignInOrder_nil (wpAny_pure ?_)) (.inr hx)));exact⟨_,H1,I6,q1⟩
end
end L2
namespace L2
open PySem PySem.Spec PyProof.Rows
section
variable{X:Cx}{e:Expr}{es:List Expr}{te:TE}{ta:TA}{pos:Pos}
theorem Zj9(he:PEi X e te):PSi X (.Return (some e) pos) (ZlD te):=by
 unfold PSi;exact ZC he.to
theorem Ziz{x1:Nat}(h:PAi X es ta):PEi X (.Tuple es x1 pos) (Zll ta):=.of (ZjJ h.to)
theorem Zi1{a b:Expr}{op:Operator}{r:R2}{t1 t2:TE}(ho:OpR X (binaryOp op) r)(ha:PEi X a t1)(hb:PEi X b t2):PEi X (.BinOp a op b pos) (tOp r t1 t2):=.of (ZF ho ha.to hb.to)
theorem Zcz{x:Str}{T:String}{p:Pos}{r:List V->Hp->VK->Prop}(hc:Zbk X (.type T) r)(hg:Gl X x)(hm:X.mg x=none)(hv:bootBuiltins x=some (.type T))(ha:PAi X (e::es) ta)(hn:x ≠ "__name__" := by decide) (hdb:(x == ("__debug__" : Str))=false:=by decide)
  (he:notStar e=true:=by rfl) (hes:es.all notStar=true:=by rfl):PEi X (.Call (.Name x p) (e::es) [] pos) (tCB r ta):=.of (ZaF hc hg hm hv ha.to hn hdb (Zdg es X.env he) (Zf4 X.env pos es hes))
theorem ZgF{st:Stmt}{ss:List Stmt}{t u:TS}(h:PSi X st t)(k:Zh6 X ss u):Zh6 X (st::ss) (Zlx t u):=by
 unfold PSi at h;unfold Zh6 at k ⊢;exact Zd h k
end
end L2
namespace K27
open PySem L2 FgM Fg
def top(i:Nat):Stmt:=PySem.Challenge.pw_formgrove_k27_joints.main.body.getD i (.Pass ⟨0,0,0,0⟩)
abbrev Za4:Stmt:=top 10
abbrev ZaW:Stmt:=top 13
abbrev Z7:Stmt:=inClass (top 14) 0
abbrev Zo:Stmt:=inClass (top 14) 1
abbrev Zw:Stmt:=inClass (top 14) 2
abbrev Zn:Stmt:=inClass (top 14) 3
abbrev Zt:Stmt:=inClass (top 14) 4
abbrev Zak:Stmt:=inClass (top 14) 5
abbrev ZbR:Stmt:=top 16
abbrev ZbS:Stmt:=top 17
abbrev ZbP:Stmt:=top 18
abbrev Zab:Stmt:=top 19
abbrev Zan:Stmt:=top 20
abbrev ZG:Stmt:=top 21
abbrev ZK:Stmt:=top 22
abbrev Zap:Stmt:=top 23
abbrev Zaz:Stmt:=top 24
abbrev Zai:Stmt:=top 25
abbrev ZaS:Stmt:=top 26
abbrev Z8:Stmt:=top 27
abbrev Z3:Stmt:=top 28
abbrev ZaO:Stmt:=top 29
abbrev Zaf:Stmt:=top 30
abbrev ZaJ:Stmt:=top 31
abbrev Zay:Stmt:=top 32
abbrev Zbn:Stmt:=top 33
theorem ZfF:FnScope ["expr"] ["expr"] (Zh Za4):=⟨rfl,rfl,rfl,by decide +kernel,rfl,by decide +kernel,by decide +kernel⟩
theorem Zdh:FnScope ["book","expr","joining","told"] ["book","expr"] (Zh ZaW):=⟨rfl,rfl,rfl,by decide +kernel,rfl,by decide +kernel,by decide +kernel⟩
theorem Zcb:FnScope ["self","names"] ["self","names"] (Zh Z7):=⟨rfl,rfl,rfl,by decide +kernel,rfl,by decide +kernel,by decide +kernel⟩
theorem Zbr:FnScope ["self","expr"] ["self","expr"] (Zh Zo):=⟨rfl,rfl,rfl,by decide +kernel,rfl,by decide +kernel,by decide +kernel⟩
theorem Zbb:FnScope ["self","expr","sort","told"] ["self","expr"] (Zh Zw):=⟨rfl,rfl,rfl,by decide +kernel,rfl,by decide +kernel,by decide +kernel⟩
theorem ZJ:FnScope ["self","parts","free","firsts","lasts","part","told"] ["self","parts"] (Zh Zn):=⟨rfl,rfl,rfl,by decide +kernel,rfl,by decide +kernel,by decide +kernel⟩
theorem ZQ:FnScope ["self","parts","free","firsts","lasts","part","told"] ["self","parts"] (Zh Zt):=⟨rfl,rfl,rfl,by decide +kernel,rfl,by decide +kernel,by decide +kernel⟩
theorem Zbe:FnScope ["self","lasts","firsts","last","first"] ["self","lasts","firsts"] (Zh Zak):=⟨rfl,rfl,rfl,by decide +kernel,rfl,by decide +kernel,by decide +kernel⟩
theorem ZhE:FnScope ["_law_script","_law_state"] ["_law_script","_law_state"] (Zh ZbR):=⟨rfl,rfl,rfl,by decide +kernel,rfl,by decide +kernel,by decide +kernel⟩
theorem ZbF:FnScope ["_law_cell","_law_letters","_law_word_here","_law_k","_law_number"] ["_law_cell","_law_letters"] (Zh ZbS):=⟨rfl,rfl,rfl,by decide +kernel,rfl,by decide +kernel,by decide +kernel⟩
theorem Zde:FnScope ["_law_cell","_law_letters","_law_many","_law_base","_law_at"] ["_law_cell","_law_letters","_law_many"] (Zh ZbP):=⟨rfl,rfl,rfl,by decide +kernel,rfl,by decide +kernel,by decide +kernel⟩
theorem Zbo:FnScope ["_law_script","_law_state","_law_room","_law_names","_law_cell","_law_way","_law_many","_law_parts"] ["_law_script","_law_state","_law_room","_law_names"] (Zh Zab):=⟨rfl,rfl,rfl,by decide +kernel,rfl,by decide +kernel,by decide +kernel⟩
theorem ZaX:FnScope ["_law_script","_law_state","_law_great","_law_cell","_law_many","_law_words","_law_tags","_law_pairs","_law_k"] ["_law_script","_law_state"] (Zh Zan):=⟨rfl,rfl,rfl,by decide +kernel,rfl,by decide +kernel,by decide +kernel⟩
theorem Z5:FnScope ["_law_script","_law_head","_law_many","_law_row","_law_loop","_law_parts","_law_at","_law_inner"] ["_law_script"] (Zh ZG):=⟨rfl,rfl,rfl,by decide +kernel,rfl,by decide +kernel,by decide +kernel⟩
theorem ZaC:FnScope ["_law_cell","_law_pairs","_law_k","_law_word_here"] ["_law_cell"] (Zh ZK):=⟨rfl,rfl,rfl,by decide +kernel,rfl,by decide +kernel,by decide +kernel⟩
theorem ZcC:FnScope ["_law_names","_law_expr","_law_parts"] ["_law_names","_law_expr"] (Zh Zap):=⟨rfl,rfl,rfl,by decide +kernel,rfl,by decide +kernel,by decide +kernel⟩
theorem ZcF:FnScope ["_law_counts_here","_law_expr","_law_parts"] ["_law_counts_here","_law_expr"] (Zh Zaz):=⟨rfl,rfl,rfl,by decide +kernel,rfl,by decide +kernel,by decide +kernel⟩
theorem Za9:FnScope ["_law_book_here","_law_counts_here","_law_turn","_law_name","_law_expr"] ["_law_book_here"] (Zh Zai):=⟨rfl,rfl,rfl,by decide +kernel,rfl,by decide +kernel,by decide +kernel⟩
theorem Zb3:FnScope ["_law_lasts","_law_begun","_law_linked_here","_law_last","_law_first"] ["_law_lasts","_law_begun","_law_linked_here"] (Zh ZaS):=⟨rfl,rfl,rfl,by decide +kernel,rfl,by decide +kernel,by decide +kernel⟩
theorem Zav:FnScope ["_law_names","_law_parts","_law_places","_law_linked_here","_law_free","_law_begun","_law_lasts","_law_part","_law_own","_law_begins","_law_stops"] ["_law_names","_law_parts","_law_places","_law_linked_here"] (Zh Z8):=⟨rfl,rfl,rfl,by decide +kernel,rfl,by decide +kernel,by decide +kernel⟩
theorem Za6:FnScope ["_law_names","_law_expr","_law_places","_law_linked_here","_law_word_here","_law_some","_law_free","_law_begun","_law_lasts"] ["_law_names","_law_expr","_law_places","_law_linked_here"] (Zh Z3):=⟨rfl,rfl,rfl,by decide +kernel,rfl,by decide +kernel,by decide +kernel⟩
theorem Za1:FnScope ["_law_book_here","_law_expr","_law_names","_law_name","_law_some","_law_places","_law_linked_here","_law_free","_law_begun","_law_lasts"] ["_law_book_here","_law_expr"] (Zh ZaO):=⟨rfl,rfl,rfl,by decide +kernel,rfl,by decide +kernel,by decide +kernel⟩
theorem ZdX:FnScope ["_law_told","_law_due_here","_law_k"] ["_law_told","_law_due_here"] (Zh Zaf):=⟨rfl,rfl,rfl,by decide +kernel,rfl,by decide +kernel,by decide +kernel⟩
theorem Za3:FnScope ["_law_book_here","_law_expr","_law_told","_law_refused","e"] ["_law_book_here","_law_expr"] (Zh ZaJ):=⟨rfl,rfl,rfl,by decide +kernel,rfl,by decide +kernel,by decide +kernel⟩
theorem ZbQ:FnScope ["_law_book_here","_law_expr","_law_many","_law_told","_law_refused","_law_k"] ["_law_book_here","_law_expr","_law_many"] (Zh Zay):=⟨rfl,rfl,rfl,by decide +kernel,rfl,by decide +kernel,by decide +kernel⟩
theorem Zb0:FnScope ["_law_script","_law_head","_law_book_here","_law_counts_here","_law_name","_law_expr","_law_more"] ["_law_script"] (Zh Zbn):=⟨rfl,rfl,rfl,by decide +kernel,rfl,by decide +kernel,by decide +kernel⟩
structure XC(K:PySem.W.Frag)(mg:Str->Option Value)(X_GroveError X_TooMany X_BadForm X_NoBook X_NoName X_Ring X_TooBig X_TwiceNamed:Addr):Prop where
 n_GroveError:mg "GroveError" = some (.ref X_GroveError)
 n_TooMany:mg "TooMany" = some (.ref X_TooMany)
 n_BadForm:mg "BadForm" = some (.ref X_BadForm)
 n_NoBook:mg "NoBook" = some (.ref X_NoBook)
 n_NoName:mg "NoName" = some (.ref X_NoName)
 n_Ring:mg "Ring" = some (.ref X_Ring)
 n_TooBig:mg "TooBig" = some (.ref X_TooBig)
 n_TwiceNamed:mg "TwiceNamed" = some (.ref X_TwiceNamed)
 bas:XBas K X_GroveError
 isG:PySem.W.isClsIn K X_GroveError=true
 tyG:PySem.W.typeIn K (.ref X_GroveError)=some (.type "type")
 c_GroveError:XCl K X_GroveError
 c_TooMany:XCl K X_TooMany
 c_BadForm:XCl K X_BadForm
 c_NoBook:XCl K X_NoBook
 c_NoName:XCl K X_NoName
 c_Ring:XCl K X_Ring
 c_TooBig:XCl K X_TooBig
 c_TwiceNamed:XCl K X_TwiceNamed
 top_TooMany:XTop K X_TooMany X_GroveError
 ini_TooMany:PySem.W.findIn K (.ref X_TooMany) "__init__" = some (some (.builtin "ValueError.__init__"))
 mV_TooMany:PySem.W.mroIn K X_TooMany (.type "ValueError")=some true
 ne_TooMany:X_TooMany≠X_GroveError
 m_TooMany_GroveError:PySem.W.mroIn K X_TooMany (.ref X_GroveError)=some true
 m_TooMany_TooMany:PySem.W.mroIn K X_TooMany (.ref X_TooMany)=some true
 m_TooMany_BadForm:PySem.W.mroIn K X_TooMany (.ref X_BadForm)=some false
 m_TooMany_NoBook:PySem.W.mroIn K X_TooMany (.ref X_NoBook)=some false
 m_TooMany_NoName:PySem.W.mroIn K X_TooMany (.ref X_NoName)=some false
 m_TooMany_Ring:PySem.W.mroIn K X_TooMany (.ref X_Ring)=some false
 m_TooMany_TooBig:PySem.W.mroIn K X_TooMany (.ref X_TooBig)=some false
 m_TooMany_TwiceNamed:PySem.W.mroIn K X_TooMany (.ref X_TwiceNamed)=some false
abbrev ZcE:List Str:=["ValueError","bool","dict","int","isinstance","len","list","min","range","sorted","str","sum","tuple"]
section
variable{P:Program}{w:World}{K:PySem.W.Frag}{mg:Str->Option Value}{base:Heap}{f:Addr}{fd:FuncData}{X_GroveError X_TooMany X_BadForm X_NoBook X_NoName X_Ring X_TooBig X_TwiceNamed:Addr}
mutual
inductive Ex where
 | nil:Ex
 | tag:Str->Ex->Ex
 | name:Str->Ex
 | several:Bool->Exs->Ex
 | rep:Nat->Ex->Ex
inductive Exs where
 | nil:Exs
 | cons:Ex->Exs->Exs
end
def ZbV(m:Nat):Str:=if m=0 then "many" else if m=1 then "some" else "maybe"
def Zc8(b:Bool):Str:=if b=true then "turn" else "or"
def kw:Ex->Str
 | .nil=>"nil"
 | .tag _ _=>"tag"
 | .name _=>"name"
 | .several b _=>Zc8 b
 | .rep m _=>ZbV m
def Zl9:Ex->Bool
 | .nil=>true
 | _=>false
mutual
def sz:Ex->Nat
 | .nil=>1
 | .tag _ i=>sz i+1
 | .name _=>1
 | .several _ ps=>szs ps+1
 | .rep _ p=>sz p+1
def szs:Exs->Nat
 | .nil=>0
 | .cons e r=>sz e+szs r
end
mutual
def dp:Ex->Nat
 | .nil=>0
 | .tag _ i=>dp i+1
 | .name _=>0
 | .several _ ps=>dps ps+1
 | .rep _ p=>dp p+1
def dps:Exs->Nat
 | .nil=>0
 | .cons e r=>max (dp e) (dps r)
end
mutual
def w8:Ex->Prop
 | .nil=>True
 | .tag t i=>t.length<=8/\w8 i
 | .name n=>n.length<=8
 | .several _ ps=>w8s ps
 | .rep _ p=>w8 p
def w8s:Exs->Prop
 | .nil=>True
 | .cons e r=>w8 e/\w8s r
end
def cnt:Exs->Nat
 | .nil=>0
 | .cons _ r=>cnt r+1
mutual
inductive RepE(H:Hp):Addr->Ex->Prop
 | nil {p:Addr}:H p=some (.tup [.str "nil"])->RepE H p .nil
 | tag {p q:Addr} {t:Str} {i:Ex}:H p=some (.tup [.str "tag",.str t,.ref q])->RepE H q i->RepE H p (.tag t i)
 | name {p:Addr} {n:Str}:H p=some (.tup [.str "name",.str n])->RepE H p (.name n)
 | several {p q:Addr} {b:Bool} {vs:List V} {ps:Exs}:H p=some (.tup [.str (Zc8 b),.ref q])->H q=some (.tup vs)->RepEs H vs ps->RepE H p (.several b ps)
 | rep {p q:Addr} {m:Nat} {e:Ex}:H p=some (.tup [.str (ZbV m),.ref q])->RepE H q e->RepE H p (.rep m e)
inductive RepEs(H:Hp):List V->Exs->Prop
 | nil:RepEs H [] .nil
 | cons {p:Addr} {e:Ex} {vs:List V} {r:Exs}:RepE H p e->RepEs H vs r->RepEs H (.ref p::vs) (.cons e r)
end
mutual
theorem RepE.mono{H H':Hp}(k:TK H H'):∀{p:Addr}{e:Ex},RepE H p e->RepE H' p e
 | _,_,.nil h=>.nil (k _ _ h)
 | _,_,.tag h r=>.tag (k _ _ h) (RepE.mono k r)
 | _,_,.name h=>.name (k _ _ h)
 | _,_,.several h1 h2 r=>.several (k _ _ h1) (k _ _ h2) (RepEs.mono k r)
 | _,_,.rep h r=>.rep (k _ _ h) (RepE.mono k r)
theorem RepEs.mono{H H':Hp}(k:TK H H'):∀{vs:List V}{ps:Exs},RepEs H vs ps->RepEs H' vs ps
 | _,_,.nil=>.nil
 | _,_,.cons h r=>.cons (RepE.mono k h) (RepEs.mono k r)
end
theorem RepE.top{H:Hp}{p:Addr}{e:Ex}(h:RepE H p e):∃r,H p=some (.tup (.str (kw e)::r))/\r.isEmpty=Zl9 e:=by
 cases h with
 | nil h=>exact⟨_,h,rfl⟩
 | tag h _=>exact⟨_,h,rfl⟩
 | name h=>exact⟨_,h,rfl⟩
 | several h _ _=>exact⟨_,h,rfl⟩
 | rep h _=>exact⟨_,h,rfl⟩
theorem RepEs.length{H:Hp}:∀{vs:List V}{ps:Exs},RepEs H vs ps->vs.length=cnt ps
 | _,_,.nil=>rfl
 | _,_,.cons _ r=>by simp only[List.length_cons,cnt,RepEs.length r]
theorem ZcJ(k:Str)(l:List Str):inV (.str k) (l.map V.str)=l.contains k:=by
 induction l with
 | nil=>rfl
 | cons x l ih =>
  show(eqV (.str x) (.str k) || inV (.str k) (l.map V.str))=_;rw[ih,List.contains_cons]
  congr 1
  show(x == k)=(k == x);by_cases e:x=k
  ·subst e;rfl
  ·rw[beq_eq_false_iff_ne.mpr e,beq_eq_false_iff_ne.mpr (Ne.symm e)]
theorem at0{x:V}{r:List V}:atI (x::r) 0=some x:=Zad (j:=0) rfl
def toL:Exs->List Ex
 | .nil=>[]
 | .cons e r=>e::toL r
theorem RepEs.get{H:Hp}:∀{vs:List V}{ps:Exs}{i:Nat}{x:V},RepEs H vs ps->vs[i]?= some x->∃p e,x=.ref p/\(toL ps)[i]?= some e/\RepE H p e
 | _,_,i,_,.nil,h=>by simp at h
 | _,_,0,_,.cons h _,e=>by cases e;exact⟨_,_,rfl,rfl,h⟩
 | _,_,i+1,x,.cons _ r,e=>RepEs.get (i:=i) (x:=x) r (by simpa using e)
theorem ZaY:∀{ps:Exs}{e:Ex},e∈toL ps->dp e<=dps ps/\sz e<=szs ps/\(w8s ps->w8 e)
 | .cons a r,e,h=>by
  rcases List.mem_cons.mp h with rfl|h
  ·exact⟨Nat.le_max_left _ _,Nat.le_add_right _ _,fun h=>h.1⟩
  ·obtain⟨h1,h2,h3⟩:=ZaY h;exact⟨Nat.le_trans h1 (Nat.le_max_right _ _),Nat.le_trans h2 (Nat.le_add_left _ _),fun h=>h3 h.2⟩
theorem ZbL:∀ps:Exs,(toL ps).length=cnt ps
 | .nil=>rfl
 | .cons e r=>by simp only[toL,cnt,List.length_cons,ZbL r]
theorem Zi4:∀e:Ex,1<=sz e
 | .nil=>Nat.le_refl _
 | .tag _ i=>by rw[sz];lia
 | .name _=>Nat.le_refl _
 | .several _ ps=>by rw[sz];lia
 | .rep _ p=>by rw[sz];lia
theorem Zcs:∀ps:Exs,cnt ps<=szs ps
 | .nil=>Nat.le_refl _
 | .cons e r=>by
  have:=Zi4 e;have:=Zcs r;rw[cnt,szs];lia
theorem RepE.name_of{H:Hp}{p:Addr}{e:Ex}(h:RepE H p e)(hk:kw e= "name"):∃n,e=.name n/\H p=some (.tup [.str "name",.str n]):=by
 cases h with
 | nil h=>exact absurd hk (by decide)
 | tag h _=>exact absurd hk (by show ¬ (Str.ofString "tag" = Str.ofString "name");decide)
 | name h=>exact⟨_,rfl,h⟩
 | @several _ _ b _ _ h _ _=>exact absurd hk (by show ¬ Zc8 b=_;cases b <;> decide)
 | @rep _ _ m _ h _=>exact absurd hk (by show ¬ ZbV m=_;unfold ZbV;split;decide;split <;> decide)
theorem RepE.tag_of{H:Hp}{p:Addr}{e:Ex}(h:RepE H p e)(hk:kw e= "tag"):∃t i q,e=.tag t i/\H p=some (.tup [.str "tag",.str t,.ref q])/\RepE H q i:=by
 cases h with
 | nil h=>exact absurd hk (by decide)
 | tag h r=>exact⟨_,_,_,rfl,h,r⟩
 | name h=>exact absurd hk (by show ¬ (Str.ofString "name" = Str.ofString "tag");decide)
 | @several _ _ b _ _ h _ _=>exact absurd hk (by show ¬ Zc8 b=_;cases b <;> decide)
 | @rep _ _ m _ h _=>exact absurd hk (by show ¬ ZbV m=_;unfold ZbV;split;decide;split <;> decide)
theorem Zjd{e:Ex}(h:kw e= "nil"):e=.nil:=by
 cases e with
 | nil=>rfl
 | tag _ _=>exact absurd h (by show ¬ (Str.ofString "tag" = Str.ofString "nil");decide)
 | name _=>exact absurd h (by show ¬ (Str.ofString "name" = Str.ofString "nil");decide)
 | several b _=>exact absurd h (by show ¬ Zc8 b=_;cases b <;> decide)
 | rep m _=>exact absurd h (by show ¬ ZbV m=_;unfold ZbV;split;decide;split <;> decide)
structure Ly where
 fr:Bool
 fi:List Int
 la:List Int
 pl:List (Str×Ex)
 lk:List Pr
def ly0(b:Bool):Ly:=⟨b,[],[],[],[]⟩
def lk2(la fi:List Int):List Pr:=la.flatMap fun a=>fi.map fun b=>(a,b)
def tuS(s r:Ly):Ly:=⟨s.fr&&r.fr,if s.fr=true then s.fi++r.fi else s.fi,if r.fr=true then s.la++r.la else r.la,s.pl++r.pl,s.lk++r.lk++lk2 s.la r.fi⟩
def orS(s r:Ly):Ly:=⟨s.fr || r.fr,s.fi++r.fi,s.la++r.la,s.pl++r.pl,s.lk++r.lk⟩
def seS(b:Bool)(s r:Ly):Ly:=if b=true then tuS s r else orS s r
def lay(N:Str->Ex):Nat->Ex->Int->Ly
 | 0,_,_=>ly0 true
 | _+1,.nil,_=>ly0 true
 | _+1,.tag t i,k=>⟨false,[k],[k],[(t,i)],[]⟩
 | d+1,.name n,k=>lay N d (N n) k
 | d+1,.several b ps,k=>(toL ps).foldl (fun s p=>seS b s (lay N d p (k+(s.pl.length:Int)))) (ly0 b)
 | d+1,.rep m p,k=>⟨(lay N d p k).fr || decide (m≠1),(lay N d p k).fi,(lay N d p k).la,(lay N d p k).pl,(lay N d p k).lk++(if m<=1 then lk2 (lay N d p k).la (lay N d p k).fi else [])⟩
def Fit(U:Str->Prop)(N:Str->Ex):Nat->Ex->Prop
 | 0,_=>False
 | _+1,.nil=>True
 | _+1,.tag _ _=>True
 | d+1,.name n=>U n/\Fit U N d (N n)
 | d+1,.several _ ps=>toL ps ≠ []/\∀p∈toL ps,Fit U N d p
 | d+1,.rep _ p=>Fit U N d p
def cP(N:Str->Ex):Nat->Ex->Nat
 | 0,_=>0
 | _+1,.nil=>0
 | _+1,.tag _ _=>1
 | d+1,.name n=>cP N d (N n)
 | d+1,.several _ ps=>((toL ps).map (cP N d)).sum
 | d+1,.rep _ p=>cP N d p
theorem Fit.up{U:Str->Prop}{N:Str->Ex}:∀{d:Nat}{e:Ex},Fit U N d e->Fit U N (d+1) e
 | 0,_,h=>h.elim
 | _+1,.nil,_=>trivial
 | _+1,.tag _ _,_=>trivial
 | d+1,.name n,h=>⟨h.1,Fit.up (d:=d) h.2⟩
 | d+1,.several _ ps,h=>⟨h.1,fun p hp=>Fit.up (d:=d) (h.2 p hp)⟩
 | d+1,.rep _ p,h=>Fit.up (d:=d) (e:=p) h
theorem Fit.le{U:Str->Prop}{N:Str->Ex}{d d':Nat}{e:Ex}(h:Fit U N d e)(k:d<=d'):Fit U N d' e:=by
 induction k with
 | refl=>exact h
 | step _ ih=>exact ih.up
theorem ZgG{U:Str->Prop}{N:Str->Ex}:∀{d:Nat}{e:Ex},Fit U N d e->cP N (d+1) e=cP N d e
 | 0,_,h=>h.elim
 | _+1,.nil,_=>rfl
 | _+1,.tag _ _,_=>rfl
 | d+1,.name n,h=>ZgG (d:=d) h.2
 | d+1,.several _ ps,h=>by
  show((toL ps).map (cP N (d+1))).sum=((toL ps).map (cP N d)).sum;rw[List.map_congr_left fun p hp=>ZgG (d:=d) (h.2 p hp)]
 | d+1,.rep _ p,h=>ZgG (d:=d) (e:=p) h
theorem ZkY{U:Str->Prop}{N:Str->Ex}{d d':Nat}{e:Ex}(h:Fit U N d e)(k:d<=d'):cP N d' e=cP N d e:=by
 induction k with
 | refl=>rfl
 | step k ih=>rw[ZgG (h.le k),ih]
theorem ZjV(b:Bool)(s r:Ly):(seS b s r).pl=s.pl++r.pl:=by cases b <;> rfl
theorem Zfq{N:Str->Ex}{d:Nat}{b:Bool}{k:Int}(h:∀e k,(lay N d e k).pl.length=cP N d e):∀(l:List Ex)(s:Ly),(l.foldl (fun s p=>seS b s (lay N d p (k+(s.pl.length:Int)))) s).pl.length=s.pl.length+(l.map (cP N d)).sum
 | [],s=>rfl
 | p::l,s=>by
  rw[List.foldl_cons,Zfq h l,ZjV,List.length_append,h,List.map_cons,List.sum_cons];lia
theorem ZbJ(N:Str->Ex):∀(d:Nat)(e:Ex)(k:Int),(lay N d e k).pl.length=cP N d e
 | 0,_,_=>rfl
 | _+1,.nil,_=>rfl
 | _+1,.tag _ _,_=>rfl
 | d+1,.name n,k=>ZbJ N d (N n) k
 | d+1,.several b ps,k=>by
  have:=Zfq (k:=k) (b:=b) (ZbJ N d) (toL ps) (ly0 b);rw[lay,this,cP];show 0+_=_;lia
 | d+1,.rep m p,k=>ZbJ N d p k
theorem Zgg:∀{l:List Nat},l.sum=0->∀x∈l,x=0
 | a::l,h,x,hx=>by
  rw[List.sum_cons] at h;rcases List.mem_cons.mp hx with rfl|hx
  ·lia
  ·exact Zgg (l:=l) (by lia) x hx
theorem ZcY{U:Str->Prop}{N:Str->Ex}:∀{d:Nat}{e:Ex}{k:Int},Fit U N d e->cP N d e=0->lay N d e k=ly0 true
 | 0,_,_,_,_=>rfl
 | _+1,.nil,_,_,_=>rfl
 | _+1,.tag _ _,_,_,h=>nomatch h
 | d+1,.name n,k,h,z=>ZcY (d:=d) h.2 z
 | d+1,.several b ps,k,h,z=>by
  have z:((toL ps).map (cP N d)).sum=0:=z;have hz:∀p∈toL ps,∀k,lay N d p k=ly0 true:=fun p hp k=>ZcY (d:=d) (h.2 p hp) (Zgg z _ (List.mem_map.mpr ⟨p,hp,rfl⟩));have one:∀(l:List Ex),(∀p∈l,p∈toL ps)->l.foldl (fun s p=>seS b s (lay N d p (k+(s.pl.length:Int)))) (ly0 true)=ly0 true:=by
   intro l
   induction l with
   | nil=>exact fun _=>rfl
   | cons p l ih =>
    intro hl;rw[List.foldl_cons,hz p (hl p (List.mem_cons_self ..))];have:seS b (ly0 true) (ly0 true)=ly0 true:=by cases b <;> rfl
    rw[this];exact ih fun x hx=>hl x (List.mem_cons_of_mem _ hx)
  show(toL ps).foldl (fun s p=>seS b s (lay N d p (k+(s.pl.length:Int)))) (ly0 b)=ly0 true;cases hl:toL ps with
  | nil=>exact absurd hl h.1
  | cons p l =>
   rw[List.foldl_cons,hz p (by rw[hl];exact List.mem_cons_self ..)];have:seS b (ly0 b) (ly0 true)=ly0 true:=by cases b <;> rfl
   rw[this];exact one l fun x hx=>by rw[hl];exact List.mem_cons_of_mem _ hx
 | d+1,.rep m p,k,h,z=>by
  have:=ZcY (d:=d) (e:=p) (k:=k) h z;rw[lay,this];show Ly.mk (true || _) [] [] [] ([]++if m<=1 then lk2 [] [] else [])=_
  split <;> rfl
def Ris(k n:Int)(l:List Int):Prop:=l.Pairwise (· < ·)/\∀x∈l,k<=x/\x<n
theorem Ris.nil{k n:Int}:Ris k n []:=⟨.nil,fun _ h=>nomatch h⟩
theorem Ris.app{k m n:Int}{a b:List Int}(x:Ris k m a)(y:Ris m n b)(h1:k<=m)(h2:m<=n):Ris k n (a++b):=by
 refine⟨List.pairwise_append.mpr ⟨x.1,y.1,fun p hp q hq=>?_⟩,fun p hp=>?_⟩
 ·have:=x.2 p hp;have:=y.2 q hq;lia
 ·rcases List.mem_append.mp hp with hp|hp
  ·have:=x.2 p hp;lia
  ·have:=y.2 p hp;lia
theorem Ris.wide{k k' n n':Int}{a:List Int}(x:Ris k n a)(h1:k'<=k)(h2:n<=n'):Ris k' n' a:=⟨x.1,fun p hp=>by have:=x.2 p hp;lia⟩
def LyR(k:Int)(s:Ly):Prop:=Ris k (k+(s.pl.length:Int)) s.fi/\Ris k (k+(s.pl.length:Int)) s.la
theorem ZkG{b:Bool}{k:Int}{s r:Ly}(h:LyR k s)(g:LyR (k+(s.pl.length:Int)) r):LyR k (seS b s r):=by
 unfold LyR;rw[ZjV,List.length_append,Int.natCast_add,<- Int.add_assoc];have f1:=h.1.app g.1 (by lia) (by lia);have f2:=h.2.app g.2 (by lia) (by lia);cases b with
 | true =>
  show Ris _ _ (if s.fr=true then s.fi++r.fi else s.fi)/\Ris _ _ (if r.fr=true then s.la++r.la else r.la)
  constructor
  ·split
   ·exact f1
   ·exact h.1.wide (by lia) (by lia)
  ·split
   ·exact f2
   ·exact g.2.wide (by lia) (by lia)
 | false=>exact⟨f1,f2⟩
theorem Zeh{N:Str->Ex}{d:Nat}{b:Bool}{k:Int}(h:∀e k,LyR k (lay N d e k)):∀(l:List Ex)(s:Ly),LyR k s->LyR k (l.foldl (fun s p=>seS b s (lay N d p (k+(s.pl.length:Int)))) s)
 | [],s,hs=>hs
 | p::l,s,hs=>Zeh h l _ (ZkG hs (h p _))
theorem Zbc(N:Str->Ex):∀(d:Nat)(e:Ex)(k:Int),LyR k (lay N d e k)
 | 0,_,_=>⟨.nil,.nil⟩
 | _+1,.nil,_=>⟨.nil,.nil⟩
 | _+1,.tag t i,k=>by
  have:Ris k (k+1) [k]:=⟨List.pairwise_singleton ..,fun x hx=>by rw[List.mem_singleton.mp hx];lia⟩;exact⟨this,this⟩
 | d+1,.name n,k=>Zbc N d (N n) k
 | d+1,.several b ps,k=>Zeh (Zbc N d) (toL ps) (ly0 b) ⟨.nil,.nil⟩
 | d+1,.rep m p,k=>Zbc N d p k
def ZlB(S:List Pr)(x:Pr):List Pr:=if x∈S then S else S ++ [x]
def Zb9(S xs:List Pr):List Pr:=xs.foldl ZlB S
theorem ZaV(S xs ys:List Pr):Zb9 S (xs++ys)=Zb9 (Zb9 S xs) ys:=List.foldl_append
theorem Zlt{m:List (List Key×V)}{S:List Pr}(h:m.map (·.1)=S.map L2.pK)(x:Pr)(v:V):(putK m (L2.pK x) v).map (·.1)=(if x∈S then S else S ++ [x]).map L2.pK:=by
 have inj:∀{a b:Pr},L2.pK a=L2.pK b->a=b:=fun{a b} e=>by
  obtain⟨a1,a2⟩:=a;obtain⟨b1,b2⟩:=b;injection e with e1 e2;injection e2 with e2 _;injection e1 with e1;injection e2 with e2;have e1:a1=b1:=e1;have e2:a2=b2:=e2;rw[e1,e2]
 cases hv:Zbs m (L2.pK x) with
 | none =>
  have hn:=Zeb hv;have hx:x∉S:=fun hx=>hn (by rw[h];exact List.mem_map.mpr ⟨x,hx,rfl⟩);rw[Zc3 v hv,if_neg hx,List.map_append,List.map_append,h];rfl
 | some y =>
  have hi:=Zd2 hv;rw[h] at hi;obtain⟨z,hz,e⟩:=List.mem_map.mp hi;have e:=inj e;subst e;rw[if_pos hz,<- h];unfold putK;rw[ZaQ,hv,if_pos (show(some y).isSome=true from rfl),List.map_map];refine List.map_congr_left fun kv _=>?_;show(if kv.1=L2.pK z then(kv.1,v) else kv).1=kv.1
  split <;> rfl
structure JoC(K:PySem.W.Frag)(C:Addr):Prop where
 cls:Cls K C
 n1:ZbW K C "names"
 n2:ZbW K C "counts"
 n3:ZbW K C "places"
 n4:ZbW K C "nexts"
def bkN(bk:List (Str×Ex))(n:Str):Ex:=((bk.find? fun x=>decide (x.1=n)).map (·.2)).getD .nil
theorem ZcR:∀{bk:List (Str×Ex)}{x:Str×Ex},(bk.map (·.1)).Nodup->x∈bk->bkN bk x.1=x.2
 | a::bk,x,hn,hx=>by
  rw[List.map_cons,List.nodup_cons] at hn;unfold bkN;rw[List.find?_cons];by_cases e:a.1=x.1
  ·rw[decide_eq_true e];rcases List.mem_cons.mp hx with rfl|hx
   ·rfl
   ·exact absurd (List.mem_map.mpr ⟨x,hx,e.symm⟩) hn.1
  ·rw[decide_eq_false e];rcases List.mem_cons.mp hx with rfl|hx
   ·exact absurd rfl e
   ·exact ZcR hn.2 hx
def NmD(H:Hp)(dN:Addr)(bk:List (Str×Ex)):Prop := ∃kvs,H dN=some (.dK kvs)/\∀n∈bk.map (·.1),∃q,Zbs kvs (.inr n)=some (.ref q)/\RepE H q (bkN bk n)
theorem NmD.keep{H H':Hp}{dN:Addr}{bk:List (Str×Ex)}{ex:List Addr}(h:NmD H dN bk)(k:ZR ex H H')(t:TK H H')(n:dN∉ex):NmD H' dN bk:=by
 obtain⟨kvs,h1,h2⟩:=h;refine⟨kvs,k _ _ n h1,fun x hx=>?_⟩;obtain⟨q,e1,e2⟩:=h2 x hx;exact⟨q,e1,e2.mono t⟩
theorem NmD.same{H H':Hp}{dN:Addr}{bk:List (Str×Ex)}(h:NmD H dN bk)(s:Zg H H'):NmD H' dN bk:=h.keep (ex:=[]) (Zg.keepX s) s.tk (fun z=>nomatch z)
def Plc(H:Hp)(v:V)(x:Str×Ex):Prop := ∃t q,v=.ref t/\H t=some (.tup [.str x.1,.ref q])/\RepE H q x.2
theorem Plc.tk{H H':Hp}(k:TK H H'){vs:List V}{P:List (Str×Ex)}(h:Paired (Plc H) vs P):Paired (Plc H') vs P:=Paired.mapP h fun _ _ z=>by
 obtain⟨p,q,e,h1,h2⟩:=z;exact⟨p,q,e,k _ _ h1,h2.mono k⟩
def PlD(H:Hp)(pl:Addr)(P:List (Str×Ex)):Prop := ∃vs,H pl=some (.lst vs)/\Paired (Plc H) vs P
theorem PlD.keep{H H':Hp}{pl:Addr}{P:List (Str×Ex)}{ex:List Addr}(h:PlD H pl P)(k:ZR ex H H')(t:TK H H')(n:pl∉ex):PlD H' pl P:=by
 obtain⟨vs,h1,h2⟩:=h;exact⟨vs,k _ _ n h1,Plc.tk t h2⟩
theorem PlD.same{H H':Hp}{pl:Addr}{P:List (Str×Ex)}(h:PlD H pl P)(s:Zg H H'):PlD H' pl P:=h.keep (ex:=[]) (Zg.keepX s) s.tk (fun z=>nomatch z)
def NxD(H:Hp)(nx:Addr)(S:List Pr):Prop := ∃kvs,H nx=some (.dT kvs)/\kvs.map (·.1)=S.map L2.pK/\S.Nodup/\∀p∈S,(0<=p.1/\p.1<64)/\0<=p.2/\p.2<64
theorem NxD.keep{H H':Hp}{nx:Addr}{S:List Pr}{ex:List Addr}(h:NxD H nx S)(k:ZR ex H H')(n:nx∉ex):NxD H' nx S:=by
 obtain⟨kvs,h1,h2⟩:=h;exact⟨kvs,k _ _ n h1,h2⟩
theorem NxD.same{H H':Hp}{nx:Addr}{S:List Pr}(h:NxD H nx S)(s:Zg H H'):NxD H' nx S:=h.keep (ex:=[]) (Zg.keepX s) (fun z=>nomatch z)
theorem NxD.put{H:Hp}{nx t:Addr}{S:List Pr}{x:Pr}{v:V}(h:NxD H nx S)(ht:H t=some (.tup [.int x.1,.int x.2]))(hx:(0<=x.1/\x.1<64)/\0<=x.2/\x.2<64):∃H',Zg6 H nx (.ref t) v H'/\ZR [nx] H H'/\NxD H' nx (ZlB S x):=by
 obtain⟨kvs,h1,h2,h3,h4⟩:=h;have hl:=ZdF (by decide) h3 h4;have hl2:kvs.length=S.length:=by
  have:=congrArg List.length h2;rw[List.length_map,List.length_map] at this;exact this
 refine⟨_,Zg6.t (k:=L2.pK x) h1 ht (Z4 (by lia)),ZR.upd (Zg.keepX (Zg.refl H)) (List.mem_cons_self ..),_,Zb,Zlt h2 x v,?_,?_⟩
 ·unfold ZlB
  split
  ·exact h3
  ·rename_i hn
   refine List.nodup_append.mpr ⟨h3,List.nodup_cons.mpr ⟨fun z=>(nomatch z),List.nodup_nil⟩,fun a ha b hb e=>?_⟩
   rw[List.mem_singleton.mp hb] at e;exact hn (e ▸ ha)
 ·intro p hp;unfold ZlB at hp
  split at hp
  ·exact h4 p hp
  ·rcases List.mem_append.mp hp with hp|hp
   ·exact h4 p hp
   ·rw[List.mem_singleton.mp hp];exact hx
theorem ZgR{a:Addr}{H H':Hp}(k:ZR [a] H H'){xs:List V}{b:Addr}(h:H b=some (.lst xs)){kvs:List (List Key×V)}(ha:H a=some (.dT kvs)):H' b=some (.lst xs):=k _ _ (fun z=>by
 rw[List.mem_singleton.mp z,ha] at h;cases h) h
theorem Zgi{la fi:List Int}{i:Nat}{a:Int}(h:la[i]?= some a):lk2 (la.take (i+1)) fi=lk2 (la.take i) fi++fi.map fun b=>(a,b):=by
 obtain⟨h1,h2⟩:=List.getElem?_eq_some_iff.mp h;unfold lk2;rw[List.take_succ_eq_append_getElem h1,h2,List.flatMap_append];simp
def joF(dN dc pl nx:Addr):List (Str×V):=[("names",.ref dN),("counts",.ref dc),("places",.ref pl),("nexts",.ref nx)]
def Bnd(l:List Int):Prop := ∀x∈l,0<=x/\x<64
def ZfY(C:Addr):Sp:=fun vs H Q _=>∃(a dx dN dc pl nx l1 l2:Addr)(la fi:List Int)(S:List Pr),vs=[.ref a,.ref l1,.ref l2]/\H a=some (.ins C dx (joF dN dc pl nx))/\H l1=some (.lst (la.map V.int))/\H l2=some (.lst (fi.map V.int))/\NxD H nx S/\Bnd la/\Bnd fi/\∀H',ZR [nx] H H'->NxD H' nx (Zb9 S (lk2 la fi))->Q .non H'
set_option maxHeartbeats 1000000 in
theorem ZdE{C:Addr}(B:∀x∈ZcE,mg x=none)(c:JoC K C)(F:Fun K "link" "Joining.link" Zak f fd):FnOk P w K mg base CX0 1 f fd ["self","lasts","firsts"] (ZfY C):=by
 refine F.ok Zbe (fun vs H Q E h=>?_) (fun cdv A outer s H vs Q E hr h=>?_)
 ·obtain⟨a,dx,dN,dc,pl,nx,l1,l2,la,fi,S,rfl,_⟩:=h;rfl
 obtain⟨a,dx,dN,dc,pl,nx,l1,l2,la,fi,S,rfl,ha,h1,h2,hN,bl,bf,q⟩:=h;have hu1:(A.deeper (PyProof.Rows.envOfC (Str.ofString "Joining.link") (Zh Zak) s.heap.objs.size f cdv)).units+1<cLine:=by have:=hr.un;lia
 obtain⟨kv0,hkv,_⟩:=id hN;have na:a ∉ [nx]:=fun z=>by rw[List.mem_singleton.mp z,hkv] at ha;cases ha
 refine⟨_,(Zk (ZaZ PassesOwn.never rfl (Zbq (pv 1)) (ZL (i:=3) Zbe.nd rfl (Or.inl rfl))
   (Zk (ZaZ PassesOwn.never rfl (Zbq (pv 2)) (ZL (i:=4) Zbe.nd rfl (Or.inl rfl))
     (Zk (Zdx hu1 (ZbG (pv 0) rfl) (Z0 (Za (pv 3) (Za (pv 4) Zf))) Zbg rfl)))))),?_⟩
 refine⟨_,rfl,l1,rfl,⟨_,SqL.of h1⟩,Zci (K:=K) (a:=l1) (xs:=la.map V.int) (fun i σ H2=>∃v3 v4:Option V,σ =[some (.ref a),some (.ref l1),some (.ref l2),v3,v4]/\ZR [nx] H H2/\NxD H2 nx (Zb9 S (lk2 (la.take i) fi)))
  ⟨none,none,rfl,Zg.keepX (Zg.refl H),hN⟩ ?_ ?_ ?_⟩
 ·rintro i σ H2 _ ⟨v3,v4,_,k,_⟩;exact SqL.of (ZgR k h1 hkv)
 ·rintro i x σ H2 hx ⟨v3,v4,rfl,k,hN2⟩;rw[List.getElem?_map] at hx;obtain⟨x,hx1,rfl⟩:=Option.map_eq_some_iff.mp hx;refine⟨_,rfl,l2,rfl,⟨_,SqL.of (ZgR k h2 hkv)⟩,Zci (K:=K) (a:=l2) (xs:=fi.map V.int) (fun j σ H3=>∃v4:Option V,σ =[some (.ref a),some (.ref l1),some (.ref l2),some (.int x),v4]/\ZR [nx] H H3/\NxD H3 nx (Zb9 S (lk2 (la.take i) fi++(fi.take j).map fun b=>(x,b))))
   ⟨v4,rfl,k,by rw[List.take_zero,List.map_nil,List.append_nil];exact hN2⟩ ?_ ?_ ?_⟩
  ·rintro j σ H3 _ ⟨v4,_,k3,_⟩;exact SqL.of (ZgR k3 h2 hkv)
  ·rintro j y σ H3 hy ⟨v4,rfl,k3,hN3⟩;rw[List.getElem?_map] at hy;obtain⟨y,hy1,rfl⟩:=Option.map_eq_some_iff.mp hy;obtain⟨hj1,hj2⟩:=List.getElem?_eq_some_iff.mp hy1;refine⟨_,rfl,a,C,dx,_,_,rfl,k3 _ _ na ha,c.cls,c.n4,rfl,_,rfl,_,rfl,(by show 2<=sizeLine;decide),fun t ht=>?_⟩;have s4:Zg H3 (upd H3 t (.tup [.int x,.int y])):=Zg.new ht;have e4:upd H3 t (.tup [.int x,.int y]) t=some (.tup [.int x,.int y]):=Zb;generalize upd H3 t (.tup [.int x,.int y])=H4 at s4 e4 ⊢;obtain⟨H5,p5,k5,hN5⟩:=(hN3.same s4).put (x:=(x,y)) (v:=.bl true) e4 ⟨bl x (List.mem_of_getElem? hx1),bf y (List.mem_of_getElem? hy1)⟩;refine⟨nx,H5,rfl,p5,_,rfl,(k3.trans (Zg.keepX s4)).trans k5,?_⟩;rw[List.take_succ_eq_append_getElem hj1,hj2,List.map_append,<- List.append_assoc,ZaV];exact hN5
  ·rintro σ H3 ⟨v4,rfl,k3,hN3⟩;rw[List.length_map,List.take_length] at hN3;exact⟨_,_,rfl,k3,by rw[Zgi hx1];exact hN3⟩
 ·rintro σ H2 ⟨v3,v4,rfl,k,hN2⟩;rw[List.length_map,List.take_length] at hN2;exact q H2 k hN2
def Zc9:Sp:=fun vs H Q _=>∃(nx l1 l2:Addr)(la fi:List Int)(S:List Pr),vs=[.ref l1,.ref l2,.ref nx]/\H l1=some (.lst (la.map V.int))/\H l2=some (.lst (fi.map V.int))/\NxD H nx S/\Bnd la/\Bnd fi/\∀H',ZR [nx] H H'->NxD H' nx (Zb9 S (lk2 la fi))->Q .non H'
set_option maxHeartbeats 1000000 in
theorem Zfl(B:∀x∈ZcE,mg x=none)(F:Fun K "_law_linked" "_law_linked" ZaS f fd):FnOk P w K mg base CX0 1 f fd ["_law_lasts","_law_begun","_law_linked_here"] Zc9:=by
 refine F.ok Zb3 (fun vs H Q E h=>?_) (fun cdv A outer s H vs Q E hr h=>?_)
 ·obtain⟨nx,l1,l2,la,fi,S,rfl,_⟩:=h;rfl
 obtain⟨nx,l1,l2,la,fi,S,rfl,h1,h2,hN,bl,bf,q⟩:=h;have hu1:(A.deeper (PyProof.Rows.envOfC (Str.ofString "_law_linked") (Zh ZaS) s.heap.objs.size f cdv)).units+1<cLine:=by have:=hr.un;lia
 obtain⟨kv0,hkv,_⟩:=id hN;refine⟨_,(Zk (ZaZ PassesOwn.never rfl (Zbq (pv 0)) (ZL (i:=3) Zb3.nd rfl (Or.inl rfl))
   (Zk (ZaZ PassesOwn.never rfl (Zbq (pv 1)) (ZL (i:=4) Zb3.nd rfl (Or.inl rfl))
     (Zk (Zdx hu1 (pv 2) (Z0 (Za (pv 3) (Za (pv 4) Zf))) Zbg rfl)))))),?_⟩
 refine⟨_,rfl,l1,rfl,⟨_,SqL.of h1⟩,Zci (K:=K) (a:=l1) (xs:=la.map V.int) (fun i σ H2=>∃v3 v4:Option V,σ =[some (.ref l1),some (.ref l2),some (.ref nx),v3,v4]/\ZR [nx] H H2/\NxD H2 nx (Zb9 S (lk2 (la.take i) fi)))
  ⟨none,none,rfl,Zg.keepX (Zg.refl H),hN⟩ ?_ ?_ ?_⟩
 ·rintro i σ H2 _ ⟨v3,v4,_,k,_⟩;exact SqL.of (ZgR k h1 hkv)
 ·rintro i x σ H2 hx ⟨v3,v4,rfl,k,hN2⟩;rw[List.getElem?_map] at hx;obtain⟨x,hx1,rfl⟩:=Option.map_eq_some_iff.mp hx;refine⟨_,rfl,l2,rfl,⟨_,SqL.of (ZgR k h2 hkv)⟩,Zci (K:=K) (a:=l2) (xs:=fi.map V.int) (fun j σ H3=>∃v4:Option V,σ =[some (.ref l1),some (.ref l2),some (.ref nx),some (.int x),v4]/\ZR [nx] H H3/\NxD H3 nx (Zb9 S (lk2 (la.take i) fi++(fi.take j).map fun b=>(x,b))))
   ⟨v4,rfl,k,by rw[List.take_zero,List.map_nil,List.append_nil];exact hN2⟩ ?_ ?_ ?_⟩
  ·rintro j σ H3 _ ⟨v4,_,k3,_⟩;exact SqL.of (ZgR k3 h2 hkv)
  ·rintro j y σ H3 hy ⟨v4,rfl,k3,hN3⟩;rw[List.getElem?_map] at hy;obtain⟨y,hy1,rfl⟩:=Option.map_eq_some_iff.mp hy;obtain⟨hj1,hj2⟩:=List.getElem?_eq_some_iff.mp hy1;refine⟨_,rfl,_,rfl,_,rfl,(by show 2<=sizeLine;decide),fun t ht=>?_⟩;have s4:Zg H3 (upd H3 t (.tup [.int x,.int y])):=Zg.new ht;have e4:upd H3 t (.tup [.int x,.int y]) t=some (.tup [.int x,.int y]):=Zb;generalize upd H3 t (.tup [.int x,.int y])=H4 at s4 e4 ⊢;obtain⟨H5,p5,k5,hN5⟩:=(hN3.same s4).put (x:=(x,y)) (v:=.bl true) e4 ⟨bl x (List.mem_of_getElem? hx1),bf y (List.mem_of_getElem? hy1)⟩;refine⟨nx,H5,rfl,p5,_,rfl,(k3.trans (Zg.keepX s4)).trans k5,?_⟩;rw[List.take_succ_eq_append_getElem hj1,hj2,List.map_append,<- List.append_assoc,ZaV];exact hN5
  ·rintro σ H3 ⟨v4,rfl,k3,hN3⟩;rw[List.length_map,List.take_length] at hN3;exact⟨_,_,rfl,k3,by rw[Zgi hx1];exact hN3⟩
 ·rintro σ H2 ⟨v3,v4,rfl,k,hN2⟩;rw[List.length_map,List.take_length] at hN2;exact q H2 k hN2
def pE:Ex->Option Exs
 | .nil=>some .nil
 | .several _ ps=>some ps
 | .rep _ p=>some (.cons p .nil)
 | _=>none
def ZdG:Sp:=fun vs H Q _=>∃p e ps,vs=[.ref p]/\RepE H p e/\pE e=some ps/\∀r vs' H',Zg H H'->H' r=some (.tup vs')->RepEs H' vs' ps->Q (.ref r) H'
theorem Zft(B:∀x∈ZcE,mg x=none)(F:Fun K "parts_of" "parts_of" Za4 f fd):FnOk P w K mg base CX0 1 f fd ["expr"] ZdG:=by
 refine F.ok ZfF (fun vs H Q E h=>?_) (fun cdv A outer s H vs Q E hr h=>?_)
 ·obtain⟨p,e,ps,rfl,_⟩:=h;rfl
 obtain⟨p,e,ps,rfl,hR,hp,q⟩:=h;refine⟨_,(Zd (Zah (ZD ZaP (Zr Zv (pv 0) Ze (fun _ _=>rfl)) (Z0 (Za ZP (Za ZP Zf))) (by with_unfolding_all rfl))
   (Zk (ZC (Z0 Zf)))
   Zy)
  (Zd (Zah (ZD ZaN (Zr Zv (pv 0) Ze (fun _ _=>rfl)) ZP (ZV _))
   (Zk (ZC (Z0 (Za (Zr Zv (pv 0) Ze (fun _ _=>rfl)) Zf))))
   Zy)
  (Zd (Zah (ZD ZaP (Zr Zv (pv 0) Ze (fun _ _=>rfl)) (Z0 (Za ZP (Za ZP Zf))) (by with_unfolding_all rfl))
   (Zk (ZC (Zr Zv (pv 0) Ze (fun _ _=>rfl))))
   Zy)
  (Zk (ZC (Z0 (Za (Zr Zv (pv 0) Ze (fun _ _=>rfl)) Zf))))))),?_⟩
 cases hR with
 | nil h =>
  cases hp;refine⟨_,rfl,p,_,0,_,rfl,rfl,SqT.of h,rfl,(by show 2<=sizeLine;decide),fun t ht=>⟨t,_,rfl,.inr (SqT.of Zb),rfl,rfl,_,rfl,Zax (fun _=>?_) (fun z=>absurd (by decide) z)⟩⟩;have s1:Zg H (upd H t (.tup [.str "nil",.str "name"])):=Zg.new ht;refine⟨(by show 0<=sizeLine;decide),fun t2 ht2=>?_⟩;exact q t2 [] _ (s1.upd_new (s1.free ht2)) Zb .nil
 | tag h r=>cases hp
 | name h=>cases hp
 | @several _ qa b vs _ h1 h2 r =>
  cases hp;refine⟨_,rfl,p,_,0,_,rfl,rfl,SqT.of h1,rfl,(by show 2<=sizeLine;decide),fun t ht=>⟨t,_,rfl,.inr (SqT.of Zb),rfl,rfl,_,rfl,Zax (fun z=>absurd z ?_) (fun _=>?_)⟩⟩
  ·cases b <;> decide
  have s1:Zg H (upd H t (.tup [.str "nil",.str "name"])):=Zg.new ht;have h1':=s1 _ _ h1;refine⟨_,rfl,p,_,0,_,rfl,rfl,SqT.of h1',rfl,rfl,_,rfl,Zax (fun z=>absurd z ?_) (fun _=>?_)⟩
  ·cases b <;> decide
  refine⟨_,rfl,p,_,0,_,rfl,rfl,SqT.of h1',rfl,(by show 2<=sizeLine;decide),fun t2 ht2=>⟨t2,_,rfl,.inr (SqT.of Zb),rfl,rfl,_,rfl,Zax (fun _=>?_) (fun z=>absurd ?_ z)⟩⟩
  ·have s2:=s1.upd_new (o:=.tup [.str "turn",.str "or"]) (s1.free ht2);exact⟨_,rfl,p,_,1,_,rfl,rfl,SqT.of (s2 _ _ h1),rfl,q qa vs _ s2 (s2 _ _ h2) (r.mono s2.tk)⟩
  ·cases b <;> decide
 | @rep _ qa m e h1 r =>
  cases hp;have hm:ZbV m= "many" \/ ZbV m= "some" \/ ZbV m= "maybe" := by unfold ZbV;split;exact .inl rfl;split;exact .inr (.inl rfl);exact .inr (.inr rfl)
  refine⟨_,rfl,p,_,0,_,rfl,rfl,SqT.of h1,rfl,(by show 2<=sizeLine;decide),fun t ht=>⟨t,_,rfl,.inr (SqT.of Zb),rfl,rfl,_,rfl,Zax (fun z=>absurd z ?_) (fun _=>?_)⟩⟩
  ·rcases hm with z|z|z <;> rw[z] <;> decide
  have s1:Zg H (upd H t (.tup [.str "nil",.str "name"])):=Zg.new ht;have h1':=s1 _ _ h1;refine⟨_,rfl,p,_,0,_,rfl,rfl,SqT.of h1',rfl,rfl,_,rfl,Zax (fun z=>absurd z ?_) (fun _=>?_)⟩
  ·rcases hm with z|z|z <;> rw[z] <;> decide
  refine⟨_,rfl,p,_,0,_,rfl,rfl,SqT.of h1',rfl,(by show 2<=sizeLine;decide),fun t2 ht2=>⟨t2,_,rfl,.inr (SqT.of Zb),rfl,rfl,_,rfl,Zax (fun z=>absurd z ?_) (fun _=>?_)⟩⟩
  ·rcases hm with z|z|z <;> rw[z] <;> decide
  have s2:=s1.upd_new (o:=.tup [.str "turn",.str "or"]) (s1.free ht2);refine⟨_,rfl,p,_,1,_,rfl,rfl,SqT.of (s2 _ _ h1),rfl,(by show 1<=sizeLine;decide),fun t3 ht3=>?_⟩;have s3:=s2.upd_new (o:=.tup [.ref qa]) (s2.free ht3);exact q t3 _ _ s3 Zb (.cons (r.mono s3.tk) .nil)
theorem Zdf:∀{l ns:List Str},l.Nodup->(∀x∈l,x∈ns)->l.length<=ns.length
 | [],_,_,_=>Nat.zero_le _
 | a::l,ns,hn,h=>by
  rw[List.nodup_cons] at hn;have ha:=h a (List.mem_cons_self ..);have:=Zdf (ns:=ns.erase a) hn.2 fun x hx=>(List.mem_erase_of_ne (fun z=>hn.1 (by rw[<- z];exact hx))).mpr (h x (List.mem_cons_of_mem _ hx));rw[List.length_erase_of_mem ha] at this;have:=List.length_pos_of_mem ha;rw[List.length_cons];lia
def CtD(H:Hp)(dc:Addr)(bk:List (Str×Ex))(D:Nat):Prop := ∃(kvs:List (Key×V))(ks:List Str),H dc=some (.dK kvs)/\kvs.map (·.1)=ks.map Sum.inr/\ks.Nodup/\∀n∈ks,n∈bk.map (·.1)/\Zbs kvs (.inr n)=some (.int (cP (bkN bk) D (bkN bk n):Nat))
structure Jo(C:Addr)(H:Hp)(a dx dN dc pl nx:Addr)(bk:List (Str×Ex))(D:Nat):Prop where
 ho:H a=some (.ins C dx (joF dN dc pl nx))
 nm:NmD H dN bk
 ct:CtD H dc bk D
 ne:dN≠dc
 l8:bk.length<=8
 sz:∀n∈bk.map (·.1),sz (bkN bk n)<=200
abbrev Ft(bk:List (Str×Ex))(d:Nat)(e:Ex):Prop:=Fit (fun n=>n∈bk.map (·.1)) (bkN bk) d e
theorem Zle{dc:Addr}{H H':Hp}{kvs:List (Key×V)}(k:ZR [dc] H H')(h:H dc=some (.dK kvs)):TK H H':=fun b xs e=>k _ _ (fun z=>by rw[List.mem_singleton.mp z,h] at e;cases e) e
theorem Jo.same{C:Addr}{H H':Hp}{a dx dN dc pl nx:Addr}{bk:List (Str×Ex)}{D:Nat}(h:Jo C H a dx dN dc pl nx bk D)(s:Zg H H'):Jo C H' a dx dN dc pl nx bk D:=by
 obtain⟨kvs,ks,h1,h2⟩:=h.ct;exact⟨s _ _ h.ho,h.nm.same s,⟨kvs,ks,s _ _ h1,h2⟩,h.ne,h.l8,h.sz⟩
theorem Jo.lst{C:Addr}{H:Hp}{a dx dN dc pl nx b:Addr}{xs ys:List V}{bk:List (Str×Ex)}{D:Nat}(h:Jo C H a dx dN dc pl nx bk D)(hb:H b=some (.lst xs)):Jo C (upd H b (.lst ys)) a dx dN dc pl nx bk D:=by
 obtain⟨kvs,ks,h1,h2⟩:=h.ct;obtain⟨kv2,g1,g2⟩:=h.nm;refine⟨?_,⟨kv2,?_,fun n hn=>?_⟩,⟨kvs,ks,?_,h2⟩,h.ne,h.l8,h.sz⟩
 ·rw[Zu (fun z=>by have:=h.ho;rw[z,hb] at this;cases this)];exact h.ho
 ·rw[Zu (fun z=>by rw[z,hb] at g1;cases g1)];exact g1
 ·obtain⟨q,e1,e2⟩:=g2 n hn;exact⟨q,e1,e2.mono (TK.lst hb)⟩
 ·rw[Zu (fun z=>by rw[z,hb] at h1;cases h1)];exact h1
theorem Zjo{m:List (Key×V)}{S:List Str}(h:m.map (·.1)=S.map Sum.inr)(x:Str)(v:V):(putK m (Sum.inr x) v).map (·.1)=(if x∈S then S else S ++ [x]).map Sum.inr:=by
 cases hv:Zbs m (Sum.inr x) with
 | none =>
  have hn:=Zeb hv;have hx:x∉S:=fun hx=>hn (by rw[h];exact List.mem_map.mpr ⟨x,hx,rfl⟩);rw[Zc3 v hv,if_neg hx,List.map_append,List.map_append,h];rfl
 | some y =>
  have hi:=Zd2 hv;rw[h] at hi;obtain⟨z,hz,e⟩:=List.mem_map.mp hi;cases e;rw[if_pos hz,<- h];unfold putK;rw[ZaQ,hv,if_pos (show(some y).isSome=true from rfl),List.map_map];refine List.map_congr_left fun kv _=>?_;show(if kv.1=Sum.inr x then(kv.1,v) else kv).1=kv.1
  split <;> rfl
theorem Jo.put{C:Addr}{H:Hp}{a dx dN dc pl nx:Addr}{bk:List (Str×Ex)}{D d:Nat}{n:Str}{kvs:List (Key×V)}(h:Jo C H a dx dN dc pl nx bk D)(hU:n∈bk.map (·.1))(hc:cP (bkN bk) D (bkN bk n)=cP (bkN bk) d (bkN bk n)){hd:H dc=some (.dK kvs)}:Jo C (upd H dc (.dK (putK kvs (.inr n) (.int (cP (bkN bk) d (bkN bk n):Nat))))) a dx dN dc pl nx bk D:=by
 obtain⟨kv1,ks,h1,h2,h3,h4⟩:=h.ct;rw[hd] at h1;cases h1;obtain⟨kv2,g1,g2⟩:=h.nm;refine⟨?_,⟨kv2,?_,fun m hm=>?_⟩,⟨_,_,Zb,Zjo h2 n _,?_,fun m hm=>?_⟩,h.ne,h.l8,h.sz⟩
 ·rw[Zu (fun z=>by have:=h.ho;rw[z,hd] at this;cases this)];exact h.ho
 ·rw[Zu h.ne];exact g1
 ·obtain⟨q,e1,e2⟩:=g2 m hm;refine⟨q,e1,e2.mono fun b xs e=>?_⟩;rw[Zu (fun z=>by rw[z,hd] at e;cases e)];exact e
 ·split
  ·exact h3
  ·rename_i hn
   refine List.nodup_append.mpr ⟨h3,List.nodup_cons.mpr ⟨fun z=>(nomatch z),List.nodup_nil⟩,fun a ha b hb e=>?_⟩
   rw[List.mem_singleton.mp hb] at e;exact hn (e ▸ ha)
 ·rw[Zen];by_cases e:m=n
  ·rw[e,if_pos rfl,hc];exact⟨hU,rfl⟩
  ·rw[if_neg (fun z=>e (Sum.inr.inj z))];refine h4 m ?_
   split at hm
   ·exact hm
   ·rcases List.mem_append.mp hm with hm|hm
    ·exact hm
    ·exact absurd (List.mem_singleton.mp hm) e
theorem Jo.new{C:Addr}{H:Hp}{a dx dN dc pl nx b:Addr}{o:HO}{bk:List (Str×Ex)}{D:Nat}(h:Jo C H a dx dN dc pl nx bk D)(n:H b=none):Jo C (upd H b o) a dx dN dc pl nx bk D:=h.same (Zg.new n)
def Zdr(C:Addr)(D d:Nat):Sp:=fun vs H Q _=>∃(a dx dN dc pl nx:Addr)(bk:List (Str×Ex))(p:Addr)(e:Ex),vs=[.ref a,.ref p]/\Jo C H a dx dN dc pl nx bk D/\RepE H p e/\sz e<=200/\Ft bk d e/\d<=D/\∀H',ZR [dc] H H'->Jo C H' a dx dN dc pl nx bk D->Q (.int (cP (bkN bk) d e:Nat)) H'
theorem Zc1(N:Str->Ex)(d:Nat):∀l:List Ex,(l.map fun p=>((cP N d p:Nat):Int)).sum=(((l.map (cP N d)).sum:Nat):Int)
 | []=>rfl
 | a::l=>by
  rw[List.map_cons,List.sum_cons,Zc1 N d l,List.map_cons,List.sum_cons,Int.natCast_add]
theorem ZfO{N:Str->Ex}{d:Nat}{e:Ex}{ps:Exs}(h:pE e=some ps):cP N (d+1) e=((toL ps).map (cP N d)).sum:=by
 cases e with
 | nil=>cases h;rfl
 | tag _ _=>cases h
 | name _=>cases h
 | several b qs=>cases h;rfl
 | rep m p=>cases h;show cP N d p=cP N d p+0;rfl
theorem Fit.parts{U:Str->Prop}{N:Str->Ex}{d:Nat}{e:Ex}{ps:Exs}(h:pE e=some ps)(k:Fit U N (d+1) e):∀p∈toL ps,Fit U N d p:=by
 cases e with
 | nil=>cases h;exact fun p hp=>nomatch hp
 | tag _ _=>cases h
 | name _=>cases h
 | several b qs=>cases h;exact k.2
 | rep m p=>cases h;exact fun x hx=>by rw[List.mem_singleton.mp hx];exact k
theorem Zko{e:Ex}{ps:Exs}(h:pE e=some ps):szs ps<=sz e:=by
 cases e with
 | nil=>cases h;exact Nat.zero_le _
 | tag _ _=>cases h
 | name _=>cases h
 | several b qs=>cases h;show szs ps<=szs ps+1;lia
 | rep m p=>cases h;show sz p+0<=sz p+1;lia
set_option maxHeartbeats 2000000 in
theorem Zbp{C:Addr}(D d:Nat)(B:∀x∈ZcE,mg x=none)(c_Joining:JoC K C)(g_Joining_count_places:HasM P w K mg base C "count_places" ["self","expr"] (d+2) (Zdr C D d)) (g_parts_of:Has P w K mg base "parts_of" ["expr"] 1 ZdG) (F:Fun K "count_places" "Joining.count_places" Zo f fd):FnOk P w K mg base CX0 (d+3) f fd ["self","expr"] (Zdr C D (d+1)):=by
 refine F.ok Zbr (fun vs H Q E h=>?_) (fun cdv A outer s H vs Q E hr h=>?_)
 ·obtain⟨a,dx,dN,dc,pl,nx,bk,p,e,rfl,_⟩:=h;rfl
 obtain⟨a,dx,dN,dc,pl,nx,bk,p,e,rfl,J,hR,hs,hF,hD,q⟩:=h;have c:=c_Joining;have hu1:(A.deeper (PyProof.Rows.envOfC (Str.ofString "Joining.count_places") (Zh Zo) s.heap.objs.size f cdv)).units+1<cLine:=by have:=hr.un;lia
 obtain⟨kvs,ks,hdc,hkk,hknd,hkv⟩:=id J.ct;have na:a ∉ [dc]:=fun z=>by have:=J.ho;rw[List.mem_singleton.mp z,hdc] at this;cases this
 refine Zm ((Zc Zo).drop 2) (Zk (ZC (Zz (ZeP rfl) rfl (B "sum" (by decide)) PyProof.Rows.boot_sum (Za (Zcd (cl:=_) ["part"] [("self",0)] (ZbX (Zaa g_parts_of hr rfl (Za (pv 1) Zf) (by lia))) (fun _ _ _ _=>(ZL (i:=0) (show List.Nodup (["part","self"]:List Str) by decide) rfl (Or.inl rfl))) (fun _ _ _ _=>(ZaT g_Joining_count_places hr (pv 1) c_Joining.cls (Za (pv 0) Zf) (by lia))) rfl rfl (by decide) rfl (by decide) (Zdp (by(repeat' first|exact List.forall_mem_nil _|refine List.forall_mem_cons.mpr ⟨?_,?_⟩) <;> rfl)) (Zcg (by(repeat' first|exact List.forall_mem_nil _|refine List.forall_mem_cons.mpr ⟨?_,?_⟩) <;> first|(intro h;exact⟨_,rfl⟩)|(intro h;exact absurd h (by decide)))) (fun _=>by(repeat' first|exact List.forall_mem_nil _|refine List.forall_mem_cons.mpr ⟨?_,?_⟩) <;> exact⟨rfl,rfl,Or.inl rfl⟩) (fun _=>rfl)) Zf)))) (fun u2 h2 e2=>?_)
 refine Zm ((Zaq ((Zc Zo).getD 1 (.Pass ⟨0,0,0,0⟩))).drop 1) (Zk (ZC (ZcB hu1 (ZbG (pv 0) rfl) (Zr Zv (pv 1) Ze (fun _ _=>rfl)) (fun _ _=>rfl)))) (fun u1t1 h1t1 e1t1=>?_);refine Zm ((Zaq ((Zc Zo).getD 1 (.Pass ⟨0,0,0,0⟩))).drop 0) (Zd (Zah (Zi7 (Zew hu1 (Zr Zv (pv 1) Ze (fun _ _=>rfl)) (ZbG (pv 0) rfl)))
   (Zk (Zdx hu1 (ZbG (pv 0) rfl) (Zr Zv (pv 1) Ze (fun _ _=>rfl)) (ZaT g_Joining_count_places hr (pv 0) c_Joining.cls (Za (ZcB hu1 (ZbG (pv 0) rfl) (Zr Zv (pv 1) Ze (fun _ _=>rfl)) (fun _ _=>rfl)) Zf) (by lia)) rfl))
   Zy) h1t1) (fun u1t0 h1t0 e1t0=>?_)
 refine Zm ((Zc Zo).drop 1) (Zd (Zah (ZD ZaN (Zr Zv (pv 1) Ze (fun _ _=>rfl)) ZP (ZV _))
   h1t0
   Zy) h2) (fun u1 h1 e1=>?_)
 refine Zm ((Zc Zo).drop 0) (Zd (Zah (ZD ZaN (Zr Zv (pv 1) Ze (fun _ _=>rfl)) ZP (ZV _))
   (Zk (ZC Ze))
   Zy) h1) (fun u0 h0 e0=>?_)
 refine⟨u0,h0,?_⟩;obtain⟨r0,ht,_⟩:=hR.top;refine Zj e0 ?_;refine⟨_,rfl,p,_,0,_,rfl,rfl,SqT.of ht,at0,rfl,_,rfl,Zax (fun z=>?_) (fun z=>?_)⟩
 ·have z:V.str (kw e)=V.str "tag" := of_decide_eq_true z;injection z with z;obtain⟨t,i,q',rfl,_,_⟩:=hR.tag_of z;exact q H (Zg.keepX (Zg.refl H)) J
 have k1:kw e ≠ "tag" := fun k=>z (decide_eq_true (by rw[k]));show u1 _ _ _;refine Zj e1 ?_;refine⟨_,rfl,p,_,0,_,rfl,rfl,SqT.of ht,at0,rfl,_,rfl,Zax (fun z=>?_) (fun z=>?_)⟩
 ·have z:V.str (kw e)=V.str "name" := of_decide_eq_true z;injection z with z;obtain⟨n,rfl,hn⟩:=hR.name_of z;obtain⟨hU,hF'⟩:=hF;have hcp:cP (bkN bk) D (bkN bk n)=cP (bkN bk) d (bkN bk n):=ZkY hF' (by lia);have ret:∀(D':Ends)(H1:Hp),D'.rt=Q->ZR [dc] H H1->Jo C H1 a dx dN dc pl nx bk D->(∃kvs,H1 dc=some (.dK kvs)/\Zbs kvs (.inr n)=some (.int (cP (bkN bk) D (bkN bk n):Nat)))->u1t1 D' [some (.ref a),some (.ref p)] H1:=by
   rintro D' H1 hD' kk J1 ⟨kv1,hd1,hv1⟩;refine Zj e1t1 ?_;refine⟨_,rfl,a,C,dx,_,_,rfl,J1.ho,c.cls,c.n2,rfl,_,rfl,p,_,1,_,rfl,rfl,SqT.of (Zle kk hdc _ _ hn),rfl,dc,_,rfl,by rw[<- hv1];exact Zev.k (k:=.inr n) hd1,?_⟩;rw[hD',hcp];exact q H1 kk J1
  refine Zj e1t0 ?_;refine⟨_,rfl,p,_,1,_,rfl,rfl,SqT.of hn,rfl,_,rfl,a,C,dx,_,_,rfl,J.ho,c.cls,c.n2,rfl,dc,_,rfl,Zev.k (k:=.inr n) hdc,_,rfl,?_⟩;by_cases hin:n∈ks
  ·obtain⟨_,hv⟩:=hkv n hin;rw[hv];exact Zby (ret _ H rfl (Zg.keepX (Zg.refl H)) J ⟨kvs,hdc,hv⟩)
  ·have hv:Zbs kvs (.inr n)=none:=by
    cases hc:Zbs kvs (.inr n) with
    | none=>rfl
    | some y =>
     have:=Zd2 hc;rw[hkk] at this;obtain⟨m,hm,e⟩:=List.mem_map.mp this;cases e;exact absurd hm hin
   rw[hv];refine Zdb ?_;obtain⟨kvN,hdN,hvN⟩:=id J.nm;obtain⟨q',hq1,hq2⟩:=hvN n hU;refine⟨_,rfl,a,dx,_,rfl,J.ho,rfl,_,rfl,a,C,dx,_,_,rfl,J.ho,c.cls,c.n1,rfl,_,rfl,p,_,1,_,rfl,rfl,SqT.of hn,rfl,dN,.ref q',rfl,by rw[<- hq1];exact Zev.k (k:=.inr n) hdN,a,dx,dN,dc,pl,nx,bk,q',_,rfl,J,hq2,J.sz n hU,hF',by lia,fun H1 kk J1=>?_⟩;obtain⟨kv1,ks1,hdc1,hkk1,hknd1,hkv1⟩:=id J1.ct;have hl1:=Zdf hknd1 (fun x hx=>(hkv1 x hx).1);have hl2:kv1.length=ks1.length:=by
    have:=congrArg List.length hkk1;rw[List.length_map,List.length_map] at this;exact this
   rw[List.length_map] at hl1;have h8:=J.l8;refine⟨_,rfl,a,C,dx,_,_,rfl,J1.ho,c.cls,c.n2,rfl,_,rfl,p,_,1,_,rfl,rfl,SqT.of (Zle kk hdc _ _ hn),rfl,dc,_,rfl,Zg6.k (k:=.inr n) hdc1 (Z4 (by lia)),?_⟩;have k2:ZR [dc] H (upd H1 dc (.dK (putK kv1 (.inr n) (.int (cP (bkN bk) d (bkN bk n):Nat))))):=ZR.upd kk (List.mem_cons_self ..);have hv2:Zbs (putK kv1 (.inr n) (.int (cP (bkN bk) d (bkN bk n):Nat))) (.inr n)=some (.int (cP (bkN bk) D (bkN bk n):Nat)):=by
    rw[Zen,if_pos rfl,hcp]
   exact ret _ _ rfl k2 (J1.put hU hcp (hd:=hdc1)) ⟨_,Zb,hv2⟩
 have k2:kw e ≠ "name" := fun k=>z (decide_eq_true (by rw[k]));show u2 _ _ _;refine Zj e2 ?_;obtain⟨ps,hps⟩:∃ps,pE e=some ps:=by
  cases e with
  | nil=>exact⟨_,rfl⟩
  | tag _ _=>exact absurd rfl k1
  | name _=>exact absurd rfl k2
  | several _ _=>exact⟨_,rfl⟩
  | rep _ _=>exact⟨_,rfl⟩
 have hsz:=Zko hps;have hcl:=Zcs ps;have htl:=ZbL ps;refine⟨_,rfl,p,e,ps,rfl,hR,hps,fun ra vs' H1 s1 e1 hr1=>?_⟩;have hvl:=hr1.length;refine⟨ra,rfl,⟨vs',SqT.of e1⟩,fun pa hpa=>Zc6 (K:=K) (a:=ra) (p:=pa) (xs:=vs') (fun i ys σ H2=>∃v0:Option V,σ =[v0,some (.ref a)]/\ZR [dc] H1 H2/\Jo C H2 a dx dN dc pl nx bk D/\H2 pa=some (.lst ys)/\ys=(((toL ps).take i).map fun p=>((cP (bkN bk) d p:Nat):Int)).map V.int)
  ⟨none,rfl,Zg.keepX (Zg.new hpa),(J.same s1).new hpa,Zb,rfl⟩ ?_ ?_ ?_⟩
 ·rintro i ys σ H2 _ ⟨v0,_,k2,J2,h2,_⟩;exact⟨SqT.of (Zle k2 (s1 _ _ hdc) _ _ e1),h2⟩
 ·rintro i ys x σ H2 hi hx ⟨v0,rfl,k2,J2,h2,rfl⟩;obtain⟨pa',ea,rfl,hea,hra⟩:=hr1.get hx;obtain⟨hi1,hi2⟩:=List.getElem?_eq_some_iff.mp hea;have hmem:=List.mem_of_getElem? hea;obtain⟨m1,m2,_⟩:=ZaY hmem;refine⟨_,rfl,a,dx,_,rfl,J2.ho,rfl,_,rfl,a,dx,dN,dc,pl,nx,bk,pa',ea,rfl,J2,hra.mono (Zle k2 (s1 _ _ hdc)),by lia,hF.parts hps _ hmem,by lia,fun H3 k3 J3=>?_⟩;obtain⟨kv2,_,hdc2,_⟩:=id J2.ct;have npa:pa ∉ [dc]:=fun z=>by rw[List.mem_singleton.mp z,hdc2] at h2;cases h2
  refine⟨k3 _ _ npa h2,Z4 (by rw[List.length_map,List.length_map,List.length_take];lia),CW.next hi ⟨_,rfl,?_,?_,Zb,?_⟩⟩
  ·intro b o hb ho;rw[Zu (Zq ho hpa)];exact k3 _ _ hb (k2 _ _ hb ho)
  ·exact J3.lst (k3 _ _ npa h2)
  ·rw[List.take_succ_eq_append_getElem hi1,hi2,List.map_append,List.map_append];rfl
 ·rintro ys σ H2 ⟨v0,_,k2,J2,h2,rfl⟩;rw[hvl,<- htl,List.take_length] at h2;refine⟨pa,_,rfl,SqL.of h2,?_⟩;rw[Zc1,<- ZfO hps];exact q H2 ((Zg.keepX s1).trans k2) J2
structure Wk(C:Addr)(H:Hp)(a dx dN dc pl nx:Addr)(bk:List (Str×Ex))(D:Nat)(P:List (Str×Ex))(S:List Pr):Prop where
 jo:Jo C H a dx dN dc pl nx bk D
 ps:PlD H pl P
 lk:NxD H nx S
abbrev Ex3(dc pl nx:Addr):List Addr:=[dc,pl,nx]
theorem Wk.same{C:Addr}{H H':Hp}{a dx dN dc pl nx:Addr}{bk:List (Str×Ex)}{D:Nat}{P:List (Str×Ex)}{S:List Pr}(h:Wk C H a dx dN dc pl nx bk D P S)(s:Zg H H'):Wk C H' a dx dN dc pl nx bk D P S:=⟨h.jo.same s,h.ps.same s,h.lk.same s⟩
theorem Wk.out{C:Addr}{H:Hp}{a dx dN dc pl nx:Addr}{bk:List (Str×Ex)}{D:Nat}{P:List (Str×Ex)}{S:List Pr}(h:Wk C H a dx dN dc pl nx bk D P S){b:Addr}{o:HO}(hb:H b=some o)(n1:∀xs,o ≠ .lst xs)(n2:∀k,o ≠ .dK k)(n3:∀k,o ≠ .dT k):b∉Ex3 dc pl nx:=by
 obtain⟨k1,_,h1,_⟩:=h.jo.ct;obtain⟨v1,h2,_⟩:=h.ps;obtain⟨k3,h3,_⟩:=h.lk;intro z;rcases List.mem_cons.mp z with z|z
 ·rw[z,h1] at hb;exact n2 _ (Option.some.inj hb).symm
 rcases List.mem_cons.mp z with z|z
 ·rw[z,h2] at hb;exact n1 _ (Option.some.inj hb).symm
 rw[List.mem_singleton.mp z,h3] at hb;exact n3 _ (Option.some.inj hb).symm
theorem Wk.tk{C:Addr}{H H':Hp}{a dx dN dc pl nx:Addr}{bk:List (Str×Ex)}{D:Nat}{P:List (Str×Ex)}{S:List Pr}(h:Wk C H a dx dN dc pl nx bk D P S)(k:ZR (Ex3 dc pl nx) H H'):TK H H':=fun b xs e=>k _ _ (h.out e (fun _ z=>nomatch z) (fun _ z=>nomatch z) (fun _ z=>nomatch z)) e
theorem Wk.fresh{C:Addr}{H H1:Hp}{a dx dN dc pl nx:Addr}{bk:List (Str×Ex)}{D:Nat}{P:List (Str×Ex)}{S:List Pr}(h:Wk C H a dx dN dc pl nx bk D P S){b:Addr}(hb:H b=none):b∉Ex3 dc pl nx:=by
 obtain⟨k1,_,h1,_⟩:=h.jo.ct;obtain⟨v1,h2,_⟩:=h.ps;obtain⟨k3,h3,_⟩:=h.lk;intro z;rcases List.mem_cons.mp z with z|z
 ·rw[z,h1] at hb;cases hb
 rcases List.mem_cons.mp z with z|z
 ·rw[z,h2] at hb;cases hb
 rw[List.mem_singleton.mp z,h3] at hb;cases hb
theorem Wk.back{C:Addr}{H H1:Hp}{a dx dN dc pl nx:Addr}{bk:List (Str×Ex)}{D:Nat}{P:List (Str×Ex)}{S:List Pr}(h:Wk C H1 a dx dN dc pl nx bk D P S)(k:ZR (Ex3 dc pl nx) H H1){b:Addr}(hb:H1 b=none):H b=none:=by
 cases hc:H b with
 | none=>rfl
 | some o =>
  have:=k b o (h.fresh (H1:=H1) hb) hc;rw[hb] at this;cases this
theorem Wk.link{C:Addr}{H H':Hp}{a dx dN dc pl nx:Addr}{bk:List (Str×Ex)}{D:Nat}{P:List (Str×Ex)}{S S':List Pr}(h:Wk C H a dx dN dc pl nx bk D P S)(k:ZR [nx] H H')(n:NxD H' nx S'):Wk C H' a dx dN dc pl nx bk D P S':=by
 obtain⟨k1,ks,h1,h1'⟩:=h.jo.ct;obtain⟨kN,hN,hN'⟩:=h.jo.nm;obtain⟨v1,h2,h2'⟩:=h.ps;obtain⟨k3,h3,_⟩:=h.lk;have ne:∀{b:Addr}{o:HO},H b=some o->(∀kv,o ≠ .dT kv)->b ∉ [nx]:=fun hb ho z=>by
  rw[List.mem_singleton.mp z,h3] at hb;exact ho _ (Option.some.inj hb).symm
 have tk:TK H H':=fun b xs e=>k _ _ (ne e fun _ z=>nomatch z) e
 exact⟨⟨k _ _ (ne h.jo.ho fun _ z=>nomatch z) h.jo.ho,h.jo.nm.keep k tk (ne hN fun _ z=>nomatch z),⟨k1,ks,k _ _ (ne h1 fun _ z=>nomatch z) h1,h1'⟩,h.jo.ne,h.jo.l8,h.jo.sz⟩,h.ps.keep k tk (ne h2 fun _ z=>nomatch z),n⟩
theorem ZfA{ex ex':List Addr}{H H':Hp}(k:ZR ex H H')(h:∀a∈ex,a∈ex'):ZR ex' H H':=fun b o hb e=>k b o (fun z=>hb (h b z)) e
abbrev LyD(H H':Hp)(t f l:Addr)(r:Ly):Prop:=H f=none/\H l=none/\H t=none/\H' t=some (.tup [.bl r.fr,.ref f,.ref l])/\H' f=some (.lst (r.fi.map V.int))/\H' l=some (.lst (r.la.map V.int))
def ZdV(C:Addr)(D d:Nat):Sp:=fun vs H Q _=>∃(a dx dN dc pl nx:Addr)(bk:List (Str×Ex))(P:List (Str×Ex))(S:List Pr)(p:Addr)(e:Ex),vs=[.ref a,.ref p]/\Wk C H a dx dN dc pl nx bk D P S/\RepE H p e/\sz e<=200/\Ft bk d e/\d<=D/\P.length+cP (bkN bk) d e<=64 /\
 ∀t f l H',ZR (Ex3 dc pl nx) H H'->LyD H H' t f l (lay (bkN bk) d e (P.length:Int))->Wk C H' a dx dN dc pl nx bk D (P++(lay (bkN bk) d e (P.length:Int)).pl) (Zb9 S (lay (bkN bk) d e (P.length:Int)).lk)->Q (.ref t) H'
def laF(N:Str->Ex)(d:Nat)(b:Bool)(k:Int)(l:List Ex):Ly:=l.foldl (fun s p=>seS b s (lay N d p (k+(s.pl.length:Int)))) (ly0 b)
theorem Zc0{N:Str->Ex}{d:Nat}{b:Bool}{k:Int}{l:List Ex}{i:Nat}{e:Ex}(h:l[i]?= some e):laF N d b k (l.take (i+1))=seS b (laF N d b k (l.take i)) (lay N d e (k+((laF N d b k (l.take i)).pl.length:Int))):=by
 obtain⟨h1,h2⟩:=List.getElem?_eq_some_iff.mp h;unfold laF;rw[List.take_succ_eq_append_getElem h1,h2,List.foldl_append];rfl
theorem Zdo(N:Str->Ex)(d:Nat)(b:Bool)(k:Int)(l:List Ex):(laF N d b k l).pl.length=(l.map (cP N d)).sum:=by
 have:=Zfq (k:=k) (b:=b) (ZbJ N d) l (ly0 b);unfold laF;rw[this];show 0+_=_;lia
theorem Zed(N:Str->Ex)(d:Nat)(b:Bool)(k:Int)(l:List Ex):LyR k (laF N d b k l):=Zeh (Zbc N d) l (ly0 b) ⟨.nil,.nil⟩
theorem Zf1(g:Ex->Nat):∀(l:List Ex)(i:Nat),((l.take i).map g).sum<=(l.map g).sum
 | [],i=>by rw[List.take_nil];exact Nat.le_refl _
 | a::l,0=>Nat.zero_le _
 | a::l,i+1=>by
  have:=Zf1 g l i;rw[List.take_succ_cons,List.map_cons,List.map_cons,List.sum_cons,List.sum_cons];lia
theorem Zc2{g:Ex->Nat}{l:List Ex}{i:Nat}{e:Ex}(h:l[i]?= some e):((l.take i).map g).sum+g e<=(l.map g).sum:=by
 have:=Zf1 g l (i+1);obtain⟨h1,h2⟩:=List.getElem?_eq_some_iff.mp h;rw[List.take_succ_eq_append_getElem h1,h2,List.map_append,List.sum_append] at this;simp only[List.map_cons,List.map_nil,List.sum_cons,List.sum_nil] at this;lia
theorem Zaw:∀{l:List Int}{k n:Int},Ris k n l->(l.length:Int)<=max 0 (n-k)
 | [],_,_,_=>by show(0:Int)<=_;lia
 | a::l,k,n,h=>by
  have h1:=List.pairwise_cons.mp h.1;have ha:=h.2 a (List.mem_cons_self ..);have:=Zaw (l:=l) (k:=a+1) (n:=n) ⟨h1.2,fun x hx=>by have:=h1.1 x hx;have:=h.2 x (List.mem_cons_of_mem _ hx);lia⟩;rw[List.length_cons,Int.natCast_add];show(l.length:Int)+1<=_;lia
theorem Zcv{k n:Int}{l:List Int}(h:Ris k n l)(h0:0<=k)(h1:n<=64):Bnd l:=fun x hx=>by have:=h.2 x hx;lia
def ZcI(C:Addr)(D d:Nat)(b:Bool):Sp:=fun vs H Q _=>∃(a dx dN dc pl nx:Addr)(bk:List (Str×Ex))(P:List (Str×Ex))(S:List Pr)(p:Addr)(vs':List V)(ps:Exs),vs=[.ref a,.ref p]/\Wk C H a dx dN dc pl nx bk D P S/\H p=some (.tup vs')/\RepEs H vs' ps/\szs ps<=200/\(∀e∈toL ps,Ft bk d e)/\d<=D/\P.length+((toL ps).map (cP (bkN bk) d)).sum<=64 /\
 ∀t f l H',ZR (Ex3 dc pl nx) H H'->LyD H H' t f l (laF (bkN bk) d b (P.length:Int) (toL ps))->Wk C H' a dx dN dc pl nx bk D (P++(laF (bkN bk) d b (P.length:Int) (toL ps)).pl) (Zb9 S (laF (bkN bk) d b (P.length:Int) (toL ps)).lk)->Q (.ref t) H'
set_option maxHeartbeats 4000000 in
theorem ZbT{C:Addr}(D d k:Nat)(B:∀x∈ZcE,mg x=none)(c_Joining:JoC K C)(g_Joining_walk:HasM P w K mg base C "walk" ["self","expr"] (k+1) (ZdV C D d)) (g_Joining_link:HasM P w K mg base C "link" ["self","lasts","firsts"] 1 (ZfY C)) (F:Fun K "walk_turn" "Joining.walk_turn" Zn f fd):FnOk P w K mg base CX0 (k+2) f fd ["self","parts"] (ZcI C D d true):=by
 refine F.ok ZJ (fun vs H Q E h=>?_) (fun cdv A outer s H vs Q E hr h=>?_)
 ·obtain⟨a,dx,dN,dc,pl,nx,bk,P,S,p,vs',ps,rfl,_⟩:=h;rfl
 obtain⟨a,dx,dN,dc,pl,nx,bk,P,S,p,vs',ps,rfl,W,hp,hR,hs,hF,hD,h64,q⟩:=h;refine Zm ((Zc Zn).drop 4) (Zk (ZC (Z0 (Za (pv 2) (Za (pv 3) (Za (pv 4) Zf)))))) (fun u4 h4 e4=>?_);refine Zm ((Zaq ((Zc Zn).getD 3 (.Pass ⟨0,0,0,0⟩))).drop 4) (Zk (Zx (i:=2) ZJ.nd rfl (Or.inl rfl) (ZcM (pv 2) (ZbY (Zr Zv (pv 6) Ze (fun _ _=>rfl)))))) (fun u3_4 h3_4 e3_4=>?_);refine Zm ((Zaq ((Zc Zn).getD 3 (.Pass ⟨0,0,0,0⟩))).drop 3) (Zd (Zx (i:=4) ZJ.nd rfl (Or.inl rfl) (Zgm (ZaG (Zr Zv (pv 6) Ze (fun _ _=>rfl)) (fun _=>rfl)) (ZF ZbE (pv 4) (Zr Zv (pv 6) Ze (fun _ _=>rfl))) (Zr Zv (pv 6) Ze (fun _ _=>rfl)))) h3_4) (fun u3_3 h3_3 e3_3=>?_);refine Zm ((Zaq ((Zc Zn).getD 3 (.Pass ⟨0,0,0,0⟩))).drop 2) (Zd (Zx (i:=3) ZJ.nd rfl (Or.inl rfl) (Zgm (ZaG (pv 2) (fun _=>rfl)) (ZF ZbE (pv 3) (Zr Zv (pv 6) Ze (fun _ _=>rfl))) (pv 3))) h3_3) (fun u3_2 h3_2 e3_2=>?_);refine Zm ((Zaq ((Zc Zn).getD 3 (.Pass ⟨0,0,0,0⟩))).drop 1) (Zd (Zbu (ZaT g_Joining_link hr (pv 0) c_Joining.cls (Za (pv 4) (Za (Zr Zv (pv 6) Ze (fun _ _=>rfl)) Zf)) (by lia))) h3_2) (fun u3_1 h3_1 e3_1=>?_);refine Zm ((Zaq ((Zc Zn).getD 3 (.Pass ⟨0,0,0,0⟩))).drop 0) (Zd (Zx (i:=6) ZJ.nd rfl (Or.inl rfl) (ZaT g_Joining_walk hr (pv 0) c_Joining.cls (Za (pv 5) Zf) (by lia))) h3_1) (fun u3_0 h3_0 e3_0=>?_);refine Zm ((Zc Zn).drop 3) (Zd (ZaZ PassesOwn.never rfl (ZbX (pv 1)) (ZL (i:=5) ZJ.nd rfl (Or.inl rfl))
   h3_0) h4) (fun u3 h3 e3=>?_)
 refine Zm ((Zc Zn).drop 2) (Zd (Zx (i:=4) ZJ.nd rfl (Or.inl rfl) (Zas Zf)) h3) (fun u2 h2 e2=>?_);refine Zm ((Zc Zn).drop 1) (Zd (Zx (i:=3) ZJ.nd rfl (Or.inl rfl) (Zas Zf)) h2) (fun u1 h1 e1=>?_);refine Zm ((Zc Zn).drop 0) (Zd (Zx (i:=2) ZJ.nd rfl (Or.inl rfl) Zbg) h1) (fun u0 h0 e0=>?_);refine⟨u0,h0,?_⟩;have hvl:=hR.length;have hcl:=Zcs ps;have htl:=ZbL ps;refine Zj e0 ?_;show u1 _ _ _;refine Zj e1 ?_;refine⟨(by show 0<=sizeLine;decide),fun fl hfl=>?_⟩;have s1:Zg H (upd H fl (.lst [])):=Zg.new hfl;have e1':upd H fl (.lst []) fl=some (.lst []):=Zb;generalize upd H fl (.lst [])=H1 at s1 e1' ⊢;show u2 _ _ _;refine Zj e2 ?_;refine⟨(by show 0<=sizeLine;decide),fun ll hll=>?_⟩;have s2:Zg H1 (upd H1 ll (.lst [])):=Zg.new hll;have e2':upd H1 ll (.lst []) ll=some (.lst []):=Zb;generalize upd H1 ll (.lst [])=H2 at s2 e2' ⊢;have s02:=s1.trans s2;show u3 _ _ _;refine Zj e3 ?_;refine⟨_,rfl,p,rfl,⟨vs',SqT.of (s02 _ _ hp)⟩,Zb6 (K:=K) (a:=p) (xs:=vs') (fun i σ H3=>∃(v5 v6:Option V)(f l:Addr),σ =[some (.ref a),some (.ref p),some (.bl (laF (bkN bk) d true (P.length:Int) ((toL ps).take i)).fr),some (.ref f),some (.ref l),v5,v6]/\ZR (Ex3 dc pl nx) H H3/\H f=none/\H l=none/\H3 f=some (.lst ((laF (bkN bk) d true (P.length:Int) ((toL ps).take i)).fi.map V.int))/\H3 l=some (.lst ((laF (bkN bk) d true (P.length:Int) ((toL ps).take i)).la.map V.int)) /\
   Wk C H3 a dx dN dc pl nx bk D (P++(laF (bkN bk) d true (P.length:Int) ((toL ps).take i)).pl) (Zb9 S (laF (bkN bk) d true (P.length:Int) ((toL ps).take i)).lk))
  ⟨none,none,fl,ll,rfl,Zg.keepX s02,hfl,s1.free hll,s2 _ _ e1',e2',by
   show Wk C H2 a dx dN dc pl nx bk D (P ++ []) S;rw[List.append_nil];exact W.same s02⟩ ?_ ?_ ?_⟩
 ·rintro i σ H3 _ ⟨v5,v6,f,l,_,kk,_⟩;exact SqT.of (W.tk kk _ _ hp)
 ·rintro i x σ H3 hx ⟨v5,v6,f,l,rfl,kk,nf,nl,hf3,hl3,W3⟩;obtain⟨pa,ea,rfl,hea,hra⟩:=hR.get hx;have hmem:=List.mem_of_getElem? hea;obtain⟨m1,m2,_⟩:=ZaY hmem;have hnx:=Zc0 (N:=bkN bk) (d:=d) (b:=true) (k:=(P.length:Int)) hea;have hln:=Zdo (bkN bk) d true (P.length:Int) ((toL ps).take i);have hsn:=Zc2 (g:=cP (bkN bk) d) hea;have hrs:=Zed (bkN bk) d true (P.length:Int) ((toL ps).take i);generalize laF (bkN bk) d true (P.length:Int) ((toL ps).take i)=s0 at hnx hln hrs hf3 hl3 W3 ⊢;show u3_0 _ _ _;refine Zj e3_0 ?_;have hPl:((P++s0.pl).length:Int)=(P.length:Int)+(s0.pl.length:Int):=by rw[List.length_append,Int.natCast_add]
  refine⟨_,rfl,a,dx,_,rfl,W3.jo.ho,rfl,_,rfl,a,dx,dN,dc,pl,nx,bk,P++s0.pl,_,pa,ea,rfl,W3,hra.mono (W.tk kk),by lia,hF ea hmem,hD,by rw[List.length_append];lia,fun t f' l' H4 k4 hL W4=>?_⟩;rw[hPl] at hL W4;have hrr:=Zbc (bkN bk) d ea ((P.length:Int)+(s0.pl.length:Int));have hrl:=ZbJ (bkN bk) d ea ((P.length:Int)+(s0.pl.length:Int));generalize lay (bkN bk) d ea ((P.length:Int)+(s0.pl.length:Int))=r at hnx hL W4 hrr hrl;obtain⟨n1,n2,n3,t4,f4,l4⟩:=hL;have k04:=kk.trans k4;have hf4:=k4 _ _ (W.fresh (H1:=H3) nf) hf3;have hl4:=k4 _ _ (W.fresh (H1:=H3) nl) hl3;have hfl':=hrs.1;have hla':=hrs.2;show u3_1 _ _ _;refine Zj e3_1 ?_;have b1:Bnd s0.la:=Zcv hrs.2 (by lia) (by lia);have b2:Bnd r.fi:=Zcv hrr.1 (by lia) (by lia);have b3:Bnd s0.fi:=Zcv hrs.1 (by lia) (by lia);refine⟨_,rfl,a,dx,_,rfl,W4.jo.ho,rfl,_,rfl,_,rfl,t,_,1,_,rfl,rfl,SqT.of t4,rfl,a,dx,dN,dc,pl,nx,l,f',s0.la,r.fi,_,rfl,W4.jo.ho,hl4,f4,W4.lk,b1,b2,fun H5 k5 N5=>?_⟩;have W5:=W4.link k5 N5;have k05:ZR (Ex3 dc pl nx) H H5:=k04.trans (ZfA k5 fun x hx=>by rw[List.mem_singleton.mp hx];exact List.mem_cons_of_mem _ (List.mem_cons_of_mem _ (List.mem_cons_self ..)));have nf':H f'=none:=W3.back kk n1;have nl':H l'=none:=W3.back kk n2;have nt':H t=none:=W3.back kk n3;have lst5:∀{b:Addr}{xs:List V},H b=none->H4 b=some (.lst xs)->H5 b=some (.lst xs):=fun{b xs} hb h=>k5 _ _ (fun z=>W.fresh (H1:=H3) hb (by rw[List.mem_singleton.mp z];exact List.mem_cons_of_mem _ (List.mem_cons_of_mem _ (List.mem_cons_self ..)))) h;have t5:H5 t=some (.tup [.bl r.fr,.ref f',.ref l']):=k5 _ _ (fun z=>W.fresh (H1:=H3) nt' (by rw[List.mem_singleton.mp z];exact List.mem_cons_of_mem _ (List.mem_cons_of_mem _ (List.mem_cons_self ..)))) t4;have f5:=lst5 nf' f4;have l5:=lst5 nl' l4;have hf5:=lst5 nf hf4;have hl5:=lst5 nl hl4;have hlens:s0.fi.length+r.fi.length<=1000/\s0.la.length+r.la.length<=1000:=by
   have x1:=Zaw hrs.1;have x2:=Zaw hrs.2;have x3:=Zaw hrr.1;have x4:=Zaw hrr.2;lia
  have fin:∀(D':Ends)(ff ll:Addr)(fr:Bool)(H7:Hp),(∀ σ H8,(∃(v5 v6:Option V)(f l:Addr),σ =[some (.ref a),some (.ref p),some (.bl (seS true s0 r).fr),some (.ref f),some (.ref l),v5,v6]/\ZR (Ex3 dc pl nx) H H8/\H f=none/\H l=none/\H8 f=some (.lst ((seS true s0 r).fi.map V.int))/\H8 l=some (.lst ((seS true s0 r).la.map V.int))/\Wk C H8 a dx dN dc pl nx bk D (P++(seS true s0 r).pl) (Zb9 S (seS true s0 r).lk))->D'.nx σ H8)->Zg H5 H7->H ff=none->H ll=none->H7 ff=some (.lst ((seS true s0 r).fi.map V.int))->H7 ll=some (.lst ((seS true s0 r).la.map V.int))->u3_4 D' [some (.ref a),some (.ref p),some (.bl s0.fr),some (.ref ff),some (.ref ll),some (.ref pa),some (.ref t)] H7:=by
   intro D' ff ll fr H7 hD' s57 nff nll hff hll';have W7:=W5.same s57;have e7:(seS true s0 r).pl=s0.pl++r.pl:=rfl;have e8:(seS true s0 r).lk=s0.lk++r.lk++lk2 s0.la r.fi:=rfl;rw[List.append_assoc,<- e7,<- ZaV,<- ZaV,<- List.append_assoc,<- e8] at W7;refine Zj e3_4 ?_;refine⟨_,rfl,s0.fr,rfl,?_⟩;cases hb:s0.fr with
   | true =>
    refine Zdb ⟨_,rfl,t,_,0,_,rfl,rfl,SqT.of (s57 _ _ t5),rfl,hD' _ _ ⟨some (.ref pa),some (.ref t),ff,ll,?_,k05.trans (Zg.keepX s57),nff,nll,hff,hll',W7⟩⟩;have:(seS true s0 r).fr=r.fr:=by show(s0.fr&&r.fr)=_;rw[hb];rfl
    rw[this];rfl
   | false =>
    refine Zby (hD' _ _ ⟨some (.ref pa),some (.ref t),ff,ll,?_,k05.trans (Zg.keepX s57),nff,nll,hff,hll',W7⟩);have:(seS true s0 r).fr=false:=by show(s0.fr&&r.fr)=_;rw[hb];rfl
    rw[this];rfl
  have st3:∀(D':Ends)(ff:Addr)(H6:Hp),(∀ σ H8,(∃(v5 v6:Option V)(f l:Addr),σ =[some (.ref a),some (.ref p),some (.bl (seS true s0 r).fr),some (.ref f),some (.ref l),v5,v6]/\ZR (Ex3 dc pl nx) H H8/\H f=none/\H l=none/\H8 f=some (.lst ((seS true s0 r).fi.map V.int))/\H8 l=some (.lst ((seS true s0 r).la.map V.int))/\Wk C H8 a dx dN dc pl nx bk D (P++(seS true s0 r).pl) (Zb9 S (seS true s0 r).lk))->D'.nx σ H8)->Zg H5 H6->H ff=none->H6 ff=some (.lst ((seS true s0 r).fi.map V.int))->u3_3 D' [some (.ref a),some (.ref p),some (.bl s0.fr),some (.ref ff),some (.ref l),some (.ref pa),some (.ref t)] H6:=by
   intro D' ff H6 hD' s56 nff hff;refine Zj e3_3 ?_;have ela:(seS true s0 r).la=if r.fr=true then s0.la++r.la else r.la:=rfl
   refine⟨_,rfl,t,_,0,_,rfl,rfl,SqT.of (s56 _ _ t5),rfl,r.fr,rfl,?_⟩;cases hb:r.fr with
   | true =>
    refine Zdb ⟨_,rfl,_,rfl,t,_,2,_,rfl,rfl,SqT.of (s56 _ _ t5),rfl,l,l',_,_,rfl,rfl,s56 _ _ hl5,s56 _ _ l5,Z9 (by rw[List.length_map,List.length_map];lia),fun l6 hl6=>?_⟩;have s7:Zg H6 (upd H6 l6 (.lst (s0.la.map V.int++r.la.map V.int))):=Zg.new hl6;refine fin D' ff l6 true _ hD' (s56.trans s7) nff (W5.back k05 (s56.free hl6)) (s7 _ _ hff) ?_;rw[Zb,ela,hb,if_pos rfl,List.map_append]
   | false =>
    refine Zby ⟨_,rfl,t,_,2,_,rfl,rfl,SqT.of (s56 _ _ t5),rfl,fin D' ff l' true _ hD' s56 nff nl' hff ?_⟩;rw[ela,hb,if_neg (fun z=>nomatch z)]
    exact s56 _ _ l5
  show u3_2 _ _ _;refine Zj e3_2 ?_;have efi:(seS true s0 r).fi=if s0.fr=true then s0.fi++r.fi else s0.fi:=rfl
  rw[hnx];refine⟨_,rfl,s0.fr,rfl,?_⟩;cases hb:s0.fr with
  | true =>
   refine Zdb ⟨_,rfl,_,rfl,t,_,1,_,rfl,rfl,SqT.of t5,rfl,f,f',_,_,rfl,rfl,hf5,f5,Z9 (by rw[List.length_map,List.length_map];lia),fun l6 hl6=>?_⟩;have s7:Zg H5 (upd H5 l6 (.lst (s0.fi.map V.int++r.fi.map V.int))):=Zg.new hl6;have efi':(seS true s0 r).fi=s0.fi++r.fi:=by rw[efi,hb,if_pos rfl]
   rw[hb] at st3;exact st3 _ l6 _ (fun _ _ h=>h) s7 (W5.back k05 hl6) (by rw[Zb,efi',List.map_append])
  | false =>
   refine Zby ⟨_,rfl,?_⟩;have efi':(seS true s0 r).fi=s0.fi:=by rw[efi,hb,if_neg (fun z=>nomatch z)]
   rw[hb] at st3;exact st3 _ f _ (fun _ _ h=>h) (Zg.refl H5) nf (by rw[efi'];exact hf5)
 rintro σ H3 ⟨v5,v6,f,l,rfl,kk,nf,nl,hf3,hl3,W3⟩;rw[hvl,<- htl,List.take_length] at *;show u4 _ _ _;refine Zj e4 ?_;refine⟨_,rfl,_,rfl,_,rfl,(by show 3<=sizeLine;decide),fun t ht=>?_⟩;have s4:Zg H3 (upd H3 t (.tup [.bl (laF (bkN bk) d true (P.length:Int) (toL ps)).fr,.ref f,.ref l])):=Zg.new ht;exact q t f l _ (kk.trans (Zg.keepX s4)) ⟨nf,nl,W3.back kk ht,Zb,s4 _ _ hf3,s4 _ _ hl3⟩ (W3.same s4)
set_option maxHeartbeats 4000000 in
theorem Zcn{C:Addr}(D d k:Nat)(B:∀x∈ZcE,mg x=none)(c_Joining:JoC K C)(g_Joining_walk:HasM P w K mg base C "walk" ["self","expr"] (k+1) (ZdV C D d)) (F:Fun K "walk_or" "Joining.walk_or" Zt f fd):FnOk P w K mg base CX0 (k+2) f fd ["self","parts"] (ZcI C D d false):=by
 refine F.ok ZQ (fun vs H Q E h=>?_) (fun cdv A outer s H vs Q E hr h=>?_)
 ·obtain⟨a,dx,dN,dc,pl,nx,bk,P,S,p,vs',ps,rfl,_⟩:=h;rfl
 obtain⟨a,dx,dN,dc,pl,nx,bk,P,S,p,vs',ps,rfl,W,hp,hR,hs,hF,hD,h64,q⟩:=h;refine Zm ((Zc Zt).drop 4) (Zk (ZC (Z0 (Za (pv 2) (Za (pv 3) (Za (pv 4) Zf)))))) (fun u4 h4 e4=>?_);refine Zm ((Zaq ((Zc Zt).getD 3 (.Pass ⟨0,0,0,0⟩))).drop 3) (Zk (Zx (i:=4) ZQ.nd rfl (Or.inl rfl) (ZF ZbE (pv 4) (Zr Zv (pv 6) Ze (fun _ _=>rfl))))) (fun u3_3 h3_3 e3_3=>?_);refine Zm ((Zaq ((Zc Zt).getD 3 (.Pass ⟨0,0,0,0⟩))).drop 2) (Zd (Zx (i:=3) ZQ.nd rfl (Or.inl rfl) (ZF ZbE (pv 3) (Zr Zv (pv 6) Ze (fun _ _=>rfl)))) h3_3) (fun u3_2 h3_2 e3_2=>?_);refine Zm ((Zaq ((Zc Zt).getD 3 (.Pass ⟨0,0,0,0⟩))).drop 1) (Zd (Zx (i:=2) ZQ.nd rfl (Or.inl rfl) (Zkt (pv 2) (ZbY (Zr Zv (pv 6) Ze (fun _ _=>rfl))))) h3_2) (fun u3_1 h3_1 e3_1=>?_);refine Zm ((Zaq ((Zc Zt).getD 3 (.Pass ⟨0,0,0,0⟩))).drop 0) (Zd (Zx (i:=6) ZQ.nd rfl (Or.inl rfl) (ZaT g_Joining_walk hr (pv 0) c_Joining.cls (Za (pv 5) Zf) (by lia))) h3_1) (fun u3_0 h3_0 e3_0=>?_);refine Zm ((Zc Zt).drop 3) (Zd (ZaZ PassesOwn.never rfl (ZbX (pv 1)) (ZL (i:=5) ZQ.nd rfl (Or.inl rfl))
   h3_0) h4) (fun u3 h3 e3=>?_)
 refine Zm ((Zc Zt).drop 2) (Zd (Zx (i:=4) ZQ.nd rfl (Or.inl rfl) (Zas Zf)) h3) (fun u2 h2 e2=>?_);refine Zm ((Zc Zt).drop 1) (Zd (Zx (i:=3) ZQ.nd rfl (Or.inl rfl) (Zas Zf)) h2) (fun u1 h1 e1=>?_);refine Zm ((Zc Zt).drop 0) (Zd (Zx (i:=2) ZQ.nd rfl (Or.inl rfl) Zbg) h1) (fun u0 h0 e0=>?_);refine⟨u0,h0,?_⟩;have hvl:=hR.length;have hcl:=Zcs ps;have htl:=ZbL ps;refine Zj e0 ?_;show u1 _ _ _;refine Zj e1 ?_;refine⟨(by show 0<=sizeLine;decide),fun fl hfl=>?_⟩;have s1:Zg H (upd H fl (.lst [])):=Zg.new hfl;have e1':upd H fl (.lst []) fl=some (.lst []):=Zb;generalize upd H fl (.lst [])=H1 at s1 e1' ⊢;show u2 _ _ _;refine Zj e2 ?_;refine⟨(by show 0<=sizeLine;decide),fun ll hll=>?_⟩;have s2:Zg H1 (upd H1 ll (.lst [])):=Zg.new hll;have e2':upd H1 ll (.lst []) ll=some (.lst []):=Zb;generalize upd H1 ll (.lst [])=H2 at s2 e2' ⊢;have s02:=s1.trans s2;show u3 _ _ _;refine Zj e3 ?_;refine⟨_,rfl,p,rfl,⟨vs',SqT.of (s02 _ _ hp)⟩,Zb6 (K:=K) (a:=p) (xs:=vs') (fun i σ H3=>∃(v5 v6:Option V)(f l:Addr),σ =[some (.ref a),some (.ref p),some (.bl (laF (bkN bk) d false (P.length:Int) ((toL ps).take i)).fr),some (.ref f),some (.ref l),v5,v6]/\ZR (Ex3 dc pl nx) H H3/\H f=none/\H l=none/\H3 f=some (.lst ((laF (bkN bk) d false (P.length:Int) ((toL ps).take i)).fi.map V.int))/\H3 l=some (.lst ((laF (bkN bk) d false (P.length:Int) ((toL ps).take i)).la.map V.int)) /\
   Wk C H3 a dx dN dc pl nx bk D (P++(laF (bkN bk) d false (P.length:Int) ((toL ps).take i)).pl) (Zb9 S (laF (bkN bk) d false (P.length:Int) ((toL ps).take i)).lk))
  ⟨none,none,fl,ll,rfl,Zg.keepX s02,hfl,s1.free hll,s2 _ _ e1',e2',by
   show Wk C H2 a dx dN dc pl nx bk D (P ++ []) S;rw[List.append_nil];exact W.same s02⟩ ?_ ?_ ?_⟩
 ·rintro i σ H3 _ ⟨v5,v6,f,l,_,kk,_⟩;exact SqT.of (W.tk kk _ _ hp)
 ·rintro i x σ H3 hx ⟨v5,v6,f,l,rfl,kk,nf,nl,hf3,hl3,W3⟩;obtain⟨pa,ea,rfl,hea,hra⟩:=hR.get hx;have hmem:=List.mem_of_getElem? hea;obtain⟨m1,m2,_⟩:=ZaY hmem;have hnx:=Zc0 (N:=bkN bk) (d:=d) (b:=false) (k:=(P.length:Int)) hea;have hln:=Zdo (bkN bk) d false (P.length:Int) ((toL ps).take i);have hsn:=Zc2 (g:=cP (bkN bk) d) hea;have hrs:=Zed (bkN bk) d false (P.length:Int) ((toL ps).take i);generalize laF (bkN bk) d false (P.length:Int) ((toL ps).take i)=s0 at hnx hln hrs hf3 hl3 W3 ⊢;show u3_0 _ _ _;refine Zj e3_0 ?_;have hPl:((P++s0.pl).length:Int)=(P.length:Int)+(s0.pl.length:Int):=by rw[List.length_append,Int.natCast_add]
  refine⟨_,rfl,a,dx,_,rfl,W3.jo.ho,rfl,_,rfl,a,dx,dN,dc,pl,nx,bk,P++s0.pl,_,pa,ea,rfl,W3,hra.mono (W.tk kk),by lia,hF ea hmem,hD,by rw[List.length_append];lia,fun t f' l' H4 k4 hL W4=>?_⟩;rw[hPl] at hL W4;have hrr:=Zbc (bkN bk) d ea ((P.length:Int)+(s0.pl.length:Int));have hrl:=ZbJ (bkN bk) d ea ((P.length:Int)+(s0.pl.length:Int));generalize lay (bkN bk) d ea ((P.length:Int)+(s0.pl.length:Int))=r at hnx hL W4 hrr hrl;obtain⟨n1,n2,n3,t4,f4,l4⟩:=hL;have k04:=kk.trans k4;have hf4:=k4 _ _ (W.fresh (H1:=H3) nf) hf3;have hl4:=k4 _ _ (W.fresh (H1:=H3) nl) hl3;have nf':H f'=none:=W3.back kk n1;have nl':H l'=none:=W3.back kk n2;have hlens:s0.fi.length+r.fi.length<=1000/\s0.la.length+r.la.length<=1000:=by
   have x1:=Zaw hrs.1;have x2:=Zaw hrs.2;have x3:=Zaw hrr.1;have x4:=Zaw hrr.2;lia
  have e7:(seS false s0 r).pl=s0.pl++r.pl:=rfl;have e8:(seS false s0 r).lk=s0.lk++r.lk:=rfl;have e9:(seS false s0 r).fr=(s0.fr || r.fr):=rfl;have e10:(seS false s0 r).fi=s0.fi++r.fi:=rfl;have e11:(seS false s0 r).la=s0.la++r.la:=rfl;rw[List.append_assoc,<- e7,<- ZaV,<- e8] at W4;rw[hnx];have fin:∀(D':Ends)(fr:Bool),fr=(seS false s0 r).fr->(∀ σ H8,(∃(v5 v6:Option V)(f l:Addr),σ =[some (.ref a),some (.ref p),some (.bl (seS false s0 r).fr),some (.ref f),some (.ref l),v5,v6]/\ZR (Ex3 dc pl nx) H H8/\H f=none/\H l=none/\H8 f=some (.lst ((seS false s0 r).fi.map V.int))/\H8 l=some (.lst ((seS false s0 r).la.map V.int))/\Wk C H8 a dx dN dc pl nx bk D (P++(seS false s0 r).pl) (Zb9 S (seS false s0 r).lk))->D'.nx σ H8)->u3_2 D' [some (.ref a),some (.ref p),some (.bl fr),some (.ref f),some (.ref l),some (.ref pa),some (.ref t)] H4:=by
   intro D' fr hfr hD';refine Zj e3_2 ?_;refine⟨_,rfl,_,rfl,t,_,1,_,rfl,rfl,SqT.of t4,rfl,f,f',_,_,rfl,rfl,hf4,f4,Z9 (by rw[List.length_map,List.length_map];lia),fun l5 hl5=>?_⟩;have s5:Zg H4 (upd H4 l5 (.lst (s0.fi.map V.int++r.fi.map V.int))):=Zg.new hl5;have x5:upd H4 l5 (.lst (s0.fi.map V.int++r.fi.map V.int)) l5=some (.lst ((seS false s0 r).fi.map V.int)):=by rw[Zb,e10,List.map_append]
   generalize upd H4 l5 (.lst (s0.fi.map V.int++r.fi.map V.int))=H5 at s5 x5 ⊢;show u3_3 _ _ _;refine Zj e3_3 ?_;refine⟨_,rfl,_,rfl,t,_,2,_,rfl,rfl,SqT.of (s5 _ _ t4),rfl,l,l',_,_,rfl,rfl,s5 _ _ hl4,s5 _ _ l4,Z9 (by rw[List.length_map,List.length_map];lia),fun l6 hl6=>?_⟩;have s6:Zg H5 (upd H5 l6 (.lst (s0.la.map V.int++r.la.map V.int))):=Zg.new hl6;have x6:upd H5 l6 (.lst (s0.la.map V.int++r.la.map V.int)) l6=some (.lst ((seS false s0 r).la.map V.int)):=by rw[Zb,e11,List.map_append]
   refine hD' _ _ ⟨some (.ref pa),some (.ref t),l5,l6,?_,k04.trans (Zg.keepX (s5.trans s6)),W4.back k04 hl5,W4.back k04 (s5.free hl6),s6 _ _ x5,x6,W4.same (s5.trans s6)⟩;rw[<- hfr];rfl
  show u3_1 _ _ _;refine Zj e3_1 ?_;refine⟨_,rfl,s0.fr,rfl,?_⟩;cases hb:s0.fr with
  | true=>exact Zdb (fin _ true (by rw[e9,hb];rfl) (fun _ _ h=>h))
  | false=>exact Zby ⟨_,rfl,t,_,0,_,rfl,rfl,SqT.of t4,rfl,fin _ r.fr (by rw[e9,hb];rfl) (fun _ _ h=>h)⟩
 rintro σ H3 ⟨v5,v6,f,l,rfl,kk,nf,nl,hf3,hl3,W3⟩;rw[hvl,<- htl,List.take_length] at *;show u4 _ _ _;refine Zj e4 ?_;refine⟨_,rfl,_,rfl,_,rfl,(by show 3<=sizeLine;decide),fun t ht=>?_⟩;have s4:Zg H3 (upd H3 t (.tup [.bl (laF (bkN bk) d false (P.length:Int) (toL ps)).fr,.ref f,.ref l])):=Zg.new ht;exact q t f l _ (kk.trans (Zg.keepX s4)) ⟨nf,nl,W3.back kk ht,Zb,s4 _ _ hf3,s4 _ _ hl3⟩ (W3.same s4)
theorem Wk.dc{C:Addr}{H H':Hp}{a dx dN dc pl nx:Addr}{bk:List (Str×Ex)}{D:Nat}{P:List (Str×Ex)}{S:List Pr}(h:Wk C H a dx dN dc pl nx bk D P S)(k:ZR [dc] H H')(J:Jo C H' a dx dN dc pl nx bk D):Wk C H' a dx dN dc pl nx bk D P S:=by
 obtain⟨k1,_,h1,_⟩:=h.jo.ct;obtain⟨v1,h2,_⟩:=h.ps;obtain⟨k3,h3,_⟩:=h.lk;exact⟨J,h.ps.keep k (Zle k h1) (fun z=>by rw[List.mem_singleton.mp z,h1] at h2;cases h2),h.lk.keep k (fun z=>by rw[List.mem_singleton.mp z,h1] at h3;cases h3)⟩
theorem Wk.put{C:Addr}{H:Hp}{a dx dN dc pl nx t q:Addr}{bk:List (Str×Ex)}{D:Nat}{P:List (Str×Ex)}{S:List Pr}{x:Str×Ex}{vs:List V}(h:Wk C H a dx dN dc pl nx bk D P S)(hp:H pl=some (.lst vs))(ht:H t=some (.tup [.str x.1,.ref q]))(hq:RepE H q x.2):Wk C (upd H pl (.lst (vs ++ [.ref t]))) a dx dN dc pl nx bk D (P ++ [x]) S:=by
 obtain⟨v1,h2,h2'⟩:=h.ps;rw[hp] at h2;cases h2;have tk:TK H (upd H pl (.lst (vs ++ [.ref t]))):=TK.lst hp;obtain⟨k3,h3,h3'⟩:=h.lk;refine⟨h.jo.lst hp,⟨_,Zb,Paired.app (Plc.tk tk h2') (.cons ⟨t,q,rfl,tk _ _ ht,hq.mono tk⟩ .nil)⟩,⟨k3,?_,h3'⟩⟩;rw[Zu (fun z=>by rw[z,hp] at h3;cases h3)];exact h3
theorem Zd1(m:Nat):(m=0/\ZbV m= "many")\/(m=1/\ZbV m= "some")\/(2<=m/\ZbV m= "maybe"):=by
 unfold ZbV
 split
 ·rename_i h
  exact .inl ⟨h,rfl⟩
 ·split
  ·rename_i h
   exact .inr (.inl ⟨h,rfl⟩)
  ·exact .inr (.inr ⟨by lia,rfl⟩)
theorem Zao{a b:Str}(h:a≠b) : ¬ decide (V.str a=V.str b)=true:=fun z=>h (by have z:=of_decide_eq_true z;injection z)
set_option maxHeartbeats 4000000 in
theorem Zdm{C:Addr}(D d k:Nat)(hDk:D<=k)(B:∀x∈ZcE,mg x=none)(c_Joining:JoC K C)(g_Joining_count_places:HasM P w K mg base C "count_places" ["self","expr"] (D+2) (Zdr C D D)) (g_Joining_walk:HasM P w K mg base C "walk" ["self","expr"] (k+1) (ZdV C D d)) (g_Joining_walk_turn:HasM P w K mg base C "walk_turn" ["self","parts"] (k+2) (ZcI C D d true)) (g_Joining_walk_or:HasM P w K mg base C "walk_or" ["self","parts"] (k+2) (ZcI C D d false)) (g_Joining_link:HasM P w K mg base C "link" ["self","lasts","firsts"] 1 (ZfY C)) (F:Fun K "walk" "Joining.walk" Zw f fd):FnOk P w K mg base CX0 (k+3) f fd ["self","expr"] (ZdV C D (d+1)):=by
 refine F.ok Zbb (fun vs H Q E h=>?_) (fun cdv A outer s H vs Q E hr h=>?_)
 ·obtain⟨a,dx,dN,dc,pl,nx,bk,P,S,p,e,rfl,_⟩:=h;rfl
 obtain⟨a,dx,dN,dc,pl,nx,bk,P,S,p,e,rfl,W,hR,hs,hF,hD,h64,q⟩:=h;have c:=c_Joining;have hu1:(A.deeper (PyProof.Rows.envOfC (Str.ofString "Joining.walk") (Zh Zw) s.heap.objs.size f cdv)).units+1<cLine:=by have:=hr.un;lia
 refine Zm ((Zc Zw).drop 8) (Zk (ZC (Z0 (Za (Zkt (Zr Zv (pv 3) Ze (fun _ _=>rfl)) (ZbY (Za7 ZiV (pv 2) ZP (ZV _)))) (Za (Zr Zv (pv 3) Ze (fun _ _=>rfl)) (Za (Zr Zv (pv 3) Ze (fun _ _=>rfl)) Zf)))))) (fun u8 h8 e8=>?_);refine Zm ((Zc Zw).drop 7) (Zd (Zah (ZD ZaP (pv 2) (Z0 (Za ZP (Za ZP Zf))) (by with_unfolding_all rfl))
   (Zk (Zbu (ZaT g_Joining_link hr (pv 0) c_Joining.cls (Za (Zr Zv (pv 3) Ze (fun _ _=>rfl)) (Za (Zr Zv (pv 3) Ze (fun _ _=>rfl)) Zf)) (by lia))))
   Zy) h8) (fun u7 h7 e7=>?_)
 refine Zm ((Zc Zw).drop 6) (Zd (Zx (i:=3) Zbb.nd rfl (Or.inl rfl) (ZaT g_Joining_walk hr (pv 0) c_Joining.cls (Za (Zr Zv (pv 1) Ze (fun _ _=>rfl)) Zf) (by lia))) h7) (fun u6 h6 e6=>?_);refine Zm ((Zc Zw).drop 5) (Zd (Zah (ZD ZaN (pv 2) ZP (ZV _))
   (Zk (ZC (ZaT g_Joining_walk_or hr (pv 0) c_Joining.cls (Za (Zr Zv (pv 1) Ze (fun _ _=>rfl)) Zf) (by lia))))
   Zy) h6) (fun u5 h5 e5=>?_)
 refine Zm ((Zc Zw).drop 4) (Zd (Zah (ZD ZaN (pv 2) ZP (ZV _))
   (Zk (ZC (ZaT g_Joining_walk_turn hr (pv 0) c_Joining.cls (Za (Zr Zv (pv 1) Ze (fun _ _=>rfl)) Zf) (by lia))))
   Zy) h5) (fun u4 h4 e4=>?_)
 refine Zm ((Zc Zw).drop 3) (Zd (Zah (ZD ZaN (pv 2) ZP (ZV _))
   (Zk (ZC (ZaT g_Joining_walk hr (pv 0) c_Joining.cls (Za (ZcB hu1 (ZbG (pv 0) rfl) (Zr Zv (pv 1) Ze (fun _ _=>rfl)) (fun _ _=>rfl)) Zf) (by lia))))
   Zy) h4) (fun u3 h3 e3=>?_)
 refine Zm ((Zaq ((Zc Zw).getD 2 (.Pass ⟨0,0,0,0⟩))).drop 1) (Zk (ZC (Z0 (Za Zbg (Za (Zas (Za (ZF Zcj (Zz Z1 rfl (B "len" (by decide)) PySem.boot_len (Za (ZbG (pv 0) rfl) Zf)) Ze) Zf)) (Za (Zas (Za (ZF Zcj (Zz Z1 rfl (B "len" (by decide)) PySem.boot_len (Za (ZbG (pv 0) rfl) Zf)) Ze) Zf)) Zf)))))) (fun u2t1 h2t1 e2t1=>?_);refine Zm ((Zaq ((Zc Zw).getD 2 (.Pass ⟨0,0,0,0⟩))).drop 0) (Zd (Zbu (ZhZ PySem.F.plainAttrs_list PySem.F.slot_list_append PySem.F.type_list_append Zct (ZbG (pv 0) rfl) (Za (Z0 (Za (Zr Zv (pv 1) Ze (fun _ _=>rfl)) (Za (Zr Zv (pv 1) Ze (fun _ _=>rfl)) Zf))) Zf))) h2t1) (fun u2t0 h2t0 e2t0=>?_);refine Zm ((Zc Zw).drop 2) (Zd (Zah (ZD ZaN (pv 2) ZP (ZV _))
   h2t0
   Zy) h3) (fun u2 h2 e2=>?_)
 refine Zm ((Zc Zw).drop 1) (Zd (Zah (PW.pt (Zj7 (ZD ZaN (pv 2) ZP (ZV _)) (Zh7 (PW.pt (ZcQ (ZD ZaN (pv 2) ZP (ZV _)) (Zb7 (ZD ZaN (ZaT g_Joining_count_places hr (pv 0) c_Joining.cls (Za (pv 1) Zf) (by lia)) Ze (ZV _))))))))
   (Zk (ZC (Z0 (Za Zbg (Za (Zas Zf) (Za (Zas Zf) Zf))))))
   Zy) h2) (fun u1 h1 e1=>?_)
 refine Zm ((Zc Zw).drop 0) (Zd (Zx (i:=2) Zbb.nd rfl (Or.inl rfl) (Zr Zv (pv 1) Ze (fun _ _=>rfl))) h1) (fun u0 h0 e0=>?_);refine⟨u0,h0,?_⟩;have kee:=fun{x:Addr}(hx:x ∈ [nx])=>(show x∈Ex3 dc pl nx from by rw[List.mem_singleton.mp hx];exact List.mem_cons_of_mem _ (List.mem_cons_of_mem _ (List.mem_cons_self ..)));have kee2:=fun{x:Addr}(hx:x ∈ [dc])=>(show x∈Ex3 dc pl nx from by rw[List.mem_singleton.mp hx];exact List.mem_cons_self ..);have nothing:∀(D':Ends)(σ : St)(H1:Hp),D'.rt=Q->ZR (Ex3 dc pl nx) H H1->Wk C H1 a dx dN dc pl nx bk D P S->lay (bkN bk) (d+1) e (P.length:Int)=ly0 true->ZlD (ZlA (Zfi (tC (.bl true)) (Zfi (Zly Zku) (Zfi (Zly Zku) Zku)))) D' σ H1:=by
  intro D' σ H1 hD' k1 W1 hl;refine⟨(by show 0<=sizeLine;decide),fun f hf=>⟨(by show 0<=sizeLine;decide),fun l hl'=>⟨(by show 3<=sizeLine;decide),fun t ht=>?_⟩⟩⟩;obtain⟨n1,hl1⟩:=ZaH hl';obtain⟨n2,ht1⟩:=ZaH ht;obtain⟨n3,ht2⟩:=ZaH ht1;have s1:Zg H1 (upd (upd (upd H1 f (.lst [])) l (.lst [])) t (.tup [.bl true,.ref f,.ref l])):=((Zg.new hf).upd_new hl1).upd_new ht2;rw[hD'];refine q t f l _ (k1.trans (Zg.keepX s1)) ?_ ?_
  ·rw[hl];refine⟨W1.back k1 hf,W1.back k1 hl1,W1.back k1 ht2,Zb,?_,?_⟩
   ·rw[Zu n3.symm,Zu n1.symm];exact Zb
   ·rw[Zu n2.symm];exact Zb
  ·rw[hl];show Wk C _ a dx dN dc pl nx bk D (P ++ []) S;rw[List.append_nil];exact W1.same s1
 obtain⟨r0,ht,_⟩:=hR.top;refine Zj e0 ?_;refine⟨_,rfl,p,_,0,_,rfl,rfl,SqT.of ht,at0,?_⟩;show u1 _ _ _;refine Zj e1 ?_;cases hR with
 | nil h=>exact⟨_,rfl,rfl,_,rfl,Zax (fun _=>Zdb (nothing _ _ H rfl (Zg.keepX (Zg.refl H)) W rfl)) (fun z=>absurd (decide_eq_true rfl) z)⟩
 | @tag _ q' t i h r =>
  refine⟨_,rfl,rfl,_,rfl,Zax (fun z=>absurd z (Zao (show Str.ofString "tag" ≠ _ by decide))) (fun _=>?_)⟩;refine⟨_,rfl,rfl,_,rfl,Zax (fun z=>absurd z (Zao (show Str.ofString "tag" ≠ _ by decide))) (fun _=>?_)⟩;show u2 _ _ _;refine Zj e2 ?_;refine⟨_,rfl,rfl,_,rfl,Zax (fun _=>?_) (fun z=>absurd (decide_eq_true rfl) z)⟩;refine Zj e2t0 ?_;obtain⟨vs,hpl,hP⟩:=id W.ps;have hvl:vs.length=P.length:=Paired.length hP;have h64:P.length+1<=64:=h64;refine⟨_,rfl,a,C,dx,_,_,rfl,W.jo.ho,c.cls,c.n3,rfl,.inl ⟨rfl,_,SqL.of hpl⟩,_,rfl,p,_,1,_,rfl,rfl,SqT.of h,rfl,_,rfl,p,_,2,_,rfl,rfl,SqT.of h,rfl,(by show 2<=sizeLine;decide),fun t1 ht1=>?_⟩;have s1:Zg H (upd H t1 (.tup [.str t,.ref q'])):=Zg.new ht1;have x1:upd H t1 (.tup [.str t,.ref q']) t1=some (.tup [.str t,.ref q']):=Zb;generalize upd H t1 (.tup [.str t,.ref q'])=H1 at s1 x1 ⊢;have W1:=W.same s1;have hpl1:=s1 _ _ hpl;refine⟨pl,_,_,rfl,rfl,hpl1,Z4 (by lia),?_⟩;have W2:=W1.put (x:=(t,i)) hpl1 x1 (r.mono s1.tk);have k2:ZR (Ex3 dc pl nx) H (upd H1 pl (.lst (vs ++ [.ref t1]))):=ZR.upd (Zg.keepX s1) (List.mem_cons_of_mem _ (List.mem_cons_self ..));have hpl2:upd H1 pl (.lst (vs ++ [.ref t1])) pl=some (.lst (vs ++ [.ref t1])):=Zb;generalize upd H1 pl (.lst (vs ++ [.ref t1]))=H2 at W2 k2 hpl2 ⊢;have hlen:(((vs ++ [V.ref t1]).length:Nat):Int)-1=(P.length:Int):=by
   rw[List.length_append];show((vs.length+1:Nat):Int)-1=_;lia
  show u2t1 _ _ _;refine Zj e2t1 ?_;refine⟨_,rfl,a,C,dx,_,_,rfl,W2.jo.ho,c.cls,c.n3,rfl,pl,_,rfl,.inl (SqL.of hpl2),_,_,rfl,rfl,(by show 1<=sizeLine;decide),fun f hf=>?_⟩;have hg:([V.int ((((vs ++ [V.ref t1]).length:Nat):Int)-1)]:List V)=[.int (P.length:Int)]:=by rw[hlen]
  rw[hg];have s3:Zg H2 (upd H2 f (.lst [.int (P.length:Int)])):=Zg.new hf;have x3:upd H2 f (.lst [.int (P.length:Int)]) f=some (.lst [.int (P.length:Int)]):=Zb;generalize upd H2 f (.lst [.int (P.length:Int)])=H3 at s3 x3 ⊢;have W3:=W2.same s3;refine⟨_,rfl,a,C,dx,_,_,rfl,W3.jo.ho,c.cls,c.n3,rfl,pl,_,rfl,.inl (SqL.of (s3 _ _ hpl2)),_,_,rfl,rfl,(by show 1<=sizeLine;decide),fun l hl=>?_⟩;rw[hg];have s4:Zg H3 (upd H3 l (.lst [.int (P.length:Int)])):=Zg.new hl;have x4:upd H3 l (.lst [.int (P.length:Int)]) l=some (.lst [.int (P.length:Int)]):=Zb;generalize upd H3 l (.lst [.int (P.length:Int)])=H4 at s4 x4 ⊢;refine⟨(by show 3<=sizeLine;decide),fun t5 ht5=>?_⟩;have s5:Zg H4 (upd H4 t5 (.tup [.bl false,.ref f,.ref l])):=Zg.new ht5;have s25:=(s3.trans s4).trans s5;exact q t5 f l _ (k2.trans (Zg.keepX s25)) ⟨W2.back k2 hf,W2.back k2 (s3.free hl),W2.back k2 ((s3.trans s4).free ht5),Zb,s5 _ _ (s4 _ _ x3),s5 _ _ x4⟩ (W2.same s25)
 | @name _ n h =>
  refine⟨_,rfl,rfl,_,rfl,Zax (fun z=>absurd z (Zao (show Str.ofString "name" ≠ _ by decide))) (fun _=>?_)⟩;refine⟨_,rfl,rfl,_,rfl,Zax (fun _=>?_) (fun z=>absurd (decide_eq_true rfl) z)⟩;have hcD:cP (bkN bk) D (.name n)=cP (bkN bk) (d+1) (.name n):=ZkY hF hD;refine⟨_,rfl,a,dx,_,rfl,W.jo.ho,rfl,_,rfl,a,dx,dN,dc,pl,nx,bk,p,.name n,rfl,W.jo,.name h,hs,hF.le hD,Nat.le_refl _,fun H1 k1 J1=>?_⟩;rw[hcD];have W1:=W.dc k1 J1;have k1':ZR (Ex3 dc pl nx) H H1:=ZfA k1 fun x hx=>kee2 hx;refine⟨rfl,_,rfl,Zax (fun z=>?_) (fun z=>?_)⟩
  ·have z:V.int ((cP (bkN bk) (d+1) (.name n):Nat):Int)=V.int 0:=of_decide_eq_true z;injection z with z;exact nothing _ _ H1 rfl k1' W1 (ZcY hF (by lia))
  show u2 _ _ _;refine Zj e2 ?_;refine⟨_,rfl,rfl,_,rfl,Zax (fun z=>absurd z (Zao (show Str.ofString "name" ≠ _ by decide))) (fun _=>?_)⟩;show u3 _ _ _;refine Zj e3 ?_;refine⟨_,rfl,rfl,_,rfl,Zax (fun _=>?_) (fun z=>absurd (decide_eq_true rfl) z)⟩;obtain⟨hU,hF'⟩:=hF;obtain⟨kvN,hdN,hvN⟩:=id W1.jo.nm;obtain⟨q',hq1,hq2⟩:=hvN n hU;have h1:=W.tk k1' _ _ h;refine⟨_,rfl,a,dx,_,rfl,W1.jo.ho,rfl,_,rfl,a,C,dx,_,_,rfl,W1.jo.ho,c.cls,c.n1,rfl,_,rfl,p,_,1,_,rfl,rfl,SqT.of h1,rfl,dN,.ref q',rfl,by rw[<- hq1];exact Zev.k (k:=.inr n) hdN,a,dx,dN,dc,pl,nx,bk,P,S,q',_,rfl,W1,hq2,W1.jo.sz n hU,hF',by lia,h64,fun t f l H2 k2 hL W2=>?_⟩;obtain⟨m1,m2,m3,m4⟩:=hL;exact q t f l H2 (k1'.trans k2) ⟨W1.back k1' m1,W1.back k1' m2,W1.back k1' m3,m4⟩ W2
 | @several _ q' b vs' ps h1 h2 r =>
  have nn:∀x:Str,(x= "nil" \/ x= "name" \/ x= "tag")->Zc8 b≠x:=by
   rintro x (rfl|rfl|rfl) <;> cases b <;> decide
  refine⟨_,rfl,rfl,_,rfl,Zax (fun z=>absurd z (Zao (nn _ (.inl rfl)))) (fun _=>?_)⟩;refine⟨_,rfl,rfl,_,rfl,Zax (fun z=>absurd z (Zao (nn _ (.inr (.inl rfl))))) (fun _=>?_)⟩;show u2 _ _ _;refine Zj e2 ?_;refine⟨_,rfl,rfl,_,rfl,Zax (fun z=>absurd z (Zao (nn _ (.inr (.inr rfl))))) (fun _=>?_)⟩;show u3 _ _ _;refine Zj e3 ?_;refine⟨_,rfl,rfl,_,rfl,Zax (fun z=>absurd z (Zao (nn _ (.inr (.inl rfl))))) (fun _=>?_)⟩;show u4 _ _ _;refine Zj e4 ?_;have hs:szs ps+1<=200:=hs;cases b with
  | true =>
   refine⟨_,rfl,rfl,_,rfl,Zax (fun _=>?_) (fun z=>absurd (decide_eq_true rfl) z)⟩;exact⟨_,rfl,a,dx,_,rfl,W.jo.ho,rfl,_,rfl,p,_,1,_,rfl,rfl,SqT.of h1,rfl,a,dx,dN,dc,pl,nx,bk,P,S,q',vs',ps,rfl,W,h2,r,by lia,hF.2,by lia,h64,q⟩
  | false =>
   refine⟨_,rfl,rfl,_,rfl,Zax (fun z=>absurd z (Zao (show Str.ofString "or" ≠ _ by decide))) (fun _=>?_)⟩;show u5 _ _ _;refine Zj e5 ?_;refine⟨_,rfl,rfl,_,rfl,Zax (fun _=>?_) (fun z=>absurd (decide_eq_true rfl) z)⟩;exact⟨_,rfl,a,dx,_,rfl,W.jo.ho,rfl,_,rfl,p,_,1,_,rfl,rfl,SqT.of h1,rfl,a,dx,dN,dc,pl,nx,bk,P,S,q',vs',ps,rfl,W,h2,r,by lia,hF.2,by lia,h64,q⟩
 | @rep _ q' m i h r =>
  have hm:=Zd1 m;have nn:∀x:Str,(x= "nil" \/ x= "name" \/ x= "tag" \/ x= "turn" \/ x= "or")->ZbV m≠x:=by
   intro x hx;rcases hm with⟨_,e⟩|⟨_,e⟩|⟨_,e⟩ <;> rw[e] <;> rcases hx with rfl|rfl|rfl|rfl|rfl <;> decide
  refine⟨_,rfl,rfl,_,rfl,Zax (fun z=>absurd z (Zao (nn _ (.inl rfl)))) (fun _=>?_)⟩;refine⟨_,rfl,rfl,_,rfl,Zax (fun z=>absurd z (Zao (nn _ (.inr (.inl rfl))))) (fun _=>?_)⟩;show u2 _ _ _;refine Zj e2 ?_;refine⟨_,rfl,rfl,_,rfl,Zax (fun z=>absurd z (Zao (nn _ (.inr (.inr (.inl rfl)))))) (fun _=>?_)⟩;show u3 _ _ _;refine Zj e3 ?_;refine⟨_,rfl,rfl,_,rfl,Zax (fun z=>absurd z (Zao (nn _ (.inr (.inl rfl))))) (fun _=>?_)⟩;show u4 _ _ _;refine Zj e4 ?_;refine⟨_,rfl,rfl,_,rfl,Zax (fun z=>absurd z (Zao (nn _ (.inr (.inr (.inr (.inl rfl))))))) (fun _=>?_)⟩;show u5 _ _ _;refine Zj e5 ?_;refine⟨_,rfl,rfl,_,rfl,Zax (fun z=>absurd z (Zao (nn _ (.inr (.inr (.inr (.inr rfl))))))) (fun _=>?_)⟩;show u6 _ _ _;refine Zj e6 ?_;have hs:sz i+1<=200:=hs;have h64:P.length+cP (bkN bk) d i<=64:=h64;refine⟨_,rfl,a,dx,_,rfl,W.jo.ho,rfl,_,rfl,p,_,1,_,rfl,rfl,SqT.of h,rfl,a,dx,dN,dc,pl,nx,bk,P,S,q',i,rfl,W,r,by lia,hF,by lia,h64,fun t f l H1 k1 hL W1=>?_⟩;have hla:lay (bkN bk) (d+1) (.rep m i) (P.length:Int)=⟨(lay (bkN bk) d i (P.length:Int)).fr || decide (m≠1),(lay (bkN bk) d i (P.length:Int)).fi,(lay (bkN bk) d i (P.length:Int)).la,(lay (bkN bk) d i (P.length:Int)).pl,(lay (bkN bk) d i (P.length:Int)).lk++(if m<=1 then lk2 (lay (bkN bk) d i (P.length:Int)).la (lay (bkN bk) d i (P.length:Int)).fi else [])⟩:=rfl
  have hrr:=Zbc (bkN bk) d i (P.length:Int);have hrl:=ZbJ (bkN bk) d i (P.length:Int);rw[hla] at q;generalize lay (bkN bk) d i (P.length:Int)=r1 at hL W1 hrr hrl q;obtain⟨n1,n2,n3,t1,f1,l1⟩:=hL;have fin:∀(H2:Hp),ZR (Ex3 dc pl nx) H H2->H2 t=some (.tup [.bl r1.fr,.ref f,.ref l])->H2 f=some (.lst (r1.fi.map V.int))->H2 l=some (.lst (r1.la.map V.int))->Wk C H2 a dx dN dc pl nx bk D (P++r1.pl) (Zb9 S (r1.lk++(if m<=1 then lk2 r1.la r1.fi else [])))->u8 { nx:=fun _ H'=>Q .non H',rt:=Q } [some (.ref a),some (.ref p),some (.str (ZbV m)),some (.ref t)] H2:=by
   intro H2 k2 t2 f2 l2 W2;refine Zj e8 ?_;have last:∀b:Bool,b=(r1.fr || decide (m≠1))->∀t5,H2 t5=none->Q (.ref t5) (upd H2 t5 (.tup [.bl b,.ref f,.ref l])):=by
    intro b hb t5 ht5;have s5:Zg H2 (upd H2 t5 (.tup [.bl b,.ref f,.ref l])):=Zg.new ht5;exact q t5 f l _ (k2.trans (Zg.keepX s5)) ⟨n1,n2,W2.back k2 ht5,by rw[Zb,hb],s5 _ _ f2,s5 _ _ l2⟩ (W2.same s5)
   refine⟨_,rfl,t,_,0,_,rfl,rfl,SqT.of t2,rfl,r1.fr,rfl,?_⟩;cases hb:r1.fr with
   | true =>
    refine Zdb ⟨_,rfl,t,_,1,_,rfl,rfl,SqT.of t2,rfl,_,rfl,t,_,2,_,rfl,rfl,SqT.of t2,rfl,(by show 3<=sizeLine;decide),fun t5 ht5=>last true (by rw[hb];rfl) t5 ht5⟩
   | false =>
    refine Zby ⟨_,rfl,rfl,_,rfl,t,_,1,_,rfl,rfl,SqT.of t2,rfl,_,rfl,t,_,2,_,rfl,rfl,SqT.of t2,rfl,(by show 3<=sizeLine;decide),fun t5 ht5=>last _ ?_ t5 ht5⟩;rw[hb,Bool.false_or];rcases hm with⟨e,e'⟩|⟨e,e'⟩|⟨e,e'⟩
    ·rw[e',e];decide
    ·rw[e',e];decide
    ·rw[e',decide_eq_true (show m≠1 by lia)];decide
  show u7 _ _ _;refine Zj e7 ?_;refine⟨_,rfl,(by show 2<=sizeLine;decide),fun tt htt=>⟨tt,_,rfl,.inr (SqT.of Zb),rfl,rfl,_,rfl,?_⟩⟩;have s2:Zg H1 (upd H1 tt (.tup [.str "many",.str "some"])):=Zg.new htt;generalize upd H1 tt (.tup [.str "many",.str "some"])=H2 at s2 ⊢;have W2:=W1.same s2;have k2:=k1.trans (Zg.keepX s2);have hin:inV (.str (ZbV m)) ((["many","some"]:List Str).map V.str)=decide (m<=1):=by
   rw[ZcJ];rcases hm with⟨e,e'⟩|⟨e,e'⟩|⟨e,e'⟩
   ·rw[e',e];decide
   ·rw[e',e];decide
   ·rw[e',decide_eq_false (show ¬ m<=1 by lia)];decide
  refine Zax (fun z=>?_) (fun z=>?_)
  ·have hm1:m<=1:=of_decide_eq_true (by rw[<- hin];exact z);refine⟨_,rfl,a,dx,_,rfl,W2.jo.ho,rfl,_,rfl,t,_,2,_,rfl,rfl,SqT.of (s2 _ _ t1),rfl,_,rfl,t,_,1,_,rfl,rfl,SqT.of (s2 _ _ t1),rfl,a,dx,dN,dc,pl,nx,l,f,r1.la,r1.fi,_,rfl,W2.jo.ho,s2 _ _ l1,s2 _ _ f1,W2.lk,Zcv hrr.2 (by lia) (by lia),Zcv hrr.1 (by lia) (by lia),fun H3 k3 N3=>?_⟩;have W3:=W2.link k3 N3;rw[<- ZaV] at W3;have o3:∀{b:Addr}{o:HO},H b=none->H2 b=some o->H3 b=some o:=fun{b o} hb h=>k3 _ _ (fun z=>W.fresh (H1:=H) hb (kee z)) h;exact fin H3 (k2.trans (ZfA k3 fun x hx=>kee hx)) (o3 n3 (s2 _ _ t1)) (o3 n1 (s2 _ _ f1)) (o3 n2 (s2 _ _ l1)) (by rw[if_pos hm1];exact W3)
  ·have hm1 : ¬ m<=1:=fun y=>z (hin.trans (decide_eq_true y));exact fin H2 k2 (s2 _ _ t1) (s2 _ _ f1) (s2 _ _ l1) (by rw[if_neg hm1,List.append_nil];exact W2)
def Zfe(C:Addr):Sp:=fun vs H Q _=>∃(a dx dN:Addr),vs=[.ref a,.ref dN]/\H a=some (.ins C dx [])/\∀dc pl nx H',(∀b o,b≠a->H b=some o->H' b=some o)->H dc=none->H pl=none->H nx=none->H' a=some (.ins C dx (joF dN dc pl nx))->H' dc=some (.dK [])->H' pl=some (.lst [])->H' nx=some (.dT [])->Q .non H'
set_option maxHeartbeats 1000000 in
theorem Zb1{C:Addr}(B:∀x∈ZcE,mg x=none)(c:JoC K C)(F:Fun K "__init__" "Joining.__init__" Z7 f fd):FnOk P w K mg base CX0 1 f fd ["self","names"] (Zfe C):=by
 refine F.ok Zcb (fun vs H Q E h=>?_) (fun cdv A outer s H vs Q E hr h=>?_)
 ·obtain⟨a,dx,dN,rfl,_⟩:=h;rfl
 obtain⟨a,dx,dN,rfl,ha,q⟩:=h;refine⟨_,(Zd (ZfP (pv 0) (pv 1) rfl)
  (Zd (ZfP (pv 0) Zem rfl)
  (Zd (ZfP (pv 0) (Zas Zf) rfl)
  (Zk (ZfP (pv 0) Zge rfl))))),?_⟩
 refine⟨_,rfl,_,rfl,a,C,dx,[],rfl,ha,c.cls,c.n1,by decide,?_⟩;have k1:∀b o,b≠a->H b=some o->(upd H a (.ins C dx (Zb8 "names" (V.ref dN) []))) b=some o:=fun b o hb e=>by rw[Zu hb];exact e
 have x1:(upd H a (.ins C dx (Zb8 "names" (V.ref dN) []))) a=some (.ins C dx [("names",.ref dN)]):=by rw[Zb];rfl
 have f1:∀b,(upd H a (.ins C dx (Zb8 "names" (V.ref dN) []))) b=none->H b=none:=fun b hb=>(ZaH hb).2;generalize upd H a (.ins C dx (Zb8 "names" (V.ref dN) []))=H1 at k1 x1 f1 ⊢;refine fun dc hdc=>?_;have n2:dc≠a:=fun z=>by rw[z,x1] at hdc;cases hdc
 have s2:Zg H1 (upd H1 dc (.dK [])):=Zg.new hdc;refine⟨_,rfl,a,C,dx,_,rfl,s2 _ _ x1,c.cls,c.n2,(show 1<1000 by decide),?_⟩;have k3:∀b o,b≠a->H1 b=some o->(upd (upd H1 dc (.dK [])) a (.ins C dx (Zb8 "counts" (V.ref dc) [("names",.ref dN)]))) b=some o:=fun b o hb e=>by rw[Zu hb];exact s2 _ _ e
 have x3:(upd (upd H1 dc (.dK [])) a (.ins C dx (Zb8 "counts" (V.ref dc) [("names",.ref dN)]))) a=some (.ins C dx [("names",.ref dN),("counts",.ref dc)]):=by rw[Zb];rfl
 have y3:(upd (upd H1 dc (.dK [])) a (.ins C dx (Zb8 "counts" (V.ref dc) [("names",.ref dN)]))) dc=some (.dK []):=by rw[Zu n2];exact Zb
 have f3:∀b,(upd (upd H1 dc (.dK [])) a (.ins C dx (Zb8 "counts" (V.ref dc) [("names",.ref dN)]))) b=none->H1 b=none:=fun b hb=>(ZaH (ZaH hb).2).2;generalize upd (upd H1 dc (.dK [])) a (.ins C dx (Zb8 "counts" (V.ref dc) [("names",.ref dN)]))=H3 at k3 x3 y3 f3 ⊢;refine⟨(by show 0<=sizeLine;decide),fun pl hpl=>?_⟩;have n4:pl≠a:=fun z=>by rw[z,x3] at hpl;cases hpl
 have s4:Zg H3 (upd H3 pl (.lst [])):=Zg.new hpl;refine⟨_,rfl,a,C,dx,_,rfl,s4 _ _ x3,c.cls,c.n3,(show 2<1000 by decide),?_⟩;have k5:∀b o,b≠a->H3 b=some o->(upd (upd H3 pl (.lst [])) a (.ins C dx (Zb8 "places" (V.ref pl) [("names",.ref dN),("counts",.ref dc)]))) b=some o:=fun b o hb e=>by rw[Zu hb];exact s4 _ _ e
 have x5:(upd (upd H3 pl (.lst [])) a (.ins C dx (Zb8 "places" (V.ref pl) [("names",.ref dN),("counts",.ref dc)]))) a=some (.ins C dx [("names",.ref dN),("counts",.ref dc),("places",.ref pl)]):=by rw[Zb];rfl
 have y5:(upd (upd H3 pl (.lst [])) a (.ins C dx (Zb8 "places" (V.ref pl) [("names",.ref dN),("counts",.ref dc)]))) pl=some (.lst []):=by rw[Zu n4];exact Zb
 have f5:∀b,(upd (upd H3 pl (.lst [])) a (.ins C dx (Zb8 "places" (V.ref pl) [("names",.ref dN),("counts",.ref dc)]))) b=none->H3 b=none:=fun b hb=>(ZaH (ZaH hb).2).2;generalize upd (upd H3 pl (.lst [])) a (.ins C dx (Zb8 "places" (V.ref pl) [("names",.ref dN),("counts",.ref dc)]))=H5 at k5 x5 y5 f5 ⊢;refine fun nx hnx=>?_;have n6:nx≠a:=fun z=>by rw[z,x5] at hnx;cases hnx
 have s6:Zg H5 (upd H5 nx (.dT [])):=Zg.new hnx;refine⟨_,rfl,a,C,dx,_,rfl,s6 _ _ x5,c.cls,c.n4,(show 3<1000 by decide),?_⟩;have k7:∀b o,b≠a->H5 b=some o->(upd (upd H5 nx (.dT [])) a (.ins C dx (Zb8 "nexts" (V.ref nx) [("names",.ref dN),("counts",.ref dc),("places",.ref pl)]))) b=some o:=fun b o hb e=>by rw[Zu hb];exact s6 _ _ e
 refine q dc pl nx _ (fun b o hb e=>k7 _ _ hb (k5 _ _ hb (k3 _ _ hb (k1 _ _ hb e)))) (f1 _ hdc) (f1 _ (f3 _ hpl)) (f1 _ (f3 _ (f5 _ hnx))) (by rw[Zb];rfl) (k7 _ _ n2 (k5 _ _ n2 y3)) (k7 _ _ n4 y5) ?_;rw[Zu n6];exact Zb
def BkA(H:Hp)(b:Addr)(bk:List (Str×Ex)):Prop := ∃(o:Obj)(ws:List V),H b=some (.frz o (.tup ws))/\o.dict=none/\Paired (Plc H) ws bk
structure BkG(bk:List (Str×Ex))(D:Nat):Prop where
 nd:(bk.map (·.1)).Nodup
 l1:1<=bk.length
 l8:bk.length<=8
 sz:∀x∈bk,sz x.2<=200
 ft:∀x∈bk,Ft bk D x.2
theorem ZeT:∀(kvs m:List (Key×V)),((m++kvs).map (·.1)).Nodup->kvs.foldl (fun m kv=>putK m kv.1 kv.2) m=m++kvs
 | [],m,_=>(List.append_nil m).symm
 | kv::kvs,m,h=>by
  have h1:Zbs m kv.1=none:=by
   rw[<- Option.not_isSome_iff_eq_none,<- ZaQ,List.any_eq_true];rintro⟨x,hx,e⟩;have e':=of_decide_eq_true e;rw[List.map_append,List.nodup_append] at h;exact h.2.2 x.1 (List.mem_map.mpr ⟨x,hx,rfl⟩) kv.1 (by rw[List.map_cons];exact List.mem_cons_self ..) e'
  rw[List.foldl_cons,Zc3 _ h1,ZeT kvs (m ++ [(kv.1,kv.2)]) (by rw[List.append_assoc];exact h),List.append_assoc];rfl
theorem Zfs{H:Hp}:∀{ws:List V}{bk:List (Str×Ex)},Paired (Plc H) ws bk->∃kvs:List (Key×V),kvs.map (·.1)=bk.map (fun x=>(Sum.inr x.1:Key))/\Paired (fun(y:V)(kv:Key×V)=>∃t,y=.ref t/\H t=some (.tup [kV kv.1,kv.2])) ws kvs/\Paired (fun(kv:Key×V)(x:Str×Ex)=>kv.1=.inr x.1/\∃q,kv.2=.ref q/\RepE H q x.2) kvs bk
 | _,_,.nil=>⟨[],rfl,.nil,.nil⟩
 | _,_,.cons (b:=x) ⟨t,q,e1,e2,e3⟩ r=>by
  obtain⟨kvs,h1,h2,h3⟩:=Zfs r;exact⟨(.inr x.1,.ref q)::kvs,by rw[List.map_cons,List.map_cons,h1],.cons ⟨t,e1,e2⟩ h2,.cons ⟨rfl,q,rfl,e3⟩ h3⟩
theorem Zfo{H:Hp}:∀{kvs:List (Key×V)}{bk:List (Str×Ex)}{n:Str},Paired (fun(kv:Key×V)(x:Str×Ex)=>kv.1=.inr x.1/\∃q,kv.2=.ref q/\RepE H q x.2) kvs bk->n∈bk.map (·.1)->∃q,Zbs kvs (.inr n)=some (.ref q)/\RepE H q (bkN bk n)
 | _,_,_,.nil,h=>nomatch h
 | _,_,n,.cons (b:=x) (l₂ := bk) ⟨h1,q,h2,h3⟩ r,h=>by
  by_cases e:x.1=n
  ·refine⟨q,by rw[ZaK (by rw[h1,e]),h2],?_⟩;have:bkN (x::bk) n=x.2:=by
    unfold bkN;rw[List.find?_cons,decide_eq_true e];rfl
   rw[this];exact h3
  ·rw[List.map_cons] at h;obtain⟨q',e1,e2⟩:=Zfo r ((List.mem_cons.mp h).resolve_left fun z=>e z.symm);refine⟨q',?_,?_⟩
   ·rw[ZaL,e1];rw[h1];exact fun z=>e (Sum.inr.inj z)
   ·have:bkN (x::bk) n=bkN bk n:=by
     unfold bkN;rw[List.find?_cons,decide_eq_false e]
    rw[this];exact e2
def JtD(H H':Hp)(t pl f l nl:Addr)(r:Ly):Prop:=H pl=none/\H f=none/\H l=none/\H nl=none/\pl≠f/\pl≠l/\pl≠nl/\f≠l/\f≠nl/\l≠nl/\H' t=some (.tup [.ref pl,.bl r.fr,.ref f,.ref l,.ref nl])/\PlD H' pl r.pl/\H' f=some (.lst (r.fi.map V.int))/\H' l=some (.lst (r.la.map V.int))/\∃zs ms,H' nl=some (.lst zs)/\zs.length<=5000/\PL H' zs ms/\ms.Perm (Zb9 [] r.lk)/\ms.Pairwise fun a b=>Srd.pLt b a=false
def Zeq(D:Nat)(C:Addr):Sp:=fun vs H Q E=>∃(b p:Addr)(bk:List (Str×Ex))(e:Ex),vs=[.ref b,.ref p]/\BkA H b bk/\BkG bk D/\RepE H p e/\sz e<=200/\Ft bk D e /\
 (64<cP (bkN bk) D e->∀H',Zg H H'->E (.ref C) none H') /\
 (cP (bkN bk) D e<=64->∀t pl f l nl H',Zg H H'->JtD H H' t pl f l nl (lay (bkN bk) D e 0)->Q (.ref t) H')
set_option maxHeartbeats 2000000 in
theorem Zhi{C:Addr}(B:∀x∈ZcE,mg x=none)(Cc1:∃t:Tok,mg "MOST_PLACES" = some (.int 64 t)) (c_Joining:JoC K C) (xc:XC K mg X_GroveError X_TooMany X_BadForm X_NoBook X_NoName X_Ring X_TooBig X_TwiceNamed) (g_Joining:HasC P w K mg base C "Joining" ["self","names"] 1 (Zfe C)) (g_Joining_count_places:HasM P w K mg base C "count_places" ["self","expr"] 50 (Zdr C 48 48)) (g_Joining_walk:HasM P w K mg base C "walk" ["self","expr"] 145 (ZdV C 48 48)) (F:Fun K "joints" "joints" ZaW f fd):FnOk P w K mg base (CXE P w) 146 f fd ["book","expr"] (Zeq 48 X_TooMany):=by
 refine F.okX Zdh (fun vs H Q E h=>?_) (fun cdv A outer s H vs Q E hr h=>?_)
 ·obtain⟨b,p,bk,e,rfl,_⟩:=h;rfl
 obtain⟨b,p,bk,e,rfl,⟨o,ws,hb,ho,hP⟩,hG,hR,hs,hF,q1,q2⟩:=h;obtain⟨t1,c_MOST_PLACES⟩:=Cc1;have c:=c_Joining;refine Zm ((Zc ZaW).drop 3) (Zk (ZC (Z0 (Za (ZbG (pv 2) rfl) (Za (Zr Zv (pv 3) Ze (fun _ _=>rfl)) (Za (ZaF ZcN rfl (B "list" (by decide)) Zd7 (Za (Zr Zv (pv 3) Ze (fun _ _=>rfl)) Zf)) (Za (ZaF ZcN rfl (B "list" (by decide)) Zd7 (Za (Zr Zv (pv 3) Ze (fun _ _=>rfl)) Zf)) (Za (Zz (ZbZ rfl) rfl (B "sorted" (by decide)) Zch (Za (ZbG (pv 2) rfl) Zf)) Zf)))))))) (fun u3 h3 e3=>?_);refine Zm ((Zc ZaW).drop 2) (Zd (Zx (i:=3) Zdh.nd rfl (Or.inl rfl) (ZaT g_Joining_walk hr (pv 2) c_Joining.cls (Za (pv 1) Zf))) h3) (fun u2 h2 e2=>?_);refine Zm ((Zc ZaW).drop 1) (Zd (Zah (ZD ZgM (ZaT g_Joining_count_places hr (pv 2) c_Joining.cls (Za (pv 1) Zf)) (Zbw (v:=.int 64) rfl c_MOST_PLACES ⟨_,rfl⟩) (ZV _))
   (Zk (Zhr xc.top_TooMany xc.ini_TooMany xc.n_TooMany ZhL hr rfl (Za ZP Zf)))
   Zy) h2) (fun u1 h1 e1=>?_)
 refine Zm ((Zc ZaW).drop 0) (Zd (Zx (i:=2) Zdh.nd rfl (Or.inl rfl) (Zkg g_Joining hr rfl (Za (ZaF (Zeg rfl) rfl (B "dict" (by decide)) Zke (Za (pv 0) Zf)) Zf))) h1) (fun u0 h0 e0=>?_);refine⟨u0,h0,?_⟩;refine Zj e0 ?_;obtain⟨kvs,hk1,hk2,hk3⟩:=Zfs hP;have hwl:ws.length=bk.length:=Paired.length hP;have h8:=hG.l8;have hnk:(kvs.map (·.1)).Nodup:=by
  rw[hk1,show(bk.map fun x=>(Sum.inr x.1:Key))=(bk.map (·.1)).map Sum.inr by rw[List.map_map];rfl];exact List.pairwise_map.mpr (hG.nd.imp fun{x y} hxy z=>hxy (Sum.inr.inj z))
 have hpa:putAll kvs=kvs:=by
  have:=ZeT kvs [] hnk;rw[List.nil_append] at this;exact this
 refine⟨_,rfl,b,o,ws,kvs,rfl,hb,ho,by lia,hk2,fun dN hdN=>?_⟩;rw[hpa];have s1:Zg H (upd H dN (.dK kvs)):=Zg.new hdN;have x1:upd H dN (.dK kvs) dN=some (.dK kvs):=Zb;generalize upd H dN (.dK kvs)=H1 at s1 x1 ⊢;have N1:NmD H1 dN bk:=⟨kvs,x1,fun n hn=>by
  obtain⟨q,e1,e2⟩:=Zfo hk3 hn;exact⟨q,e1,e2.mono s1.tk⟩⟩
 refine fun a dx ha hdx hne=>⟨a,dx,dN,rfl,Zb,fun dc pl nx H2 k2 f1 f2 f3 x2 y2 z2 w2=>⟨rfl,?_⟩⟩;have s2:Zg H1 H2:=made ha hdx k2;have f1':H1 dc=none:=Zca f1;have f2':H1 pl=none:=Zca f2;have f3':H1 nx=none:=Zca f3;have J2:Jo C H2 a dx dN dc pl nx bk 48:=⟨x2,N1.same s2,⟨[],[],y2,rfl,List.nodup_nil,fun _ h=>nomatch h⟩,(fun z=>by rw[<- z,x1] at f1';cases f1'),h8,fun n hn=>by
  obtain⟨x,hx,rfl⟩:=List.mem_map.mp hn;rw[ZcR hG.nd hx];exact hG.sz x hx⟩
 have W2:Wk C H2 a dx dN dc pl nx bk 48 [] []:=⟨J2,⟨[],z2,.nil⟩,⟨[],w2,rfl,List.nodup_nil,fun _ h=>nomatch h⟩⟩
 have s02:=s1.trans s2;show u1 _ _ _;refine Zj e1 ?_;refine⟨_,rfl,a,dx,_,rfl,x2,rfl,_,rfl,a,dx,dN,dc,pl,nx,bk,p,e,rfl,J2,hR.mono s02.tk,hs,hF,Nat.le_refl _,fun H3 k3 J3=>?_⟩;have W3:=W2.dc k3 J3;have back:∀{H':Hp},ZR (Ex3 dc pl nx) H2 H'->Zg H H':=fun{H'} k b' o' hb'=>k _ _ (fun z=>by
  rcases List.mem_cons.mp z with z|z
  ·rw[z,s1.free f1'] at hb';cases hb'
  rcases List.mem_cons.mp z with z|z
  ·rw[z,s1.free f2'] at hb';cases hb'
  rw[List.mem_singleton.mp z,s1.free f3'] at hb';cases hb') (s02 _ _ hb')
 have k23:ZR (Ex3 dc pl nx) H2 H3:=ZfA k3 fun x hx=>by rw[List.mem_singleton.mp hx];exact List.mem_cons_self ..
 refine⟨_,_,rfl,rfl,_,rfl,Zax (fun z=>?_) (fun z=>?_)⟩
 ·have z:=of_decide_eq_true z;exact⟨by decide,fun y hy=>q1 (by lia) _ ((back k23).trans (Zg.new hy))⟩
 have hc:cP (bkN bk) 48 e<=64:=by
  have : ¬ ((cP (bkN bk) 48 e:Nat):Int) > 64:=fun y=>z (decide_eq_true y);lia
 show u2 _ _ _;refine Zj e2 ?_;refine⟨_,rfl,a,dx,_,rfl,W3.jo.ho,rfl,_,rfl,a,dx,dN,dc,pl,nx,bk,[],[],p,e,rfl,W3,hR.mono (back k23).tk,hs,hF,Nat.le_refl _,by show 0+_<=64;lia,fun t f l H4 k4 hL W4=>?_⟩;have k24:=k23.trans k4;have e0:(([]:List (Str×Ex)).length:Int)=0:=rfl;rw[e0] at hL W4;obtain⟨m1,m2,m3,t4,f4,l4⟩:=hL;have W4:Wk C H4 a dx dN dc pl nx bk 48 (lay (bkN bk) 48 e 0).pl (Zb9 [] (lay (bkN bk) 48 e 0).lk):=W4;generalize lay (bkN bk) 48 e 0=r at q2 t4 f4 l4 W4;show u3 _ _ _;refine Zj e3 ?_;obtain⟨vp,hpl4,hPP⟩:=id W4.ps;obtain⟨kn,hnx4,hkn,hSn,hSb⟩:=id W4.lk;have hfew:=ZdF (by decide) hSn hSb;have hkl:kn.length=(Zb9 [] r.lk).length:=by
  have:=congrArg List.length hkn;rw[List.length_map,List.length_map] at this;exact this
 refine⟨_,rfl,a,C,dx,_,_,rfl,W4.jo.ho,c.cls,c.n3,rfl,_,rfl,t,_,0,_,rfl,rfl,SqT.of t4,rfl,_,rfl,t,_,1,_,rfl,rfl,SqT.of t4,rfl,f,_,rfl,.inl (SqL.of f4),fun f5 hf5=>?_⟩;have s5:Zg H4 (upd H4 f5 (.lst (r.fi.map V.int))):=Zg.new hf5;have x5:upd H4 f5 (.lst (r.fi.map V.int)) f5=some (.lst (r.fi.map V.int)):=Zb;generalize upd H4 f5 (.lst (r.fi.map V.int))=H5 at s5 x5 ⊢;refine⟨_,rfl,t,_,2,_,rfl,rfl,SqT.of (s5 _ _ t4),rfl,l,_,rfl,.inl (SqL.of (s5 _ _ l4)),fun l6 hl6=>?_⟩;have s6:Zg H5 (upd H5 l6 (.lst (r.la.map V.int))):=Zg.new hl6;have x6:upd H5 l6 (.lst (r.la.map V.int)) l6=some (.lst (r.la.map V.int)):=Zb;generalize upd H5 l6 (.lst (r.la.map V.int))=H6 at s6 x6 ⊢;have s46:=s5.trans s6;refine⟨_,rfl,a,C,dx,_,_,rfl,s46 _ _ W4.jo.ho,c.cls,c.n4,rfl,nx,kn,Zb9 [] r.lk,rfl,s46 _ _ hnx4,by lia,hkn,fun n7 zs ms hn7 hperm hpw hPL=>?_⟩;have s7:Zg H6 (upd H6 n7 (.lst zs)):=Zg.new hn7;have x7:upd H6 n7 (.lst zs) n7=some (.lst zs):=Zb;have hPL7:PL (upd H6 n7 (.lst zs)) zs ms:=hPL.keep s7.tk;generalize upd H6 n7 (.lst zs)=H7 at s7 x7 hPL7 ⊢;refine⟨(by show 5<=sizeLine;decide),fun t8 ht8=>?_⟩;have s8:Zg H7 (upd H7 t8 (.tup [.ref pl,.bl r.fr,.ref f5,.ref l6,.ref n7])):=Zg.new ht8;have s48:=(s46.trans s7).trans s8;have H0:=back k24;refine q2 hc t8 pl f5 l6 n7 _ (H0.trans s48) ⟨s1.free f2',H0.free hf5,H0.free (s5.free hl6),H0.free (s46.free hn7),?_,?_,?_,?_,?_,?_,Zb,W4.ps.same s48,s8 _ _ (s7 _ _ (s6 _ _ x5)),s8 _ _ (s7 _ _ x6),zs,ms,s8 _ _ x7,by have h1:=hPL7.length;have h2:=hperm.length_eq;lia,hPL7.keep s8.tk,hperm,hpw⟩
 ·exact Zq hpl4 hf5
 ·exact Zq (s5 _ _ hpl4) hl6
 ·exact Zq (s46 _ _ hpl4) hn7
 ·exact Zq x5 hl6
 ·exact Zq (s6 _ _ x5) hn7
 ·exact Zq x6 hn7
theorem SqL.off{K:PySem.W.Frag}{H:Hp}{a b:Addr}{xs:List V}{o:HO}(h:SqL K H a xs)(n:a≠b\/∀H',SqL K H' a xs):SqL K (upd H b o) a xs:=by
 rcases n with n|n;rotate_left
 ·exact n _
 rcases h with(h|⟨o',h⟩)|h
 ·exact .inl (.inl (by rw[Zu n];exact h))
 ·exact .inl (.inr ⟨o',by rw[Zu n];exact h⟩)
 ·exact .inr h
structure St20(K:PySem.W.Frag)(H:Hp)(a:Addr)(ns:List Int)(st:Addr)(i lf:Int):Prop where
 scr:SqL K H a (ns.map V.int)
 l63:ns.length<=63
 ne:a≠st\/∀H',SqL K H' a (ns.map V.int)
 at_:H st=some (.lst [.int i,.int lf])
 i0 : -1<=i
 l0:0<=lf
def But(st:Addr)(H H':Hp):Prop := ∀b o,b≠st->H b=some o->H' b=some o
theorem But.trans{st:Addr}{H H1 H2:Hp}(x:But st H H1)(y:But st H1 H2):But st H H2:=fun b o n h=>y b o n (x b o n h)
theorem But.same{st:Addr}{H H1:Hp}(x:Zg H H1):But st H H1:=fun b o _ h=>x b o h
theorem But.up{st:Addr}{H:Hp}{o:HO}:But st H (upd H st o):=fun b o' n h=>by rw[Zu n];exact h
theorem But.tk{st:Addr}{H H':Hp}{xs:List V}(x:But st H H')(h:H st=some (.lst xs)):TK H H':=fun a ys e=>x a _ (fun z=>by rw[z,h] at e;cases e) e
theorem But.seq{K:PySem.W.Frag}{st a:Addr}{H H':Hp}{xs:List V}(x:But st H H')(n:a≠st\/∀H',SqL K H' a xs)(h:SqL K H a xs):SqL K H' a xs:=by
 rcases n with n|n;rotate_left
 ·exact n _
 rcases h with(h|⟨o',h⟩)|h
 ·exact .inl (.inl (x _ _ n h))
 ·exact .inl (.inr ⟨o',x _ _ n h⟩)
 ·exact .inr h
theorem St20.to{K:PySem.W.Frag}{H H':Hp}{a st:Addr}{ns:List Int}{i lf i' lf':Int}(s:St20 K H a ns st i lf)(x:But st H H')(h:H' st=some (.lst [.int i',.int lf']))(h0 : -1<=i')(h1:0<=lf'):St20 K H' a ns st i' lf':=⟨x.seq s.ne s.scr,s.l63,s.ne,h,h0,h1⟩
def Zgd(K:PySem.W.Frag):Sp:=fun vs H Q _=>∃(a:Addr)(ns:List Int)(st:Addr)(i lf:Int),vs=[.ref a,.ref st]/\St20 K H a ns st i lf/\∀v:Int,Q (.int v) (upd H st (.lst [.int (i+1),.int lf]))
theorem ZhV(B:∀x∈ZcE,mg x=none)(F:Fun K "_law_next" "_law_next" ZbR f fd):FnOk P w K mg base CX0 1 f fd ["_law_script","_law_state"] (Zgd K):=by
 refine F.ok ZhE (fun vs H Q E h=>?_) (fun cdv A outer s H vs Q E hr h=>?_)
 ·obtain⟨a,ns,st,i,lf,rfl,_⟩:=h;rfl
 obtain⟨a,ns,st,i,lf,rfl,hS,q⟩:=h;refine⟨_,(Zd (ZcO (ZF Za5 (Zr ZW (pv 1) Ze (fun _ _=>rfl)) Ze) (Zgc (pv 1) Ze set_list))
  (Zd (Zah (ZD ZkZ (Zr ZW (pv 1) Ze (fun _ _=>rfl)) (Zz Z1 rfl (B "len" (by decide)) PySem.boot_len (Za (pv 0) Zf)) (ZV _))
   (Zk (ZC (Zr ZW (pv 0) (Zr ZW (pv 1) Ze (fun _ _=>rfl)) (fun _ _=>rfl))))
   Zy)
  (Zk (ZC Ze)))),?_⟩
 refine⟨_,rfl,st,_,0,_,rfl,rfl,SqL.of hS.at_,rfl,_,_,rfl,rfl,_,rfl,st,_,0,0,rfl,rfl,hS.at_,rfl,?_⟩;have e1:(upd H st (.lst ([V.int i,.int lf].set 0 (.int (i+1))))) st=some (.lst [.int (i+1),.int lf]):=Zb;have hs1:=SqL.off (o:=.lst ([V.int i,.int lf].set 0 (.int (i+1)))) hS.scr hS.ne;refine⟨_,rfl,st,_,0,_,rfl,rfl,SqL.of e1,rfl,_,rfl,a,_,rfl,.inl hs1,_,_,rfl,rfl,_,rfl,Zax (fun z=>?_) (fun _=>?_)⟩
 ·have z':=of_decide_eq_true z;rw[List.length_map] at z';obtain⟨v,hv⟩:=Zkk (ns:=ns) (k:=i+1) (by have:=hS.i0;lia) z';exact⟨_,rfl,_,rfl,st,_,0,_,rfl,rfl,SqL.of e1,rfl,a,_,i+1,_,rfl,rfl,hs1,hv,q v⟩
 ·exact q 0
theorem ZiN{L:Str}{k:Int}(h:L.cps.toList.length=26)(h0:0<=k)(h1:k<26):∃c,atI L.cps.toList k=some c:=by
 obtain⟨n,rfl⟩:=Int.eq_ofNat_of_zero_le h0;have hn:n<L.cps.toList.length:=by lia
 exact⟨_,Zad (List.getElem?_eq_getElem hn)⟩
theorem Zj4{α : Type}{xs:List α}{i:Int}{v : α}(h:atI xs i=some v):v∈xs:=by
 unfold atI at h;obtain⟨j,_,h⟩:=Option.bind_eq_some_iff.mp h;exact List.mem_of_getElem? h
def ZlG:Sp:=fun vs H Q _=>∃(c:Int)(L:Str),vs=[.int c,.str L]/\L.cps.toList.length=26/\∀t:Str,1<=t.length->t.length<=8->(∀x∈cs t,x∈cs L)->Q (.str t) H
set_option maxHeartbeats 1000000 in
theorem ZhW(B:∀x∈ZcE,mg x=none)(F:Fun K "_law_word" "_law_word" ZbS f fd):FnOk P w K mg base CX0 1 f fd ["_law_cell","_law_letters"] ZlG:=by
 refine F.ok ZbF (fun vs H Q E h=>?_) (fun cdv A outer s H vs Q E hr h=>?_)
 ·obtain⟨c,L,rfl,_⟩:=h;rfl
 obtain⟨c,L,rfl,hL,q⟩:=h;have hL2:L.length=26:=by rw[<- hL,Array.length_toList];rfl
 refine⟨_,(Zd (Zx (i:=2) ZbF.nd rfl (Or.inl rfl) ZP)
  (Zd (ZaZ PassesOwn.never rfl (Zbd rfl (B "range" (by decide)) (Za (ZF Za5 Ze (ZF Zal (pv 0) Ze)) Zf)) (ZL (i:=3) ZbF.nd rfl (Or.inl rfl))
   (Zd (Zx (i:=4) ZbF.nd rfl (Or.inl rfl) (ZF Za5 (ZF Zgb (ZF ZaM (ZF ZaM (pv 0) Ze) (ZF Za5 (pv 3) Ze)) Ze) (ZF Zgb Ze (pv 3))))
    (Zk (Zx (i:=2) ZbF.nd rfl (Or.inl rfl) (ZF ZcD (pv 2) (Zr Ze7 (pv 1) (ZF Zal (ZF Zal (pv 4) Ze) Ze) (fun _ _=>rfl)))))))
  (Zk (ZC (pv 2))))),?_⟩
 have e1:=Int.emod_nonneg c (by decide:(8:Int)≠0);have e2:=Int.emod_lt_of_pos c (by decide:(0:Int)<8);refine⟨_,rfl,_,_,rfl,rfl,(by show(0:Int)<8;decide),_,_,rfl,rfl,_,rfl,by lia,by lia,ZbK (lo:=0) (n:=(1+c % 8).toNat) (fun i σ H1=>∃(t:Str)(v6 v7:Option V),σ =[some (.int c),some (.str L),some (.str t),v6,v7]/\H1=H/\t.length=i/\∀x∈cs t,x∈cs L)
  ⟨"",none,none,rfl,rfl,rfl,fun x h=>nomatch h⟩ ?_ ?_⟩
 ·rintro i σ H1 hi ⟨t,v6,v7,rfl,rfl,hl,hx⟩;refine⟨_,rfl,_,_,rfl,rfl,⟨by decide,by decide⟩,_,rfl,_,_,rfl,rfl,_,_,rfl,rfl,⟨by lia,by lia⟩,_,_,rfl,rfl,.inr ⟨by decide,by decide⟩,_,rfl,_,_,rfl,rfl,.inl ⟨by decide,by decide⟩,_,_,rfl,rfl,?_⟩;obtain⟨ch,hch⟩:=ZiN (L:=L) (k:=(c / 8 / (0+(i:Int)+1)*48271+31*(0+(i:Int))) % 65537 % 26) hL (Int.emod_nonneg _ (by decide)) (Int.emod_lt_of_pos _ (by decide));refine⟨_,rfl,_,rfl,_,rfl,_,_,rfl,rfl,(by show(0:Int)<65537;decide),_,_,rfl,rfl,(by show(0:Int)<26;decide),_,_,ch,rfl,rfl,Z9 (by lia),hch,_,_,rfl,rfl,?_,?_⟩
  ·show t.length+1<=sizeLine;exact Z9 (by lia)
  ·refine⟨t++⟨#[ch]⟩,_,_,rfl,rfl,?_,fun x hm=>?_⟩
   ·rw[Zec,hl];rfl
   ·rw[ZeZ] at hm;rcases List.mem_append.mp hm with hm|hm
    ·exact hx x hm
    ·have:x=ch:=List.mem_singleton.mp hm;rw[this];exact Zj4 hch
 ·rintro σ H1 ⟨t,v6,v7,rfl,rfl,hl,hx⟩;exact⟨_,rfl,q t (by lia) (by lia) hx⟩
theorem csl(t:Str):(cs t).length=t.length:=Array.length_toList
theorem ZlU{t:Str}{j:Int}(h0:0<=j)(h:j<=t.length):cs (PySem.StrLaws.sliceText t none (some j))=(cs t).take j.toNat:=by
 have hlt:t.cps.toList.length=t.length:=by rw[Array.length_toList];rfl
 rw[PySem.StrLaws.sliceText_to (x:=t) (j:=j) ⟨h0,by rw[hlt];lia⟩];show((t.cps.toList.drop 0).take _).toArray.toList=_;rw[List.drop_zero];simp[cs]
theorem ZjN{t:Str}{j:Int}(h0:0<=j)(h:j<=t.length):cs (PySem.StrLaws.sliceText t (some j) none)=(cs t).drop j.toNat:=by
 have hlt:t.cps.toList.length=t.length:=by rw[Array.length_toList];rfl
 rw[PySem.StrLaws.sliceText_from (x:=t) (i:=j) ⟨h0,by rw[hlt];lia⟩];show(List.take _ (List.drop _ t.cps.toList)).toArray.toList=_;simp only[List.toList_toArray];rw[List.take_of_length_le (by rw[List.length_drop,hlt];lia)];rfl
theorem Zdn{m:Nat}{g:Nat->Str}(h:∀i j,i<m->j<m->g i=g j->i=j):((List.range m).map g).Nodup:=by
 refine List.pairwise_iff_getElem.mpr fun i j hi hj hij e=>?_;rw[List.length_map,List.length_range] at hi hj;rw[List.getElem_map,List.getElem_map,List.getElem_range,List.getElem_range] at e;have:=h i j hi hj e;lia
theorem Zkl:(Str.ofString "ABCDEFGHIJKLMNOPQRSTUVWXYZ").cps.toList.length=26:=by decide
theorem ZiF(j:Nat)(h:j<26):atI (Str.ofString "ABCDEFGHIJKLMNOPQRSTUVWXYZ").cps.toList (j:Int)=some (65+j):=by
 refine Zad ?_;have:∀j:Fin 26,(Str.ofString "ABCDEFGHIJKLMNOPQRSTUVWXYZ").cps.toList[j.val]?= some (65+j.val):=by decide
 exact this ⟨j,h⟩
theorem Zik(j:Nat)(h:j<26):atI (Str.ofString "abcdefghijklmnopqrstuvwxyz").cps.toList (j:Int)=some (97+j):=by
 refine Zad ?_;have:∀j:Fin 26,(Str.ofString "abcdefghijklmnopqrstuvwxyz").cps.toList[j.val]?= some (97+j.val):=by decide
 exact this ⟨j,h⟩
def Zh9:Sp:=fun vs H Q _=>∃(c:Int)(L:Str)(m b:Nat),vs=[.int c,.str L,.int (m:Int)]/\L.cps.toList.length=26/\(∀j:Nat,j<26->atI L.cps.toList (j:Int)=some (b+j))/\m<=5/\∀(l:Addr)(ns:List Str)(H':Hp),Zg H H'->H l=none->H' l=some (.lst (ns.map V.str))->ns.length=m->ns.Nodup->(∀n∈ns,1<=n.length/\n.length<=8)->Q (.ref l) H'
set_option maxHeartbeats 2000000 in
theorem Zif(B:∀x∈ZcE,mg x=none)(g_l_word:Has P w K mg base "_law_word" ["_law_cell","_law_letters"] 1 ZlG) (F:Fun K "_law_pool" "_law_pool" ZbP f fd):FnOk P w K mg base CX0 2 f fd ["_law_cell","_law_letters","_law_many"] Zh9:=by
 refine F.ok Zde (fun vs H Q E h=>?_) (fun cdv A outer s H vs Q E hr h=>?_)
 ·obtain⟨c,L,m,b,rfl,_⟩:=h;rfl
 obtain⟨c,L,m,b,rfl,hL,hLa,hm,q⟩:=h;have hL2:L.length=26:=by rw[<- hL,Array.length_toList];rfl
 refine⟨_,(Zd (Zx (i:=3) Zde.nd rfl (Or.inr rfl) (Zaa g_l_word hr rfl (Za (pv 0) (Za (pv 1) Zf))))
  (Zd (Zx (i:=4) Zde.nd rfl (Or.inr rfl) (ZF Zal (ZF ZaM (pv 0) Ze) (Zz Ze4 rfl (B "len" (by decide)) PySem.boot_len (Za (pv 3) Zf))))
  (Zk (ZC (Zcd (cl:=_) ["_law_k"] [("_law_cell",0),("_law_letters",1),("_law_base",3),("_law_at",4)] (Zbd rfl (B "range" (by decide)) (Za (pv 2) Zf)) (fun _ _ _ _=>(ZL (i:=0) (show List.Nodup (["_law_k","_law_cell","_law_letters","_law_base","_law_at"]:List Str) by decide) rfl (Or.inl rfl))) (fun _ _ _ _=>(ZF ZcD (ZF ZcD (Zbt Zjm (pv 3) Zbv (ZbC (pv 4))) (Zr Ze7 (pv 2) (ZF Zal (ZF Za5 (ZF ZaM (pv 1) Ze) (ZF Zgb Ze (pv 0))) Ze) (fun _ _=>rfl))) (Zbt Zjm (pv 3) (ZbC (ZF Za5 (pv 4) Ze)) Zbv))) rfl rfl (by decide) rfl (by decide) (Zdp (by(repeat' first|exact List.forall_mem_nil _|refine List.forall_mem_cons.mpr ⟨?_,?_⟩) <;> rfl)) (Zcg (by(repeat' first|exact List.forall_mem_nil _|refine List.forall_mem_cons.mpr ⟨?_,?_⟩) <;> first|(intro h;exact⟨_,rfl⟩)|(intro h;exact absurd h (by decide)))) (fun _=>by(repeat' first|exact List.forall_mem_nil _|refine List.forall_mem_cons.mpr ⟨?_,?_⟩) <;> exact⟨rfl,rfl,Or.inl rfl⟩) (fun _=>rfl)))))),?_⟩
 refine⟨_,rfl,_,rfl,_,_,rfl,hL,fun t t1 t8 hx=>?_⟩;have hct:=csl t;have tp:(0:Int)<(t.length:Int):=by omega
 have a0:=Int.emod_nonneg (c / 64) (Int.ne_of_gt tp);have a1:=Int.emod_lt_of_pos (c / 64) tp;have gk:∀i:Nat,∃j:Nat,(c / 512+5*(0+(i:Int))) % 26=(j:Int)/\j<26:=fun i=>⟨((c / 512+5*(0+(i:Int))) % 26).toNat,by have:=Int.emod_nonneg (c / 512+5*(0+(i:Int))) (by decide:(26:Int)≠0);omega,by have:=Int.emod_lt_of_pos (c / 512+5*(0+(i:Int))) (by decide:(0:Int)<26);have:=Int.emod_nonneg (c / 512+5*(0+(i:Int))) (by decide:(26:Int)≠0);omega⟩;have e1:cs (PySem.StrLaws.sliceText t none (some (c / 64 % (t.length:Int))))=(cs t).take (c / 64 % (t.length:Int)).toNat:=ZlU a0 (by omega);have e2:cs (PySem.StrLaws.sliceText t (some (c / 64 % (t.length:Int)+1)) none)=(cs t).drop (c / 64 % (t.length:Int)+1).toNat:=ZjN (by omega) (by omega);have l1:=congrArg List.length e1;have l2:=congrArg List.length e2;rw[csl,List.length_take,csl] at l1;rw[csl,List.length_drop,csl] at l2;refine⟨_,rfl,_,_,rfl,rfl,⟨by decide,by decide⟩,_,rfl,t,rfl,Z9 (by omega),_,_,rfl,rfl,tp,?_⟩;refine⟨_,rfl,(m:Int),rfl,by omega,by omega,fun pl hpl=>ZcA (lo:=0) (n:=(m:Int).toNat) (p:=pl) (fun k ys σ H2=>∃v0:Option V,σ =[v0,some (.int c),some (.str L),some (.str t),some (.int (c / 64 % (t.length:Int)))]/\Zg H H2/\H2 pl=some (.lst ys)/\ys=((List.range k).map fun i:Nat=>PySem.StrLaws.sliceText t none (some (c / 64 % (t.length:Int)))++⟨#[b+((c / 512+5*(0+(i:Int))) % 26).toNat]⟩++PySem.StrLaws.sliceText t (some (c / 64 % (t.length:Int)+1)) none).map V.str)
  ⟨none,rfl,Zg.new hpl,Zb,rfl⟩ ?_ ?_ ?_⟩
 ·rintro k ys σ H2 _ ⟨v0,_,_,h2,_⟩;exact h2
 ·rintro k ys σ H2 hk ⟨v0,rfl,sm,hp2,rfl⟩;have hk':k<m:=by rw[Int.toNat_natCast] at hk;exact hk
  obtain⟨j,hj,hj26⟩:=gk k;have hch:atI L.cps.toList ((c / 512+5*(0+(k:Int))) % 26)=some (b+((c / 512+5*(0+(k:Int))) % 26).toNat):=by
   rw[hj,Int.toNat_natCast];exact hLa j hj26
  refine⟨_,rfl,_,rfl,_,rfl,_,rfl,Z9 (by omega),?_⟩;refine⟨_,rfl,_,rfl,_,_,rfl,rfl,⟨by decide,by decide⟩,_,rfl,_,_,rfl,rfl,.inl ⟨by decide,by decide⟩,_,_,rfl,rfl,_,_,rfl,rfl,(by show(0:Int)<26;decide),_,_,_,rfl,rfl,Z9 (by omega),hch,_,_,rfl,rfl,?_,?_⟩
  ·rw[l1];show _+1<=sizeLine;exact Z9 (by omega)
  refine⟨_,rfl,_,rfl,_,_,rfl,rfl,_,rfl,_,rfl,Z9 (by omega),_,_,rfl,rfl,?_,hp2,Z4 (by rw[List.length_map,List.length_map,List.length_range];omega),CW.next hk ⟨_,rfl,sm.upd_new hpl,Zb,?_⟩⟩
  ·rw[Zec,l1,l2];show _+1+_<=sizeLine;exact Z9 (by omega)
  ·rw[List.range_succ,List.map_append,List.map_append];rfl
 ·rintro ys σ H2 ⟨v0,_,sm,hp2,rfl⟩;rw[Int.toNat_natCast] at hp2;refine q pl _ H2 sm hpl hp2 (by rw[List.length_map,List.length_range]) (Zdn fun i j hi hj e=>?_) (fun n hn=>?_)
  ·have e:=congrArg cs e;rw[ZeZ,ZeZ,ZeZ,ZeZ] at e;have e:=List.append_cancel_right e;have e:=List.append_cancel_left e;have e:[b+((c / 512+5*(0+(i:Int))) % 26).toNat] =[b+((c / 512+5*(0+(j:Int))) % 26).toNat]:=e;injection e with e _;omega
  ·obtain⟨i,_,rfl⟩:=List.mem_map.mp hn;rw[Zec,Zec,l1,l2];show 1<=_+1+_/\_+1+_<=8;omega
mutual
def nmo:Ex->List Str
 | .nil=>[]
 | .tag _ _=>[]
 | .name n=>[n]
 | .several _ ps=>Zkv ps
 | .rep _ p=>nmo p
def Zkv:Exs->List Str
 | .nil=>[]
 | .cons e r=>nmo e++Zkv r
end
mutual
def neS:Ex->Prop
 | .several _ ps=>toL ps ≠ []/\ZlC ps
 | .rep _ p=>neS p
 | _=>True
def ZlC:Exs->Prop
 | .nil=>True
 | .cons e r=>neS e/\ZlC r
end
mutual
theorem ZhH{U:Str->Prop}{N:Str->Ex}{d:Nat}:∀{e:Ex},(∀n∈nmo e,U n/\Fit U N d (N n))->neS e->Fit U N (d+dp e+1) e
 | .nil,_,_=>trivial
 | .tag _ _,_,_=>trivial
 | .name n,h,_=>h n (List.mem_singleton.mpr rfl)
 | .several b ps,h,k=>⟨k.1,fun p hp=>(fits_of (ps:=ps) h k.2 p hp).le (by show _<=d+(dps ps+1);lia)⟩
 | .rep m p,h,k=>(ZhH (e:=p) h k).le (by show d+dp p+1<=d+(dp p+1);lia)
theorem fits_of{U:Str->Prop}{N:Str->Ex}{d:Nat}:∀{ps:Exs},(∀n∈Zkv ps,U n/\Fit U N d (N n))->ZlC ps->∀p∈toL ps,Fit U N (d+dps ps+1) p
 | .nil,_,_,_,h=>nomatch h
 | .cons e r,h,k,p,hp=>by
  have hm:dp e<=dps (.cons e r)/\dps r<=dps (.cons e r):=by
   show dp e<=max (dp e) (dps r)/\dps r<=max (dp e) (dps r);lia
  rcases List.mem_cons.mp hp with h'|hp
  ·rw[h'];exact(ZhH (e:=e) (fun n hn=>h n (List.mem_append_left _ hn)) k.1).le (by lia)
  ·exact(fits_of (ps:=r) (fun n hn=>h n (List.mem_append_right _ hn)) k.2 p hp).le (by lia)
end
def ofL:List Ex->Exs
 | []=>.nil
 | e::r=>.cons e (ofL r)
theorem ZeL:∀es:List Ex,toL (ofL es)=es
 | []=>rfl
 | e::r=>by rw[ofL,toL,ZeL r]
theorem Ze8:∀es:List Ex,szs (ofL es)=(es.map sz).sum
 | []=>rfl
 | e::r=>by rw[ofL,szs,Ze8 r,List.map_cons,List.sum_cons]
theorem Ze2{n:Nat}:∀es:List Ex,(∀e∈es,dp e<=n)->dps (ofL es)<=n
 | [],_=>Nat.zero_le _
 | e::r,k=>by
  have h1:=k e (List.mem_cons_self ..);have h2:=Ze2 r fun x hx=>k x (List.mem_cons_of_mem _ hx);show max (dp e) (dps (ofL r))<=n;lia
theorem Zdt{ot:List Str}:∀es:List Ex,(∀e∈es,∀n∈nmo e,n∈ot)->∀n∈Zkv (ofL es),n∈ot
 | [],_,_,h=>nomatch h
 | e::r,k,n,h=>by
  rcases List.mem_append.mp h with h|h
  ·exact k e (List.mem_cons_self ..) n h
  ·exact Zdt r (fun x hx=>k x (List.mem_cons_of_mem _ hx)) n h
theorem Zda:∀es:List Ex,(∀e∈es,neS e)->ZlC (ofL es)
 | [],_=>trivial
 | e::r,k=>⟨k e (List.mem_cons_self ..),Zda r fun x hx=>k x (List.mem_cons_of_mem _ hx)⟩
theorem Zdc{H:Hp}:∀{qs:List Addr}{es:List Ex},Paired (fun(q:Addr)(e:Ex)=>RepE H q e) qs es->RepEs H (qs.map V.ref) (ofL es)
 | _,_,.nil=>.nil
 | _,_,.cons h r=>.cons h (Zdc r)
theorem ZcV{H H':Hp}(k:TK H H'){qs:List Addr}{es:List Ex}(h:Paired (fun(q:Addr)(e:Ex)=>RepE H q e) qs es):Paired (fun(q:Addr)(e:Ex)=>RepE H' q e) qs es:=Paired.mapP h fun _ _ z=>z.mono k
def Nm3(H:Hp)(nh:Addr)(ot al tg:List Str):Prop:=(∃x y z,H nh=some (.tup [.ref x,.ref y,.ref z])/\H x=some (.lst (ot.map V.str))/\H y=some (.lst (al.map V.str))/\H z=some (.lst (tg.map V.str)))/\tg.length=4/\ot.length<=8/\al.length<=8/\∀t∈tg,t.length<=8
theorem Zfk{ns:List Str}{i lf:Int}:some (HO.lst (ns.map V.str))≠some (HO.lst [.int i,.int lf]):=by
 intro z;injection z with z;injection z with z;cases ns with
 | nil=>cases z
 | cons a r=>injection z with z _;cases z
theorem Nm3.but{H H':Hp}{st nh:Addr}{ot al tg:List Str}{i lf:Int}(b:But st H H')(h:H st=some (.lst [.int i,.int lf]))(n:Nm3 H nh ot al tg):Nm3 H' nh ot al tg:=by
 obtain⟨⟨x,y,w,h1,h2,h3,h4⟩,r⟩:=n;refine⟨⟨x,y,w,b _ _ (fun z=>?_) h1,b _ _ (fun z=>?_) h2,b _ _ (fun z=>?_) h3,b _ _ (fun z=>?_) h4⟩,r⟩
 ·rw[z,h] at h1;cases h1
 ·rw[z,h] at h2;exact Zfk h2.symm
 ·rw[z,h] at h3;exact Zfk h3.symm
 ·rw[z,h] at h4;exact Zfk h4.symm
theorem ZhK{ns:List Str}{k:Int}(h0:0<=k)(h1:k<(ns.length:Int)):∃n,atI (ns.map V.str) k=some (.str n)/\n∈ns:=by
 obtain⟨j,rfl⟩:=Int.eq_ofNat_of_zero_le h0;have hj:j<ns.length:=by lia
 exact⟨ns[j],Zad (by rw[List.getElem?_map,List.getElem?_eq_getElem hj];rfl),List.getElem_mem hj⟩
def ZfL(K:PySem.W.Frag)(n:Nat):Sp:=fun vs H Q _=>∃(a:Addr)(ns:List Int)(st:Addr)(i lf room:Int)(nh:Addr)(ot al tg:List Str),vs=[.ref a,.ref st,.int room,.ref nh]/\St20 K H a ns st i lf/\lf<=50/\1<=room/\room<n/\Nm3 H nh ot al tg /\
 ∀(p:Addr)(e:Ex)(i' lf':Int)(H':Hp),But st H H'->H' st=some (.lst [.int i',.int lf']) -> -1<=i'->0<=lf'->RepE H' p e->(sz e:Int)+2*lf'<=2+2*lf->(dp e:Int)<=room->(∀n∈nmo e,n∈ot)->neS e->Q (.ref p) H'
set_option maxHeartbeats 4000000 in
theorem ZhJ(n:Nat)(B:∀x∈ZcE,mg x=none)(g_l_next:Has P w K mg base "_law_next" ["_law_script","_law_state"] 1 (Zgd K)) (g_l_made:Has P w K mg base "_law_made" ["_law_script","_law_state","_law_room","_law_names"] (n+2) (ZfL K n)) (F:Fun K "_law_made" "_law_made" Zab f fd):FnOk P w K mg base CX0 (n+3) f fd ["_law_script","_law_state","_law_room","_law_names"] (ZfL K (n+1)):=by
 refine F.ok Zbo (fun vs H Q E h=>?_) (fun cdv A outer s H vs Q E hr h=>?_)
 ·obtain⟨a,ns,st,i,lf,room,nh,ot,al,tg,rfl,_⟩:=h;rfl
 obtain⟨a,ns,st,i,lf,room,nh,ot,al,tg,rfl,hS,hl50,hr1,hrn,hN,q⟩:=h;have hu:=Zkb hr;refine Zm ((Zc Zab).drop 5) (Zk (ZC (Z0 (Za ZP (Za (Zr ZW (Zr Zv (pv 3) Ze (fun _ _=>rfl)) (ZF Zal (ZF ZaM (pv 4) Ze) Ze) (fun _ _=>rfl)) (Za (Z0 (Za ZP Zf)) Zf)))))) (fun u5 h5 e5=>?_);refine Zm ((Zc Zab).drop 4) (Zd (Zah (ZD ZaN (ZF Zal (pv 5) Ze) Ze (ZV _))
   (Zk (ZC (Z0 (Za ZP (Za (Zr ZW (Zr Zv (pv 3) Ze (fun _ _=>rfl)) (ZF Zal (ZF ZaM (pv 4) Ze) (Zz Z1 rfl (B "len" (by decide)) PySem.boot_len (Za (Zr Zv (pv 3) Ze (fun _ _=>rfl)) Zf))) (fun _ _=>rfl)) Zf)))))
   Zy) h5) (fun u4 h4 e4=>?_)
 refine Zm ((Zc Zab).drop 3) (Zd (Zah (PW.pt (Zj7 (ZD ZaN (ZF Zal (pv 5) Ze) Ze (ZV _)) (Zh7 (PW.pt (ZcQ (ZD ZaN (ZF Zal (pv 5) Ze) Ze (ZV _)) (Zb7 (ZD (ZhI hu) (Zr Zv (pv 3) Ze (fun _ _=>rfl)) (Zas Zf) (ZV _))))))))
   (Zk (ZC (Z0 (Za ZP Zf))))
   Zy) h4) (fun u3 h3 e3=>?_)
 refine Zm ((Zaq ((Zc Zab).getD 2 (.Pass ⟨0,0,0,0⟩))).drop 6) (Zk (ZC (Z0 (Za (Zr ZW (Zas (Za ZP (Za ZP (Za ZP Zf)))) (ZF Zcj (pv 5) Ze) (fun _ _=>rfl)) (Za (Zr ZW (pv 7) Ze (fun _ _=>rfl)) Zf))))) (fun u2t6 h2t6 e2t6=>?_);refine Zm ((Zaq ((Zc Zab).getD 2 (.Pass ⟨0,0,0,0⟩))).drop 5) (Zd (Zah (ZD ZkZ (pv 5) Ze (ZV _))
   (Zk (ZC (Z0 (Za (Zr ZW (Zas (Za ZP (Za ZP Zf))) (ZF Zcj (pv 5) Ze) (fun _ _=>rfl)) (Za (ZaF Za0 rfl (B "tuple" (by decide)) Zbf (Za (pv 7) Zf)) Zf)))))
   Zy) h2t6) (fun u2t5 h2t5 e2t5=>?_)
 refine Zm ((Zaq ((Zc Zab).getD 2 (.Pass ⟨0,0,0,0⟩))).drop 4) (Zd (Zcf (cl:=_) (n0:=7) Zbo.nd rfl (Or.inl rfl) ["_law_k"] [("_law_script",0),("_law_state",1),("_law_room",2),("_law_names",3)] (Zbd rfl (B "range" (by decide)) (Za (pv 6) Zf)) (fun _ _ _ _=>(ZL (i:=0) (show List.Nodup (["_law_k","_law_script","_law_state","_law_room","_law_names"]:List Str) by decide) rfl (Or.inl rfl))) (fun _ _ _ _=>(Zaa g_l_made hr rfl (Za (pv 1) (Za (pv 2) (Za (ZF Zcj (pv 3) Ze) (Za (pv 4) Zf)))) (by lia))) rfl rfl (by decide) rfl (by decide) (Zdp (by(repeat' first|exact List.forall_mem_nil _|refine List.forall_mem_cons.mpr ⟨?_,?_⟩) <;> rfl)) (Zcg (by(repeat' first|exact List.forall_mem_nil _|refine List.forall_mem_cons.mpr ⟨?_,?_⟩) <;> first|(intro h;exact⟨_,rfl⟩)|(intro h;exact absurd h (by decide)))) (fun _=>by(repeat' first|exact List.forall_mem_nil _|refine List.forall_mem_cons.mpr ⟨?_,?_⟩) <;> exact⟨rfl,rfl,Or.inl rfl⟩) (fun _=>rfl) rfl) h2t5) (fun u2t4 h2t4 e2t4=>?_)
 refine Zm ((Zaq ((Zc Zab).getD 2 (.Pass ⟨0,0,0,0⟩))).drop 3) (Zd (Zah (ZD ZaN (pv 5) Ze (ZV _))
   (Zk (ZC (Z0 (Za ZP (Za (Zr ZW (Zr Zv (pv 3) Ze (fun _ _=>rfl)) (ZF Zal (ZF ZaM (pv 4) Ze) Ze) (fun _ _=>rfl)) (Za (Zaa g_l_made hr rfl (Za (pv 0) (Za (pv 1) (Za (ZF Zcj (pv 2) Ze) (Za (Z0 (Za (Zr Zv (pv 3) Ze (fun _ _=>rfl)) (Za (Zr Zv (pv 3) Ze (fun _ _=>rfl)) (Za (Zr Zv (pv 3) Ze (fun _ _=>rfl)) Zf)))) Zf)))) (by lia)) Zf))))))
   Zy) h2t4) (fun u2t3 h2t3 e2t3=>?_)
 refine Zm ((Zaq ((Zc Zab).getD 2 (.Pass ⟨0,0,0,0⟩))).drop 2) (Zd (ZcO (ZF Zcj (Zr ZW (pv 1) Ze (fun _ _=>rfl)) (pv 6)) (Zgc (pv 1) Ze set_list)) h2t3) (fun u2t2 h2t2 e2t2=>?_);refine Zm ((Zaq ((Zc Zab).getD 2 (.Pass ⟨0,0,0,0⟩))).drop 1) (Zd (Zx (i:=6) Zbo.nd rfl (Or.inl rfl) (Zz (ZeD rfl) rfl (B "min" (by decide)) Zjk (Za (pv 6) (Za (Zr ZW (pv 1) Ze (fun _ _=>rfl)) Zf)))) h2t2) (fun u2t1 h2t1 e2t1=>?_);refine Zm ((Zaq ((Zc Zab).getD 2 (.Pass ⟨0,0,0,0⟩))).drop 0) (Zd (Zx (i:=6) Zbo.nd rfl (Or.inl rfl) (ZF Za5 (ZF Za5 Ze (ZaF Zco rfl (B "int" (by decide)) ZdT (Za (Za7 ZaP (pv 5) (Z0 (Za Ze (Za Ze Zf))) (by with_unfolding_all rfl)) Zf))) (ZaF Zco rfl (B "int" (by decide)) ZdT (Za (ZcM (Za7 ZaP (pv 5) (Z0 (Za Ze (Za Ze Zf))) (by with_unfolding_all rfl)) (ZbY (Za7 ZaN (ZF Zal (ZF ZaM (pv 4) Ze) Ze) Ze (ZV _)))) Zf)))) h2t1) (fun u2t0 h2t0 e2t0=>?_)
 refine Zm ((Zc Zab).drop 2) (Zd (Zah (PW.pt (ZcQ (ZD ZgM (pv 5) Ze (ZV _)) (ZcQ (ZD ZgM (pv 2) Ze (ZV _)) (Zb7 (ZD ZgM (Zr ZW (pv 1) Ze (fun _ _=>rfl)) Ze (ZV _))))))
   h2t0
   Zy) h3) (fun u2 h2 e2=>?_)
 refine Zm ((Zc Zab).drop 1) (Zd (Zx (i:=5) Zbo.nd rfl (Or.inl rfl) (ZF Zal (pv 4) Ze)) h2) (fun u1 h1 e1=>?_);refine Zm ((Zc Zab).drop 0) (Zd (Zx (i:=4) Zbo.nd rfl (Or.inl rfl) (Zaa g_l_next hr rfl (Za (pv 0) (Za (pv 1) Zf)) (by lia))) h1) (fun u0 h0 e0=>?_);refine⟨u0,h0,?_⟩;refine Zj e0 ?_;refine⟨_,rfl,_,rfl,a,ns,st,i,lf,rfl,hS,fun cell=>?_⟩;have b1:But st H (upd H st (.lst [.int (i+1),.int lf])):=But.up;have hS1:St20 K (upd H st (.lst [.int (i+1),.int lf])) a ns st (i+1) lf:=hS.to b1 Zb (by have:=hS.i0;lia) hS.l0;have hN1:=hN.but b1 hS.at_;generalize upd H st (.lst [.int (i+1),.int lf])=H1 at b1 hS1 hN1 ⊢;show u1 _ _ _;refine Zj e1 ?_;refine⟨_,rfl,_,_,rfl,rfl,(by show(0:Int)<9;decide),?_⟩;have w0:=Int.emod_nonneg cell (by decide:(9:Int)≠0);have w9:=Int.emod_lt_of_pos cell (by decide:(0:Int)<9);obtain⟨⟨xo,xa,xt,hnh,hxo,hxa,hxt⟩,htl,hlo,hla,ht8⟩:=id hN1;obtain⟨tgn,htat,htin⟩:=ZhK (ns:=tg) (k:=cell / 9 % 4) (Int.emod_nonneg _ (by decide)) (by rw[htl];exact Int.emod_lt_of_pos _ (by decide));have leaf:u3 { nx:=fun _ H'=>Q .non H',rt:=Q } [some (.ref a),some (.ref st),some (.int room),some (.ref nh),some (.int cell),some (.int (cell % 9)),none,none] H1:=by
  have fin:∀(p:Addr)(e:Ex)(H':Hp),Zg H1 H'->RepE H' p e->sz e<=2->dp e<=1->(∀n∈nmo e,n∈ot)->neS e->Q (.ref p) H':=fun p e H' s' hp h2 h3 h4 h5=>q p e (i+1) lf H' (b1.trans (But.same s')) (s' _ _ hS1.at_) hS1.i0 hS1.l0 hp (by lia) (by lia) h4 h5;have nil:∀(D':Ends)(H2:Hp)(σ : St),D'.rt=Q->Zg H1 H2->ZlD (ZlA (Zfi (tC (.str "nil")) Zku)) D' σ H2:=by
   intro D' H2 σ hD' s2;refine⟨(by show 1<=sizeLine;decide),fun p hp=>?_⟩;rw[hD'];exact fin p .nil _ (s2.trans (Zg.new hp)) (.nil Zb) (by decide) (by decide) (fun n h=>nomatch h) trivial
  have tagl:∀(H2:Hp),Zg H1 H2->u5 { nx:=fun _ H'=>Q .non H',rt:=Q } [some (.ref a),some (.ref st),some (.int room),some (.ref nh),some (.int cell),some (.int (cell % 9)),none,none] H2:=by
   intro H2 s2;refine Zj e5 ?_;refine⟨_,rfl,nh,_,2,_,rfl,rfl,SqT.of (s2 _ _ hnh),rfl,_,rfl,_,_,rfl,rfl,⟨by decide,by decide⟩,_,_,rfl,rfl,(by show(0:Int)<4;decide),xt,_,_,_,rfl,rfl,SqL.of (s2 _ _ hxt),htat,(by show 1<=sizeLine;decide),fun p0 hp0=>⟨(by show 3<=sizeLine;decide),fun p1 hp1=>?_⟩⟩;obtain⟨n10,hp1'⟩:=ZaH hp1;exact fin p1 (.tag tgn .nil) _ (s2.trans ((Zg.new hp0).upd_new hp1')) (.tag (q:=p0) Zb (.nil (by rw[Zu n10.symm];exact Zb))) (by show 1+1<=2;decide) (by show 0+1<=1;decide) (fun n h=>nomatch h) trivial
  have namel:∀(H2:Hp),Zg H1 H2->(cell % 9 % 4=2->ot ≠ [])->u4 { nx:=fun _ H'=>Q .non H',rt:=Q } [some (.ref a),some (.ref st),some (.int room),some (.ref nh),some (.int cell),some (.int (cell % 9)),none,none] H2:=by
   intro H2 s2 hne;refine Zj e4 ?_;refine⟨_,rfl,_,_,rfl,rfl,(by show(0:Int)<4;decide),rfl,_,rfl,Zax (fun z=>?_) (fun _=>tagl H2 s2)⟩;have z:V.int (cell % 9 % 4)=V.int 2:=of_decide_eq_true z;injection z with z;have lp:(0:Int)<(((ot.map V.str).length:Nat):Int):=by
    have:0<ot.length:=List.length_pos_iff.mpr (hne z);rw[List.length_map];lia
   obtain⟨nn,hnat,hnin⟩:=ZhK (ns:=ot) (k:=cell / 9 % (((ot.map V.str).length:Nat):Int)) (Int.emod_nonneg _ (Int.ne_of_gt lp)) (by rw[List.length_map];exact Int.emod_lt_of_pos _ (by rw[List.length_map] at lp;exact lp));refine⟨_,rfl,nh,_,0,_,rfl,rfl,SqT.of (s2 _ _ hnh),rfl,_,rfl,_,_,rfl,rfl,⟨by decide,by decide⟩,_,rfl,nh,_,0,_,rfl,rfl,SqT.of (s2 _ _ hnh),rfl,xo,_,rfl,.inl (SqL.of (s2 _ _ hxo)),_,_,rfl,rfl,lp,xo,_,_,_,rfl,rfl,SqL.of (s2 _ _ hxo),hnat,(by show 2<=sizeLine;decide),fun p hp=>?_⟩;exact fin p (.name nn) _ (s2.trans (Zg.new hp)) (.name Zb) (by show 1<=2;decide) (by show 0<=1;decide) (fun n h=>by rw[List.mem_singleton.mp h];exact hnin) trivial
  refine Zj e3 ?_;refine⟨_,rfl,_,_,rfl,rfl,(by show(0:Int)<4;decide),rfl,_,rfl,Zax (fun _=>Zdb (nil _ H1 _ rfl (Zg.refl _))) (fun _=>?_)⟩;refine⟨_,rfl,_,_,rfl,rfl,(by show(0:Int)<4;decide),rfl,_,rfl,Zax (fun z=>?_) (fun z=>?_)⟩
  ·refine⟨_,rfl,nh,_,0,_,rfl,rfl,SqT.of hnh,rfl,(by show 0<=sizeLine;decide),fun pn hpn=>?_⟩;have s2:Zg H1 (upd H1 pn (.lst [])):=Zg.new hpn;refine⟨xo,pn,_,rfl,rfl,SqL.of (s2 _ _ hxo),SqL.of Zb,_,rfl,Zax (fun y=>?_) (fun y=>?_)⟩
   ·exact nil _ _ _ rfl s2
   ·exact namel _ s2 (fun _ hz=>y (by rw[hz];rfl))
  ·exact namel H1 (Zg.refl _) (fun y=>absurd (decide_eq_true (congrArg V.int y)) z)
 show u2 _ _ _;refine Zj e2 ?_;refine⟨_,rfl,_,_,rfl,rfl,_,rfl,Zax (fun c1=>?_) (fun _=>Zby leaf)⟩;refine⟨_,rfl,_,_,rfl,rfl,_,rfl,Zax (fun c2=>?_) (fun _=>Zby leaf)⟩;refine⟨_,rfl,st,_,1,_,rfl,rfl,SqL.of hS1.at_,rfl,_,_,rfl,rfl,_,rfl,Zax (fun c3=>?_) (fun _=>leaf)⟩;have c1:=of_decide_eq_true c1;have c2:=of_decide_eq_true c2;have c3:=of_decide_eq_true c3;have sto:∀(m:Nat)(H2:Hp),Zg H1 H2->1<=m->m<=3->(m:Int)<=lf->(cell % 9=4\/cell % 9=5->2<=m)->u2t2 { nx:=u3 { nx:=fun _ H'=>Q .non H',rt:=Q },rt:=Q } [some (.ref a),some (.ref st),some (.int room),some (.ref nh),some (.int cell),some (.int (cell % 9)),some (.int (m:Int)),none] H2:=by
  intro m H2 s12 m1 m3 mlf m45;have hS2:St20 K H2 a ns st (i+1) lf:=hS1.to (But.same s12) (s12 _ _ hS1.at_) hS1.i0 hS1.l0;have hN2:=hN1.but (But.same s12) hS1.at_;refine Zj e2t2 ?_;refine⟨_,rfl,st,_,1,_,rfl,rfl,SqL.of hS2.at_,rfl,_,rfl,_,_,rfl,rfl,_,rfl,st,_,1,1,rfl,rfl,hS2.at_,rfl,?_⟩;have b3:But st H2 (upd H2 st (.lst ([V.int (i+1),.int lf].set 1 (.int (lf-m))))):=But.up;have hS3:St20 K (upd H2 st (.lst ([V.int (i+1),.int lf].set 1 (.int (lf-m))))) a ns st (i+1) (lf-m):=hS2.to b3 Zb hS2.i0 (by lia);have hN3:=hN2.but b3 hS2.at_;generalize upd H2 st (.lst ([V.int (i+1),.int lf].set 1 (.int (lf-m))))=H3 at b3 hS3 hN3 ⊢;have b13:=(b1.trans (But.same s12)).trans b3;obtain⟨⟨xo,xa,xt,hnh,hxo,hxa,hxt⟩,_⟩:=id hN3;show u2t3 _ _ _;refine Zj e2t3 ?_;refine⟨_,rfl,rfl,_,rfl,Zax (fun z=>?_) (fun z=>?_)⟩
  ·refine⟨_,rfl,nh,_,2,_,rfl,rfl,SqT.of hnh,rfl,_,rfl,_,_,rfl,rfl,⟨by decide,by decide⟩,_,_,rfl,rfl,(by show(0:Int)<4;decide),xt,_,_,_,rfl,rfl,SqL.of hxt,htat,?_⟩;refine⟨_,rfl,_,rfl,_,rfl,_,_,rfl,rfl,_,rfl,nh,_,1,_,rfl,rfl,SqT.of hnh,rfl,_,rfl,nh,_,1,_,rfl,rfl,SqT.of hnh,rfl,_,rfl,nh,_,2,_,rfl,rfl,SqT.of hnh,rfl,(by show 3<=sizeLine;decide),fun nt hnt=>?_⟩;have s4:Zg H3 (upd H3 nt (.tup [.ref xa,.ref xa,.ref xt])):=Zg.new hnt;have hN4:Nm3 (upd H3 nt (.tup [.ref xa,.ref xa,.ref xt])) nt al al tg:=⟨⟨xa,xa,xt,Zb,s4 _ _ hxa,s4 _ _ hxa,s4 _ _ hxt⟩,htl,hla,hla,ht8⟩;have hS4:St20 K (upd H3 nt (.tup [.ref xa,.ref xa,.ref xt])) a ns st (i+1) (lf-m):=hS3.to (But.same s4) (s4 _ _ hS3.at_) hS3.i0 hS3.l0;refine⟨a,ns,st,i+1,lf-m,room-1,nt,al,al,tg,rfl,hS4,by lia,by lia,by lia,hN4,fun p e i2 lf2 H5 b5 hst5 k1 k2 hp hsz hdp hnm hne=>⟨(by show 3<=sizeLine;decide),fun p1 hp1=>?_⟩⟩;have s6:Zg H5 (upd H5 p1 (.tup [.str "tag",.str tgn,.ref p])):=Zg.new hp1;refine q p1 (.tag tgn e) i2 lf2 _ (((b13.trans (But.same s4)).trans b5).trans (But.same s6)) (s6 _ _ hst5) k1 k2 (.tag (q:=p) Zb (hp.mono s6.tk)) ?_ ?_ (fun n h=>nomatch h) trivial
   ·show((sz e+1:Nat):Int)+2*lf2<=_;lia
   ·show((dp e+1:Nat):Int)<=room;lia
  have n3:cell % 9≠3:=fun y=>z (decide_eq_true (congrArg V.int y));show u2t4 _ _ _;refine Zj e2t4 ?_;refine⟨_,rfl,(m:Int),rfl,by lia,by lia,fun pl hpl=>ZcA (lo:=0) (n:=(m:Int).toNat) (p:=pl) (fun k ys σ H4=>∃(v0:Option V)(qs:List Addr)(es:List Ex)(i' lf':Int),σ =[v0,some (.ref a),some (.ref st),some (.int room),some (.ref nh)]/\But st H3 H4/\H4 st=some (.lst [.int i',.int lf']) /\ -1<=i'/\0<=lf'/\H4 pl=some (.lst ys)/\ys=qs.map V.ref/\Paired (fun(q:Addr)(e:Ex)=>RepE H4 q e) qs es/\es.length=k/\((es.map sz).sum:Int)+2*lf'<=2*k+2*(lf-m)/\(∀e∈es,(dp e:Int)<=room-1)/\(∀e∈es,∀n∈nmo e,n∈ot)/\∀e∈es,neS e)
   ⟨none,[],[],i+1,lf-m,rfl,But.same (Zg.new hpl),by rw[Zu (Zq hS3.at_ hpl)];exact hS3.at_,hS3.i0,hS3.l0,Zb,rfl,.nil,rfl,(by show(0:Int)+2*(lf-m)<=2*((0:Nat):Int)+2*(lf-m);lia),(fun _ h=>nomatch h),(fun _ h=>nomatch h),(fun _ h=>nomatch h)⟩ ?_ ?_ ?_⟩
  ·rintro k ys σ H4 _ ⟨v0,qs,es,i',lf',_,_,_,_,_,h4,_⟩;exact h4
  ·rintro k ys σ H4 hk ⟨v0,qs,es,i',lf',rfl,bt,hst,hi',hlf',h4,rfl,hP,hel,hsz,hdp,hnm,hne⟩;have hk':k<m:=by rw[Int.toNat_natCast] at hk;exact hk
   have npl:pl≠st:=(Zq hS3.at_ hpl).symm;have hql:qs.length=es.length:=Paired.length hP;refine⟨_,rfl,_,rfl,_,rfl,_,_,rfl,rfl,_,rfl,a,ns,st,i',lf',room-1,nh,ot,al,tg,rfl,hS3.to bt hst hi' hlf',by lia,by lia,by lia,hN3.but bt hS3.at_,fun p e i2 lf2 H5 b5 h5 i20 l20 hp hsz2 hdp2 hnm2 hne2=>?_⟩;have hp5:=b5 _ _ npl h4;have tk:TK H4 (upd H5 pl (.lst (qs.map V.ref ++ [.ref p]))):=(b5.tk hst).trans (TK.lst hp5);refine⟨hp5,Z4 (by rw[List.length_map];lia),CW.next hk ⟨_,qs ++ [p],es ++ [e],i2,lf2,rfl,?_,by rw[Zu npl.symm];exact h5,i20,l20,Zb,by simp,Paired.app (ZcV tk hP) (.cons (hp.mono (TK.lst hp5)) .nil),by simp[hel],?_,?_,?_,?_⟩⟩
   ·intro b o nb hb;rw[Zu (Zq hb hpl)];exact b5 _ _ nb (bt _ _ nb hb)
   ·rw[List.map_append,List.sum_append];simp only[List.map_cons,List.map_nil,List.sum_cons,List.sum_nil];lia
   ·intro x hx;rcases List.mem_append.mp hx with hx|hx
    ·exact hdp x hx
    ·rw[List.mem_singleton.mp hx];lia
   ·intro x hx;rcases List.mem_append.mp hx with hx|hx
    ·exact hnm x hx
    ·rw[List.mem_singleton.mp hx];exact hnm2
   ·intro x hx;rcases List.mem_append.mp hx with hx|hx
    ·exact hne x hx
    ·rw[List.mem_singleton.mp hx];exact hne2
  rintro ys σ H4 ⟨v0,qs,es,i',lf',rfl,bt,hst,hi',hlf',h4,rfl,hP,hel,hsz,hdp,hnm,hne⟩;rw[Int.toNat_natCast] at hel hsz;have b14:=b13.trans bt;have hql:qs.length=es.length:=Paired.length hP;show u2t5 _ _ _;refine Zj e2t5 ?_;refine⟨_,rfl,_,_,rfl,rfl,_,rfl,Zax (fun y=>?_) (fun y=>?_)⟩
  ·have y:=of_decide_eq_true y;obtain⟨b,hb3⟩:∃b:Bool,cell % 9=if b=true then 4 else 5:=by
    by_cases h:cell % 9=4
    ·exact⟨true,h⟩
    ·exact⟨false,by show cell % 9=5;lia⟩
   have hm2:=m45 (by cases b with|true=>exact .inl hb3|false=>exact .inr hb3);have ht1:atI [V.str "turn",.str "or"] (cell % 9-4)=some (.str (Zc8 b)):=by
    rw[hb3];cases b <;> rfl
   refine⟨(by show 2<=sizeLine;decide),fun l1 hl1=>⟨_,rfl,_,_,rfl,rfl,l1,_,_,_,rfl,rfl,SqL.of Zb,ht1,?_⟩⟩;have s5:Zg H4 (upd H4 l1 (.lst [.str "turn",.str "or"])):=Zg.new hl1;generalize upd H4 l1 (.lst [.str "turn",.str "or"])=H5 at s5 ⊢;refine⟨_,rfl,pl,_,rfl,.inl ⟨SqL.of (s5 _ _ h4),fun r3 hr3=>?_⟩⟩;have s6:Zg H5 (upd H5 r3 (.tup (qs.map V.ref))):=Zg.new hr3;have x6:upd H5 r3 (.tup (qs.map V.ref)) r3=some (.tup (qs.map V.ref)):=Zb;generalize upd H5 r3 (.tup (qs.map V.ref))=H6 at s6 x6 ⊢;refine⟨(by show 2<=sizeLine;decide),fun p7 hp7=>?_⟩;have s7:Zg H6 (upd H6 p7 (.tup [.str (Zc8 b),.ref r3])):=Zg.new hp7;have s47:=(s5.trans s6).trans s7;refine q p7 (.several b (ofL es)) i' lf' _ (b14.trans (But.same s47)) (s47 _ _ hst) hi' hlf' (.several (q:=r3) (vs:=qs.map V.ref) Zb (s7 _ _ x6) (Zdc (ZcV s47.tk hP))) ?_ ?_ (Zdt es hnm) ⟨by rw[ZeL];exact fun z=>by rw[z] at hel;have:(0:Nat)=m:=hel;lia,Zda es hne⟩
   ·show((szs (ofL es)+1:Nat):Int)+2*lf'<=_;rw[Ze8];lia
   ·show((dps (ofL es)+1:Nat):Int)<=room;have:=Ze2 (n:=(room-1).toNat) es (fun e he=>by have:=hdp e he;lia);lia
  ·have y : ¬ cell % 9<6:=fun x=>y (decide_eq_true x);obtain⟨k,hk⟩:∃k:Nat,cell % 9-6=(k:Int):=⟨(cell % 9-6).toNat,by lia⟩;have k3:k<3:=by lia
   have hmw:atI [V.str "many",.str "some",.str "maybe"] (cell % 9-6)=some (.str (ZbV k)):=by
    rw[hk]
    match k,k3 with
    | 0,_=>rfl
    | 1,_=>rfl
    | 2,_=>rfl
   show u2t6 _ _ _;refine Zj e2t6 ?_;refine⟨(by show 3<=sizeLine;decide),fun l1 hl1=>⟨_,rfl,_,_,rfl,rfl,l1,_,_,_,rfl,rfl,SqL.of Zb,hmw,?_⟩⟩;have s5:Zg H4 (upd H4 l1 (.lst [.str "many",.str "some",.str "maybe"])):=Zg.new hl1;generalize upd H4 l1 (.lst [.str "many",.str "some",.str "maybe"])=H5 at s5 ⊢;cases hP with
   | nil=>have:(0:Nat)=m:=hel;lia
   | @cons q0 x0 qs es hq0 hP' =>
    refine⟨_,rfl,pl,_,0,_,rfl,rfl,SqL.of (s5 _ _ h4),at0,(by show 2<=sizeLine;decide),fun p7 hp7=>?_⟩;have s7:Zg H5 (upd H5 p7 (.tup [.str (ZbV k),.ref q0])):=Zg.new hp7;have s47:=s5.trans s7;have hsz0:sz x0<=((x0::es).map sz).sum:=by
     rw[List.map_cons,List.sum_cons];lia
    have hd0:=hdp x0 (List.mem_cons_self ..);refine q p7 (.rep k x0) i' lf' _ (b14.trans (But.same s47)) (s47 _ _ hst) hi' hlf' (.rep (q:=q0) Zb (hq0.mono s47.tk)) ?_ ?_ (hnm x0 (List.mem_cons_self ..)) (hne x0 (List.mem_cons_self ..))
    ·show((sz x0+1:Nat):Int)+2*lf'<=_;lia
    ·show((dp x0+1:Nat):Int)<=room;lia
 have min:∀(M:Int)(H2:Hp),Zg H1 H2->1<=M->M<=3->(cell % 9=4\/cell % 9=5->2<=M)->u2t1 { nx:=u3 { nx:=fun _ H'=>Q .non H',rt:=Q },rt:=Q } [some (.ref a),some (.ref st),some (.int room),some (.ref nh),some (.int cell),some (.int (cell % 9)),some (.int M),none] H2:=by
  intro M H2 s12 hM1 hM3 hM;refine Zj e2t1 ?_;refine⟨_,rfl,_,rfl,st,_,1,_,rfl,rfl,SqL.of (s12 _ _ hS1.at_),rfl,_,_,rfl,?_⟩;obtain⟨m,hme,m1,m3,mlf,m45⟩:∃m:Nat,(if lf<M then lf else M)=(m:Int)/\1<=m/\m<=3/\(m:Int)<=lf/\(cell % 9=4\/cell % 9=5->2<=m):=by
   split
   ·exact⟨lf.toNat,by lia,by lia,by lia,by lia,fun h=>by lia⟩
   ·exact⟨M.toNat,by lia,by lia,by lia,by lia,fun h=>by have:=hM h;lia⟩
  show ZgZ 6 (V.int (if lf<M then lf else M)) _ _ _
  rw[hme];exact sto m H2 s12 m1 m3 mlf m45
 have hin:∀x:Int,inV (.int x) [V.int 4,.int 5]=decide (x=4\/x=5):=fun x=>(ZiP (x:=x) (xs:=[4,5])).trans (decide_eq_decide.mpr (by simp));refine Zj e2t0 ?_;refine⟨_,rfl,(by show 2<=sizeLine;decide),fun t1 ht1=>⟨t1,_,rfl,.inr (SqT.of Zb),rfl,rfl,_,rfl,_,_,rfl,rfl,?_⟩⟩;have s2:Zg H1 (upd H1 t1 (.tup [.int 4,.int 5])):=Zg.new ht1;generalize upd H1 t1 (.tup [.int 4,.int 5])=H2 at s2 ⊢;refine⟨_,rfl,(by show 2<=sizeLine;decide),fun t3 ht3=>⟨t3,_,rfl,.inr (SqT.of Zb),rfl,rfl,_,rfl,?_⟩⟩;have s3:Zg H2 (upd H2 t3 (.tup [.int 4,.int 5])):=Zg.new ht3;generalize upd H2 t3 (.tup [.int 4,.int 5])=H3 at s3 ⊢;have hi:=hin (cell % 9);have hb:∀b:Bool,inV (.int (cell % 9)) [V.int 4,.int 5]=b->(cell % 9=4\/cell % 9=5->b=true):=fun b e h=>by rw[<- e,hi];exact decide_eq_true h
 have s13:=s2.trans s3;generalize inV (.int (cell % 9)) [V.int 4,.int 5]=b at hb ⊢;have hb:=hb b rfl;cases b with
 | true =>
  refine Zdb ?_;refine⟨_,rfl,_,_,rfl,rfl,⟨by decide,by decide⟩,_,_,rfl,rfl,(by show(0:Int)<3;decide),rfl,_,rfl,_,_,rfl,rfl,?_⟩;refine min _ H3 s13 ?_ ?_ ?_
  ·show(1:Int)<=1+1+(if _ then 1 else 0)
   split <;> lia
  ·show(1:Int)+1+(if _ then 1 else 0)<=3
   split <;> lia
  ·intro _;show(2:Int)<=1+1+(if _ then 1 else 0)
   split <;> lia
 | false =>
  refine Zby ?_;refine⟨_,rfl,_,_,rfl,rfl,min _ H3 s13 (by show(1:Int)<=1+0+0;decide) (by show(1:Int)+0+0<=3;decide) (fun h=>nomatch hb h)⟩
structure BkH(bk:List (Str×Ex)):Prop where
 nd:(bk.map (·.1)).Nodup
 l1:1<=bk.length
 l8:bk.length<=8
 sz:∀x∈bk,sz x.2<=190
 ne:∀x∈bk,neS x.2
 rk:∃(rk:Str->Nat)(m h:Nat),(h+1)*m<=40/\m<=bk.length/\h<=8/\∀x∈bk,rk x.1<m/\dp x.2<=h/\∀n∈nmo x.2,n∈bk.map (·.1)/\rk x.1<rk n
theorem BkH.fit{bk:List (Str×Ex)}(h:BkH bk):∀x∈bk,Ft bk 40 x.2:=by
 obtain⟨rk,m,g,hm,_,_,hr⟩:=h.rk;have all:∀k:Nat,∀x∈bk,m-rk x.1<=k->Ft bk ((g+1)*k) x.2:=by
  intro k
  induction k with
  | zero =>
   intro x hx hk;have:=(hr x hx).1;lia
  | succ k ih =>
   intro x hx hk;obtain⟨r1,r2,r3⟩:=hr x hx;have:=ZhH (U:=fun n=>n∈bk.map (·.1)) (N:=bkN bk) (d:=(g+1)*k) (e:=x.2) (fun n hn=>?_) (h.ne x hx)
   ·exact this.le (by rw[Nat.mul_succ];lia)
   ·obtain⟨y,hy,hyn⟩:=List.mem_map.mp (r3 n hn).1;refine⟨(r3 n hn).1,?_⟩;rw[<- hyn,ZcR h.nd hy];refine ih y hy ?_;have:=(r3 n hn).2;rw[<- hyn] at this;lia
 intro x hx;exact(all m x hx (by lia)).le hm
theorem BkH.good{bk:List (Str×Ex)}(h:BkH bk):BkG bk 48:=⟨h.nd,h.l1,h.l8,fun x hx=>by have:=h.sz x hx;lia,fun x hx=>(h.fit x hx).le (by decide)⟩
theorem BkH.perm{bk bk':List (Str×Ex)}(h:BkH bk)(p:bk'.Perm bk):BkH bk':=by
 obtain⟨rk,m,g,hm,hml,hg8,hr⟩:=h.rk;have hp:=p.map (·.1);exact⟨hp.nodup_iff.mpr h.nd,by rw[p.length_eq];exact h.l1,by rw[p.length_eq];exact h.l8,fun x hx=>h.sz x (p.mem_iff.mp hx),fun x hx=>h.ne x (p.mem_iff.mp hx),rk,m,g,hm,by rw[p.length_eq];exact hml,hg8,fun x hx=>⟨(hr x (p.mem_iff.mp hx)).1,(hr x (p.mem_iff.mp hx)).2.1,fun n hn=>⟨hp.mem_iff.mpr ((hr x (p.mem_iff.mp hx)).2.2 n hn).1,((hr x (p.mem_iff.mp hx)).2.2 n hn).2⟩⟩⟩
theorem ZdK{α β : Type}{F : α -> β -> Prop}:∀{l₁ : List α}{l₂ : List β}(n:Nat),Paired F l₁ l₂ -> Paired F (l₁.take n) (l₂.take n)
 | _,_,0,_=>.nil
 | _,_,n+1,.nil=>.nil
 | _,_,n+1,.cons h r=>.cons h (ZdK n r)
theorem ZdB{α β : Type}{F : α -> β -> Prop}:∀{l₁ : List α}{l₂ : List β}(n:Nat),Paired F l₁ l₂ -> Paired F (l₁.drop n) (l₂.drop n)
 | _,_,0,h=>h
 | _,_,n+1,.nil=>.nil
 | _,_,n+1,.cons h r=>ZdB n r
theorem Zf5{α : Type}(l:List α)(x : α)(j:Nat):(l.take j++x::l.drop j).Perm (l ++ [x]):=by
 have h1:(l.take j++x::l.drop j).Perm (x::(l.take j++l.drop j)):=List.perm_middle;rw[List.take_append_drop] at h1;exact h1.trans (List.perm_append_singleton x l).symm
theorem ZkK{rs:List Str}{j:Nat}{r:Str}(h:rs[j]?= some r):atI (rs.map V.str) (0+(j:Int))=some (.str r):=by
 rw[Int.zero_add];exact Zad (by rw[List.getElem?_map,h];rfl)
theorem SqL.apart{K:PySem.W.Frag}{H:Hp}{a b:Addr}{xs:List V}(h:SqL K H a xs)(n:H b=none):a≠b\/∀H',SqL K H' a xs:=by
 rcases h with(h|⟨o,h⟩)|h
 ·exact .inl fun z=>by rw[z,n] at h;cases h
 ·exact .inl fun z=>by rw[z,n] at h;cases h
 ·exact .inr fun _=>.inr h
theorem St20.upd{K:PySem.W.Frag}{H:Hp}{a st b:Addr}{ns:List Int}{i lf:Int}{o:HO}(h:St20 K H a ns st i lf)(n:a≠b\/∀H',SqL K H' a (ns.map V.int))(nb:b≠st):St20 K (upd H b o) a ns st i lf:=⟨SqL.off h.scr n,h.l63,h.ne,by rw[Zu nb.symm];exact h.at_,h.i0,h.l0⟩
def Zg8(K:PySem.W.Frag):Sp:=fun vs H Q _=>∃(a:Addr)(ns:List Int)(st:Addr)(i lf:Int),vs=[.ref a,.ref st]/\St20 K H a ns st i lf /\
 ∀(b:Addr)(bk:List (Str×Ex))(H':Hp),But st H H'->BkA H' b bk->BkH bk->Q (.ref b) H'
theorem ZdU:∀{ws:List Str}{j:Nat}{n:Str},ws.Nodup->ws[j]?= some n->ws.idxOf n=j
 | [],_,_,_,h=>by simp at h
 | a::ws,0,n,_,h=>by
  cases h;rw[List.idxOf_cons,beq_self_eq_true];rfl
 | a::ws,j+1,n,hn,h=>by
  rw[List.nodup_cons] at hn;have h:ws[j]?= some n:=by simpa using h
  have:(a == n)=false:=beq_eq_false_iff_ne.mpr fun z=>hn.1 (by rw[z];exact List.mem_of_getElem? h);rw[List.idxOf_cons,this,ZdU hn.2 h];rfl
def ZmK(st pl:Addr)(H H':Hp):Prop := ∀b o,b≠st->b≠pl->H b=some o->H' b=some o
def BkI(K:PySem.W.Frag)(H4:Hp)(a:Addr)(ns:List Int)(st pl:Addr)(words:List Str)(k:Nat)(H5:Hp):Prop := ∃(bk:List (Str×Ex))(vs:List V)(i5 lf5:Int),ZmK st pl H4 H5/\St20 K H5 a ns st i5 lf5/\lf5<=12/\H5 pl=some (.lst vs)/\Paired (Plc H5) vs bk/\(bk.map (·.1)).Perm (words.take k)/\∀x∈bk,sz x.2<=190/\neS x.2/\dp x.2<=8/\∃j:Nat,words[j]?= some x.1/\∀n∈nmo x.2,n∈words.drop (j+1)
set_option maxHeartbeats 4000000 in
theorem Zhs(B:∀x∈ZcE,mg x=none)(g_l_next:Has P w K mg base "_law_next" ["_law_script","_law_state"] 1 (Zgd K)) (g_l_pool:Has P w K mg base "_law_pool" ["_law_cell","_law_letters","_law_many"] 2 Zh9) (g_l_made:Has P w K mg base "_law_made" ["_law_script","_law_state","_law_room","_law_names"] 11 (ZfL K 9)) (F:Fun K "_law_book" "_law_book" Zan f fd):FnOk P w K mg base CX0 12 f fd ["_law_script","_law_state"] (Zg8 K):=by
 refine F.ok ZaX (fun vs H Q E h=>?_) (fun cdv A outer s H vs Q E hr h=>?_)
 ·obtain⟨a,ns,st,i,lf,rfl,_⟩:=h;rfl
 obtain⟨a,ns,st,i,lf,rfl,hS,q⟩:=h;refine Zm ((Zc Zan).drop 8) (Zk (ZC (ZaF ZbU rfl (B "tuple" (by decide)) Zbf (Za (pv 7) Zf)))) (fun u8 h8 e8=>?_);refine Zm ((Zaq ((Zc Zan).getD 7 (.Pass ⟨0,0,0,0⟩))).drop 0) (Zk (Zbu (ZhZ PySem.F.plainAttrs_list PySem.F.slot_list_insert PySem.F.type_list_insert ZeJ (pv 7) (Za (Zz (ZeD rfl) rfl (B "min" (by decide)) Zjk (Za (pv 8) (Za (ZF Za5 Ze (ZF Zal (ZF ZaM (pv 3) Ze) Ze)) Zf))) (Za (Z0 (Za (Zr ZW (pv 5) (pv 8) (fun _ _=>rfl)) (Za (Zaa g_l_made hr rfl (Za (pv 0) (Za (pv 1) (Za Ze (Za (Z0 (Za (Zbt Zd4 (pv 5) (ZbC (ZF Za5 (pv 8) Ze)) Zbv) (Za (pv 5) (Za (pv 6) Zf)))) Zf))))) Zf))) Zf))))) (fun u7_0 h7_0 e7_0=>?_);refine Zm ((Zc Zan).drop 7) (Zd (ZaZ PassesOwn.never rfl (Zbd rfl (B "range" (by decide)) (Za (pv 4) Zf)) (ZL (i:=8) ZaX.nd rfl (Or.inl rfl))
   h7_0) h8) (fun u7 h7 e7=>?_)
 refine Zm ((Zc Zan).drop 6) (Zd (Zx (i:=7) ZaX.nd rfl (Or.inl rfl) (Zas Zf)) h7) (fun u6 h6 e6=>?_);refine Zm ((Zc Zan).drop 5) (Zd (ZcO Ze (Zgc (pv 1) Ze set_list)) h6) (fun u5 h5 e5=>?_);refine Zm ((Zc Zan).drop 4) (Zd (Zx (i:=6) ZaX.nd rfl (Or.inl rfl) (Zaa g_l_pool hr rfl (Za (Zaa g_l_next hr rfl (Za (pv 0) (Za (pv 1) Zf))) (Za (Zla PySem.F.plainAttrs_str PySem.F.slot_str_lower PySem.F.type_str_lower ZiC (pv 2)) (Za Ze Zf))))) h5) (fun u4 h4 e4=>?_);refine Zm ((Zc Zan).drop 3) (Zd (Zx (i:=5) ZaX.nd rfl (Or.inl rfl) (Zaa g_l_pool hr rfl (Za (ZF ZaM (pv 3) Ze) (Za (pv 2) (Za (pv 4) Zf))))) h4) (fun u3 h3 e3=>?_);refine Zm ((Zc Zan).drop 2) (Zd (Zx (i:=4) ZaX.nd rfl (Or.inl rfl) (ZF Za5 Ze (ZF Zal (pv 3) Ze))) h3) (fun u2 h2 e2=>?_);refine Zm ((Zc Zan).drop 1) (Zd (Zx (i:=3) ZaX.nd rfl (Or.inl rfl) (Zaa g_l_next hr rfl (Za (pv 0) (Za (pv 1) Zf)))) h2) (fun u1 h1 e1=>?_);refine Zm ((Zc Zan).drop 0) (Zd (Zx (i:=2) ZaX.nd rfl (Or.inl rfl) ZP) h1) (fun u0 h0 e0=>?_);refine⟨u0,h0,?_⟩;refine Zj e0 ?_;show u1 _ _ _;refine Zj e1 ?_;refine⟨_,rfl,_,rfl,a,ns,st,i,lf,rfl,hS,fun cell=>?_⟩;have b1:But st H (upd H st (.lst [.int (i+1),.int lf])):=But.up;have hS1:St20 K (upd H st (.lst [.int (i+1),.int lf])) a ns st (i+1) lf:=hS.to But.up Zb (by have:=hS.i0;lia) hS.l0;generalize upd H st (.lst [.int (i+1),.int lf])=H1 at hS1 b1 ⊢;have w0:=Int.emod_nonneg cell (by decide:(4:Int)≠0);have w4:=Int.emod_lt_of_pos cell (by decide:(0:Int)<4);obtain⟨m,hm⟩:∃m:Nat,1+cell % 4=(m:Int):=⟨(1+cell % 4).toNat,by lia⟩;show u2 _ _ _;refine Zj e2 ?_;refine⟨_,rfl,_,_,rfl,rfl,(by show(0:Int)<4;decide),_,_,rfl,rfl,?_⟩;show u3 _ [some (.ref a),some (.ref st),some (.str "ABCDEFGHIJKLMNOPQRSTUVWXYZ"),some (.int cell),some (.int (1+cell % 4)),none,none,none,none] H1;rw[hm];refine Zj e3 ?_;refine⟨_,rfl,_,_,rfl,rfl,⟨by decide,by decide⟩,_,rfl,_,rfl,_,_,m,65,rfl,Zkl,ZiF,by lia,fun lw words H2 s2 flw hlw hwl hwn hw8=>?_⟩;have nlw:lw≠st:=fun z=>by rw[z,hS1.at_] at flw;cases flw
 have hS2:St20 K H2 a ns st (i+1) lf:=hS1.to (But.same s2) (s2 _ _ hS1.at_) hS1.i0 hS1.l0;show u4 _ _ _;refine Zj e4 ?_;refine⟨_,rfl,_,rfl,a,ns,st,i+1,lf,rfl,hS2,fun c2=>?_⟩;have b3:But st H2 (upd H2 st (.lst [.int (i+1+1),.int lf])):=But.up;have hS3:St20 K (upd H2 st (.lst [.int (i+1+1),.int lf])) a ns st (i+1+1) lf:=hS2.to But.up Zb (by have:=hS.i0;lia) hS.l0;have hlw3:=b3 _ _ nlw hlw;generalize upd H2 st (.lst [.int (i+1+1),.int lf])=H3 at hS3 b3 hlw3 ⊢;refine⟨_,rfl,rfl,_,_,rfl,rfl,Zib,by decide,?_⟩;refine⟨_,_,4,97,rfl,by decide,Zik,by decide,fun lt tags H4 s4 flt hlt htl htn ht8=>?_⟩;have nlt:lt≠st:=fun z=>by rw[z,hS3.at_] at flt;cases flt
 have hS4:St20 K H4 a ns st (i+1+1) lf:=hS3.to (But.same s4) (s4 _ _ hS3.at_) hS3.i0 hS3.l0;have hlw4:=s4 _ _ hlw3;have b14:=((b1.trans (But.same s2)).trans b3).trans (But.same s4);show u5 _ _ _;refine Zj e5 ?_;refine⟨_,rfl,st,_,1,1,rfl,rfl,hS4.at_,rfl,?_⟩;have b5:But st H4 (upd H4 st (.lst ([V.int (i+1+1),.int lf].set 1 (.int 12)))):=But.up;have hS5:St20 K (upd H4 st (.lst ([V.int (i+1+1),.int lf].set 1 (.int 12)))) a ns st (i+1+1) 12:=hS4.to b5 Zb hS4.i0 (by decide);have hlw5:=b5 _ _ nlw hlw4;have hlt5:=b5 _ _ nlt hlt;generalize upd H4 st (.lst ([V.int (i+1+1),.int lf].set 1 (.int 12)))=H5 at b5 hS5 hlw5 hlt5 ⊢;have b15:=b14.trans b5;show u6 _ _ _;refine Zj e6 ?_;refine⟨(by show 0<=sizeLine;decide),fun pl hpl=>?_⟩;have s6:Zg H5 (upd H5 pl (.lst [])):=Zg.new hpl;have x6:upd H5 pl (.lst []) pl=some (.lst []):=Zb;have npl:pl≠st:=(Zq hS5.at_ hpl).symm;have npw:lw≠pl:=Zq hlw5 hpl;have npt:lt≠pl:=Zq hlt5 hpl;have apl:=SqL.apart hS5.scr hpl;generalize upd H5 pl (.lst [])=H6 at s6 x6 ⊢;have hS6:St20 K H6 a ns st (i+1+1) 12:=hS5.to (But.same s6) (s6 _ _ hS5.at_) hS5.i0 (by decide);show u7 _ _ _;refine Zj e7 ?_;refine⟨_,rfl,(m:Int),rfl,by lia,by lia,ZbK (lo:=0) (n:=(m:Int).toNat) (fun k σ H7=>∃v8:Option V,σ =[some (.ref a),some (.ref st),some (.str "ABCDEFGHIJKLMNOPQRSTUVWXYZ"),some (.int cell),some (.int (m:Int)),some (.ref lw),some (.ref lt),some (.ref pl),v8]/\BkI K H6 a ns st pl words k H7)
  ⟨none,rfl,[],[],i+1+1,12,(fun _ _ _ _ h=>h),hS6,(by decide),x6,.nil,.nil,(fun _ h=>nomatch h)⟩ ?_ ?_⟩
 ·rintro k σ H7 hk ⟨v8,rfl,bk,vs,i7,lf7,b7,hS7,hlf7,hpl7,hE7,hperm,hk7⟩;have hk':k<m:=by rw[Int.toNat_natCast] at hk;exact hk
  have hlw7:=b7 _ _ nlw npw (s6 _ _ hlw5);have hlt7:=b7 _ _ nlt npt (s6 _ _ hlt5);have hkn:words[k]?= some words[k]:=List.getElem?_eq_getElem (by lia);have hbl:bk.length=k:=by
   have:=hperm.length_eq;rw[List.length_map,List.length_take] at this;lia
  have hvl:vs.length=k:=by rw[<- hbl];exact Paired.length hE7
  show u7_0 _ _ _;refine Zj e7_0 ?_;obtain⟨j,hj,hjk⟩:∃j:Nat,(if 1+cell / 7 % 4<0+(k:Int) then 1+cell / 7 % 4 else 0+(k:Int))=(j:Int)/\j<=k:=by
   have r0:=Int.emod_nonneg (cell / 7) (by decide:(4:Int)≠0)
   split
   ·exact⟨(1+cell / 7 % 4).toNat,by lia,by lia⟩
   ·exact⟨k,by lia,Nat.le_refl _⟩
  refine⟨_,rfl,.inl ⟨rfl,_,SqL.of hpl7⟩,_,rfl,_,rfl,_,_,rfl,rfl,⟨by decide,by decide⟩,_,_,rfl,rfl,(by show(0:Int)<4;decide),_,_,rfl,rfl,_,_,rfl,?_⟩;refine⟨_,rfl,_,rfl,lw,_,_,_,rfl,rfl,SqL.of hlw7,ZkK hkn,?_⟩;refine⟨_,rfl,_,rfl,_,rfl,_,rfl,_,_,rfl,rfl,_,rfl,lw,_,rfl,SqL.of hlw7,fun p9 hp9=>?_⟩;have ecut:Zd9 (words.map V.str) (some (0+(k:Int)+1)) none=(words.drop (k+1)).map V.str:=by
   rw[show(0+(k:Int)+1)=((k+1:Nat):Int) by lia,ZiQ,List.map_drop]
  rw[ecut];have s9:Zg H7 (upd H7 p9 (.lst ((words.drop (k+1)).map V.str))):=Zg.new hp9;have x9:upd H7 p9 (.lst ((words.drop (k+1)).map V.str)) p9=some (.lst ((words.drop (k+1)).map V.str)):=Zb;generalize upd H7 p9 (.lst ((words.drop (k+1)).map V.str))=H9 at s9 x9 ⊢;refine⟨_,rfl,_,rfl,(by show 3<=sizeLine;decide),fun nt hnt=>?_⟩;have s10:Zg H9 (upd H9 nt (.tup [.ref p9,.ref lw,.ref lt])):=Zg.new hnt;have x10:upd H9 nt (.tup [.ref p9,.ref lw,.ref lt]) nt=some (.tup [.ref p9,.ref lw,.ref lt]):=Zb;generalize upd H9 nt (.tup [.ref p9,.ref lw,.ref lt])=H10 at s10 x10 ⊢;have s70:=s9.trans s10;have hN10:Nm3 H10 nt (words.drop (k+1)) words tags:=⟨⟨p9,lw,lt,x10,s10 _ _ x9,s70 _ _ hlw7,s70 _ _ hlt7⟩,htl,by rw[List.length_drop];lia,by lia,fun t ht=>(ht8 t ht).2⟩;have hS10:St20 K H10 a ns st i7 lf7:=hS7.to (But.same s70) (s70 _ _ hS7.at_) hS7.i0 hS7.l0;refine⟨a,ns,st,i7,lf7,8,nt,words.drop (k+1),words,tags,rfl,hS10,by lia,by decide,by decide,hN10,fun p e i8 lf8 H8 b8 h8 k1 k2 hp hsz hdp hnm hne=>⟨(by show 2<=sizeLine;decide),fun pt hpt=>?_⟩⟩;have hpl8:=b8 _ _ npl (s70 _ _ hpl7);have hsp:=Zi4 e;have tk78:TK H7 H8:=s70.tk.trans (b8.tk hS10.at_);have s11:Zg H8 (upd H8 pt (.tup [.str words[k],.ref p])):=Zg.new hpt;have x11:upd H8 pt (.tup [.str words[k],.ref p]) pt=some (.tup [.str words[k],.ref p]):=Zb;generalize upd H8 pt (.tup [.str words[k],.ref p])=H11 at s11 x11 ⊢;have hpl11:=s11 _ _ hpl8;have tk12:TK H11 (upd H11 pl (.lst (vs.take j ++ .ref pt::vs.drop j))):=TK.lst hpl11;have hS11:St20 K H11 a ns st i8 lf8:=(hS10.to b8 h8 k1 k2).to (But.same s11) (s11 _ _ h8) k1 k2;refine⟨pl,vs,_,j,.ref pt,rfl,rfl,hj,hpl11,by lia,Z4 (by lia),_,rfl,bk.take j++(words[k],e)::bk.drop j,vs.take j ++ .ref pt::vs.drop j,i8,lf8,?_,hS11.upd apl npl,by lia,Zb,?_,?_,?_⟩
  ·intro c o n1 n2 hc;rw[Zu n2];exact s11 _ _ (b8 _ _ n1 (s70 _ _ (b7 _ _ n1 n2 hc)))
  ·have tk:=(tk78.trans s11.tk).trans tk12;have hE:=Plc.tk tk hE7;exact Paired.app (ZdK j hE) (.cons ⟨pt,p,rfl,tk12 _ _ x11,hp.mono (s11.tk.trans tk12)⟩ (ZdB j hE))
  ·have h1:=(Zf5 bk (words[k],e) j).map (·.1);rw[List.map_append,List.map_append] at h1;refine List.Perm.trans ?_ ((hperm.append_right [words[k]]).trans ?_)
   ·rw[List.map_append];exact h1
   ·rw[List.take_succ_eq_append_getElem (by lia)]
  ·intro x hx;have hx:=(Zf5 bk (words[k],e) j).mem_iff.mp hx;rcases List.mem_append.mp hx with hx|hx
   ·exact hk7 x hx
   ·rw[List.mem_singleton.mp hx];exact⟨by show sz e<=190;lia,hne,by show dp e<=8;lia,k,hkn,hnm⟩
 ·rintro σ H7 ⟨v8,rfl,bk,vs,i7,lf7,b7,hS7,hlf7,hpl7,hE7,hperm,hk7⟩;rw[Int.toNat_natCast,<- hwl,List.take_length] at hperm;show u8 _ _ _;refine Zj e8 ?_;refine⟨_,rfl,pl,vs,rfl,SqL.of hpl7,fun b o hb _ ho=>?_⟩;have s8:Zg H7 (upd H7 b (.frz o (.tup vs))):=Zg.new hb;have hlen:=hperm.length_eq;rw[List.length_map] at hlen;refine q b bk _ (fun c o' nc hc=>?_) ⟨o,vs,Zb,ho,Plc.tk s8.tk hE7⟩ ⟨hperm.nodup_iff.mpr hwn,by lia,by lia,fun x hx=>(hk7 x hx).1,fun x hx=>(hk7 x hx).2.1,fun n=>words.idxOf n,bk.length,8,by lia,Nat.le_refl _,by decide,fun x hx=>?_⟩
  ·have hc5:=b15 _ _ nc hc;exact s8 _ _ (b7 _ _ nc (Zq hc5 hpl) (s6 _ _ hc5))
  ·obtain⟨_,_,h3,j,hj,hn⟩:=hk7 x hx;have hjl:=(List.getElem?_eq_some_iff.mp hj).1;refine⟨by show words.idxOf x.1<bk.length;rw[ZdU hwn hj];lia,h3,fun n hnm=>⟨hperm.mem_iff.mpr (List.mem_of_mem_drop (hn n hnm)),?_⟩⟩;obtain⟨l,hl⟩:=List.getElem?_of_mem (hn n hnm);rw[List.getElem?_drop] at hl;show words.idxOf x.1<words.idxOf n;rw[ZdU hwn hj,ZdU hwn hl];lia
def WW:List Str:=["H","G","F","E","D","C","B","A"]
theorem ZlX:∀k:Nat,k<7->∃c c':Nat,atI (Str.ofString "GFEDCBA").cps.toList (0+(k:Int))=some c/\atI (Str.ofString "HGFEDCB").cps.toList (0+(k:Int))=some c'/\WW[k+1]?= some ⟨#[c]⟩/\WW[k]?= some ⟨#[c']⟩
 | 0,_=>⟨_,_,rfl,rfl,rfl,rfl⟩
 | 1,_=>⟨_,_,rfl,rfl,rfl,rfl⟩
 | 2,_=>⟨_,_,rfl,rfl,rfl,rfl⟩
 | 3,_=>⟨_,_,rfl,rfl,rfl,rfl⟩
 | 4,_=>⟨_,_,rfl,rfl,rfl,rfl⟩
 | 5,_=>⟨_,_,rfl,rfl,rfl,rfl⟩
 | 6,_=>⟨_,_,rfl,rfl,rfl,rfl⟩
 | k+7,h=>absurd h (by lia)
theorem Zjx:WW.Nodup:=by decide
theorem Zd3{H:Hp}{q:Addr}{e:Ex}(h:RepE H q e):∀n:Nat,Paired (fun(q:Addr)(e:Ex)=>RepE H q e) (List.replicate n q) (List.replicate n e)
 | 0=>.nil
 | n+1=>.cons h (Zd3 h n)
theorem Zef{α : Type}(a : α):∀n:Nat,(List.replicate n [a]).flatten=List.replicate n a
 | 0=>rfl
 | n+1=>by rw[List.replicate_succ,List.flatten_cons,Zef a n];rfl
theorem ZfH{α β : Type}(g : α -> β)(a : α)(n:Nat):(List.replicate n a).map g=List.replicate n (g a):=List.map_replicate
theorem Zhf(c:Nat):∀n:Nat,(List.replicate n c).sum=n*c
 | 0=>by simp
 | n+1=>by rw[List.replicate_succ,List.sum_cons,Zhf c n,Nat.succ_mul];lia
def ZcG:Sp:=fun vs H Q _=>∃c:Int,vs=[.int c]/\∀(b:Addr)(bk:List (Str×Ex))(H':Hp),Zg H H'->BkA H' b bk->BkH bk->Q (.ref b) H'
def GrI(H:Hp)(pl:Addr)(k:Nat)(H5:Hp):Prop := ∃(bk:List (Str×Ex))(vs:List V),Zg H H5/\H5 pl=some (.lst vs)/\Paired (Plc H5) vs bk/\bk.map (·.1)=(WW.take (k+1)).reverse/\∀x∈bk,sz x.2<=190/\neS x.2/\dp x.2<=1/\∃j:Nat,WW[j]?= some x.1/\∀n∈nmo x.2,∃i<j,WW[i]?= some n
set_option maxHeartbeats 4000000 in
theorem Zck(B:∀x∈ZcE,mg x=none)(F:Fun K "_law_greatest_book" "_law_greatest_book" ZK f fd):FnOk P w K mg base CX0 1 f fd ["_law_cell"] ZcG:=by
 refine F.ok ZaC (fun vs H Q E h=>?_) (fun cdv A outer s H vs Q E hr h=>?_)
 ·obtain⟨c,rfl,_⟩:=h;rfl
 obtain⟨c,rfl,q⟩:=h;refine Zm ((Zc ZK).drop 2) (Zk (ZC (ZaF ZbU rfl (B "tuple" (by decide)) Zbf (Za (pv 1) Zf)))) (fun u2 h2 e2=>?_);refine Zm ((Zaq ((Zc ZK).getD 1 (.Pass ⟨0,0,0,0⟩))).drop 1) (Zk (Zbu (ZhZ PySem.F.plainAttrs_list PySem.F.slot_list_insert PySem.F.type_list_insert ZeJ (pv 1) (Za Ze (Za (PEi.to (Zae (Zi (PEi.of (Zr Ze7 ZP (pv 2) (fun _ _=>rfl))) (Zi (Zae (Zi (PEi.of (pv 3)) (Zi (Zcz Za0 rfl (B "tuple" (by decide)) Zbf (Zi (Zi1 ZfV (Zba (Zi (Zae (Zi Z2 (Zi (PEi.of (Zr Ze7 ZP (pv 2) (fun _ _=>rfl))) ZM))) ZM)) Zbh) ZM)) ZM))) ZM)))) Zf))))) (fun u1_1 h1_1 e1_1=>?_);refine Zm ((Zaq ((Zc ZK).getD 1 (.Pass ⟨0,0,0,0⟩))).drop 0) (Zd (Zx (i:=3) ZaC.nd rfl (Or.inl rfl) (Zr ZW (PEi.to (Zba (Zi Z2 (Zi Z2 ZM)))) (ZF Zal (ZF ZaM (pv 0) (ZF Za5 (pv 2) Ze)) Ze) (fun _ _=>rfl))) h1_1) (fun u1_0 h1_0 e1_0=>?_);refine Zm ((Zc ZK).drop 1) (Zd (ZaZ PassesOwn.never rfl (Zbd rfl (B "range" (by decide)) (Za Ze Zf)) (ZL (i:=2) ZaC.nd rfl (Or.inl rfl)) h1_0) h2) (fun u1 h1 e1=>?_);refine Zm ((Zc ZK).drop 0) (Zd (Zx (i:=1) ZaC.nd rfl (Or.inl rfl) (PEi.to (Zba (Zi (Zae (Zi Z2 (Zi (Zae (Zi Z2 (Zi Z2 (Zi (Zae (Zi Z2 ZM)) ZM)))) ZM))) ZM)))) h1) (fun u0 h0 e0=>?_);refine⟨u0,h0,?_⟩;refine Zj e0 ?_;refine⟨(by show 1<=sizeLine;decide),fun p0 hp0=>?_⟩;have s0:Zg H (upd H p0 (.tup [.str "nil"])):=Zg.new hp0;have x0:upd H p0 (.tup [.str "nil"]) p0=some (.tup [.str "nil"]):=Zb;generalize upd H p0 (.tup [.str "nil"])=H0 at s0 x0 ⊢;refine⟨(by show 3<=sizeLine;decide),fun p1 hp1=>?_⟩;have s1:Zg H0 (upd H0 p1 (.tup [.str "tag",.str "a",.ref p0])):=Zg.new hp1;have x1:upd H0 p1 (.tup [.str "tag",.str "a",.ref p0]) p1=some (.tup [.str "tag",.str "a",.ref p0]):=Zb;generalize upd H0 p1 (.tup [.str "tag",.str "a",.ref p0])=H1 at s1 x1 ⊢;refine⟨(by show 2<=sizeLine;decide),fun p2 hp2=>?_⟩;have s2:Zg H1 (upd H1 p2 (.tup [.str "H",.ref p1])):=Zg.new hp2;have x2:upd H1 p2 (.tup [.str "H",.ref p1]) p2=some (.tup [.str "H",.ref p1]):=Zb;generalize upd H1 p2 (.tup [.str "H",.ref p1])=H2 at s2 x2 ⊢;refine⟨(by show 1<=sizeLine;decide),fun pl hpl=>?_⟩;have s3:Zg H2 (upd H2 pl (.lst [.ref p2])):=Zg.new hpl;have x3:upd H2 pl (.lst [.ref p2]) pl=some (.lst [.ref p2]):=Zb;have fpl:H pl=none:=((s0.trans s1).trans s2).free hpl;generalize upd H2 pl (.lst [.ref p2])=H3 at s3 x3 ⊢;have s03:=((s0.trans s1).trans s2).trans s3;show u1 _ _ _;refine Zj e1 ?_;refine⟨7,rfl,by decide,by decide,ZbK (lo:=0) (n:=(7:Int).toNat) (fun k σ H4=>∃v2 v3:Option V,σ =[some (.int c),some (.ref pl),v2,v3]/\GrI H pl k H4)
  ⟨none,none,rfl,[("H",.tag "a" .nil)],[.ref p2],s03,x3,.cons ⟨p2,p1,rfl,s3 _ _ x2,.tag (q:=p0) (s3 _ _ (s2 _ _ x1)) (.nil (s3 _ _ (s2 _ _ (s1 _ _ x0))))⟩ .nil,rfl,fun x hx=>?_⟩ ?_ ?_⟩
 ·rw[List.mem_singleton.mp hx];exact⟨by decide,trivial,by decide,0,rfl,fun n hn=>nomatch hn⟩
 ·rintro k σ H4 hk ⟨v2,v3,rfl,bk,vs,sm,hpl4,hP,hnm,hk4⟩;have hk:k<7:=hk;obtain⟨c1,c2,a1,a2,w1,w2⟩:=ZlX k hk;have hvl:vs.length=k+1:=by
   have h1:=congrArg List.length hnm;rw[List.length_map,List.length_reverse,List.length_take] at h1;have h2:vs.length=bk.length:=Paired.length hP;have h3:WW.length=8:=rfl;lia
  obtain⟨b,hb2⟩:∃b:Bool,c / (0+(k:Int)+1) % 2=if b=true then 0 else 1:=by
   have r0:=Int.emod_nonneg (c / (0+(k:Int)+1)) (by decide:(2:Int)≠0);have r1:=Int.emod_lt_of_pos (c / (0+(k:Int)+1)) (by decide:(0:Int)<2);by_cases h:c / (0+(k:Int)+1) % 2=0
   ·exact⟨true,h⟩
   ·exact⟨false,by show _=1;lia⟩
  have ht1:atI [V.str "turn",.str "or"] (c / (0+(k:Int)+1) % 2)=some (.str (Zc8 b)):=by
   rw[hb2];cases b <;> rfl
  show u1_0 _ _ _;refine Zj e1_0 ?_;refine⟨(by show 2<=sizeLine;decide),fun l5 hl5=>⟨_,rfl,_,rfl,_,_,rfl,rfl,_,_,rfl,rfl,⟨by lia,by lia⟩,_,_,rfl,rfl,(by show(0:Int)<2;decide),l5,_,_,_,rfl,rfl,SqL.of Zb,ht1,?_⟩⟩;have s5:Zg H4 (upd H4 l5 (.lst [.str "turn",.str "or"])):=Zg.new hl5;generalize upd H4 l5 (.lst [.str "turn",.str "or"])=H5 at s5 ⊢;have hpl5:=s5 _ _ hpl4;show u1_1 _ _ _;refine Zj e1_1 ?_;refine⟨_,rfl,.inl ⟨rfl,_,SqL.of hpl5⟩,_,rfl,_,_,c1,rfl,rfl,(by decide),a1,?_⟩;refine⟨_,rfl,_,rfl,_,_,c2,rfl,rfl,(by decide),a2,(by show 2<=sizeLine;decide),fun p6 hp6=>?_⟩;have s6:Zg H5 (upd H5 p6 (.tup [.str "name",.str ⟨#[c2]⟩])):=Zg.new hp6;have x6:upd H5 p6 (.tup [.str "name",.str ⟨#[c2]⟩]) p6=some (.tup [.str "name",.str ⟨#[c2]⟩]):=Zb;generalize upd H5 p6 (.tup [.str "name",.str ⟨#[c2]⟩])=H6 at s6 x6 ⊢;refine⟨(by show 1<=sizeLine;decide),fun l7 hl7=>?_⟩;have s7:Zg H6 (upd H6 l7 (.lst [.ref p6])):=Zg.new hl7;have x7:upd H6 l7 (.lst [.ref p6]) l7=some (.lst [.ref p6]):=Zb;generalize upd H6 l7 (.lst [.ref p6])=H7 at s7 x7 ⊢;refine⟨l7,10,_,rfl,rfl,x7,by decide,by decide,(by show 1*10<=sizeLine;decide),fun l8 hl8=>?_⟩;rw[Zef];have s8:Zg H7 (upd H7 l8 (.lst (List.replicate (10:Int).toNat (V.ref p6)))):=Zg.new hl8;have x8:upd H7 l8 (.lst (List.replicate (10:Int).toNat (V.ref p6))) l8=some (.lst (List.replicate 10 (V.ref p6))):=Zb;generalize upd H7 l8 (.lst (List.replicate (10:Int).toNat (V.ref p6)))=H8 at s8 x8 ⊢;refine⟨l8,_,rfl,.inl ⟨SqL.of x8,fun r9 hr9=>?_⟩⟩;have s9:Zg H8 (upd H8 r9 (.tup (List.replicate 10 (V.ref p6)))):=Zg.new hr9;have x9:upd H8 r9 (.tup (List.replicate 10 (V.ref p6))) r9=some (.tup (List.replicate 10 (V.ref p6))):=Zb;generalize upd H8 r9 (.tup (List.replicate 10 (V.ref p6)))=H9 at s9 x9 ⊢;refine⟨(by show 2<=sizeLine;decide),fun p10 hp10=>?_⟩;have s10:Zg H9 (upd H9 p10 (.tup [.str (Zc8 b),.ref r9])):=Zg.new hp10;have x10:upd H9 p10 (.tup [.str (Zc8 b),.ref r9]) p10=some (.tup [.str (Zc8 b),.ref r9]):=Zb;generalize upd H9 p10 (.tup [.str (Zc8 b),.ref r9])=H10 at s10 x10 ⊢;refine⟨(by show 2<=sizeLine;decide),fun p11 hp11=>?_⟩;have s11:Zg H10 (upd H10 p11 (.tup [.str ⟨#[c1]⟩,.ref p10])):=Zg.new hp11;have x11:upd H10 p11 (.tup [.str ⟨#[c1]⟩,.ref p10]) p11=some (.tup [.str ⟨#[c1]⟩,.ref p10]):=Zb;generalize upd H10 p11 (.tup [.str ⟨#[c1]⟩,.ref p10])=H11 at s11 x11 ⊢;have s511:=((((s6.trans s7).trans s8).trans s9).trans s10).trans s11;have hpl11:=s511 _ _ hpl5;have tk12:TK H11 (upd H11 pl (.lst (vs.take 0 ++ .ref p11::vs.drop 0))):=TK.lst hpl11;refine⟨pl,vs,_,0,.ref p11,rfl,rfl,rfl,hpl11,Nat.zero_le _,Z4 (by lia),_,_,rfl,(⟨#[c1]⟩,.several b (ofL (List.replicate 10 (.name ⟨#[c2]⟩))))::bk,.ref p11::vs,?_,Zb,?_,?_,?_⟩
  ·intro d o hd;rw[Zu (Zq hd fpl)];exact s511 _ _ (s5 _ _ (sm _ _ hd))
  ·have tk:=((s5.trans s511).tk).trans tk12;have tk9:=((s10.trans s11).tk).trans tk12;have hn:RepE H6 p6 (.name ⟨#[c2]⟩):=.name x6;have tk6:=(((s7.trans s8).trans s9).tk).trans tk9;refine .cons ⟨p11,p10,rfl,tk12 _ _ x11,.several (q:=r9) (vs:=List.replicate 10 (V.ref p6)) ((s11.tk.trans tk12) _ _ x10) (tk9 _ _ x9) ?_⟩ (Plc.tk tk hP);have:=Zdc (ZcV tk6 (Zd3 hn 10));rw[ZfH] at this;exact this
  ·rw[List.map_cons,hnm,List.take_succ_eq_append_getElem (l:=WW) (i:=k+1) (by show k+1<8;lia),List.reverse_append];have:WW[k+1]'(by show k+1<8;lia)=⟨#[c1]⟩:=by
    have:=List.getElem?_eq_getElem (l:=WW) (i:=k+1) (by show k+1<8;lia);rw[w1] at this;exact(Option.some.inj this).symm
   rw[this];rfl
  ·intro x hx;rcases List.mem_cons.mp hx with rfl|hx
   ·refine⟨?_,⟨(by rw[ZeL];exact fun z=>by have:=congrArg List.length z;rw[List.length_replicate] at this;exact absurd this (by decide)),Zda _ fun e he=>by rw[List.eq_of_mem_replicate he];trivial⟩,?_,k+1,w1,fun n hn=>⟨k,by lia,?_⟩⟩
    ·show szs _+1<=190;rw[Ze8,ZfH,Zhf];show 10*1+1<=190
     decide
    ·have:=Ze2 (n:=0) (List.replicate 10 (Ex.name ⟨#[c2]⟩)) (fun e he=>by rw[List.eq_of_mem_replicate he];exact Nat.le_refl _);show dps _+1<=1;lia
    ·have:=Zdt (ot:=[⟨#[c2]⟩]) (List.replicate 10 (Ex.name ⟨#[c2]⟩)) (fun e he m hm=>by rw[List.eq_of_mem_replicate he] at hm;exact hm) n hn;rw[List.mem_singleton.mp this];exact w2
   ·exact hk4 x hx
 ·rintro σ H4 ⟨v2,v3,rfl,bk,vs,sm,hpl4,hP,hnm,hk4⟩;have hnm:bk.map (·.1)=WW.reverse:=hnm;show u2 _ _ _;refine Zj e2 ?_;refine⟨_,rfl,pl,vs,rfl,SqL.of hpl4,fun b o hb _ ho=>?_⟩;have s8:Zg H4 (upd H4 b (.frz o (.tup vs))):=Zg.new hb;have hlen:=congrArg List.length hnm;rw[List.length_map,List.length_reverse] at hlen;have h8:WW.length=8:=rfl;refine q b bk _ (sm.trans s8) ⟨o,vs,Zb,ho,Plc.tk s8.tk hP⟩ ⟨by rw[hnm];exact List.pairwise_reverse.mpr (Zjx.imp fun h=>h.symm),by lia,by lia,fun x hx=>(hk4 x hx).1,fun x hx=>(hk4 x hx).2.1,fun n=>7-WW.idxOf n,8,1,by decide,by lia,by decide,fun x hx=>?_⟩;obtain⟨_,_,h3,j,hj,hn⟩:=hk4 x hx;have hjl:=(List.getElem?_eq_some_iff.mp hj).1;refine⟨by show 7-WW.idxOf x.1<8;lia,h3,fun n hnn=>?_⟩;obtain⟨i,hij,hi⟩:=hn n hnn;refine⟨by rw[hnm];exact List.mem_reverse.mpr (List.mem_of_getElem? hi),?_⟩;show 7-WW.idxOf x.1<7-WW.idxOf n;rw[ZdU Zjx hj,ZdU Zjx hi];lia
theorem Zgh{α β : Type}{F : α -> β -> Prop}{a : α}{b : β}(h:F a b):∀{l₁ : List α}{l₂ : List β}(j:Nat),Paired F l₁ l₂ -> Paired F (l₁.set j a) (l₂.set j b)
 | _,_,_,.nil=>.nil
 | _,_,0,.cons _ t=>.cons h t
 | _,_,j+1,.cons x t=>.cons x (Zgh h j t)
theorem ZdD{α β : Type}{F : α -> β -> Prop}:∀{l₁ : List α}{l₂ : List β}(j:Nat),Paired F l₁ l₂ -> Paired F (l₁.take j) (l₂.take j)
 | _,_,_,.nil=>by rw[List.take_nil,List.take_nil];exact .nil
 | _,_,0,.cons _ _=>.nil
 | _,_,j+1,.cons x t=>.cons x (ZdD j t)
theorem ZhT{α β : Type}{F : α -> β -> Prop}:∀{l₁ : List α}{l₂ : List β}{j:Nat}{a : α},Paired F l₁ l₂ -> l₁[j]?= some a->∃b,l₂[j]?= some b/\F a b
 | _,_,_,_,.nil,h=>by cases h
 | _,_,0,_,.cons x _,h=>by cases h;exact⟨_,rfl,x⟩
 | _,_,j+1,a,.cons _ t,h=>ZhT (j:=j) t h
theorem Zkj{j:Int}(h0:0<=j)(h1:j<4):∃c,atI (Str.ofString "abcd").cps.toList j=some c:=by
 rcases(by lia:j=0\/j=1\/j=2\/j=3) with rfl|rfl|rfl|rfl <;> exact⟨_,rfl⟩
theorem Zjt{j:Int}(h0:0<=j)(h1:j<2):∃b:Bool,atI [V.str "turn",.str "or"] j=some (.str (Zc8 b)):=by
 rcases(by lia:j=0\/j=1) with rfl|rfl
 ·exact⟨true,rfl⟩
 ·exact⟨false,rfl⟩
theorem Zlu{j:Int}(h0:0<=j)(h1:j<3):∃m:Nat,atI [V.str "many",.str "some",.str "maybe"] j=some (.str (ZbV m)):=by
 rcases(by lia:j=0\/j=1\/j=2) with rfl|rfl|rfl
 ·exact⟨0,rfl⟩
 ·exact⟨1,rfl⟩
 ·exact⟨2,rfl⟩
theorem Zj5{hs:List Int}(h:5<=hs.length):∃c0 c1 c2 c3 c4 r,hs=c0::c1::c2::c3::c4::r:=by
 match hs,h with
 | c0::c1::c2::c3::c4::r,_=>exact⟨c0,c1,c2,c3,c4,r,rfl⟩
def Gp(e:Ex):Prop:=sz e<=2/\dp e<=1/\neS e/\∀n∈nmo e,n∈(["B"]:List Str)
def Gq(e:Ex):Prop:=sz e<=3/\dp e<=2/\neS e/\∀n∈nmo e,n∈(["B"]:List Str)
theorem Gp.q{e:Ex}(h:Gp e):Gq e:=⟨by have:=h.1;lia,by have:=h.2.1;lia,h.2.2⟩
theorem ZkI(t:Str):Gp (.tag t .nil):=⟨by show 1+1<=2;decide,by show 0+1<=1;decide,trivial,fun _ h=>nomatch h⟩
theorem Zlb:Gp .nil:=⟨by show 1<=2;decide,by show 0<=1;decide,trivial,fun _ h=>nomatch h⟩
theorem ZjL:Gp (.name "B"):=⟨by show 1<=2;decide,by show 0<=1;decide,trivial,fun _ h=>h⟩
theorem Zk4{e:Ex}(m:Nat)(h:Gp e):Gq (.rep m e):=⟨by show sz e+1<=3;have:=h.1;lia,by show dp e+1<=2;have:=h.2.1;lia,h.2.2.1,h.2.2.2⟩
theorem ZjZ:∀{es:List Ex},(∀e∈es,Gp e)->(es.map sz).sum<=2*es.length
 | [],_=>by show 0<=_;lia
 | e::es,h=>by
  have:=ZjZ (es:=es) fun x hx=>h x (List.mem_cons_of_mem _ hx);have:=(h e (List.mem_cons_self ..)).1;rw[List.map_cons,List.sum_cons,List.length_cons];lia
theorem Zjh:∀{es:List Ex}(j:Nat)(m:Nat),(∀e∈es,Gp e)->∀e0,es[j]?= some e0->((es.set j (.rep m e0)).map sz).sum<=2*es.length+1
 | [],_,_,_,_,h=>nomatch h
 | e::es,0,m,h,e0,he=>by
  obtain rfl:e=e0:=Option.some.inj he;have:=ZjZ (es:=es) fun x hx=>h x (List.mem_cons_of_mem _ hx);have:=(h e (List.mem_cons_self ..)).1;rw[List.set_cons_zero,List.map_cons,List.sum_cons,List.length_cons];show sz e+1+_<=_;lia
 | e::es,j+1,m,h,e0,he=>by
  have:=Zjh (es:=es) j m (fun x hx=>h x (List.mem_cons_of_mem _ hx)) e0 he;have:=(h e (List.mem_cons_self ..)).1;rw[List.set_cons_succ,List.map_cons,List.sum_cons,List.length_cons];lia
theorem ZiT{ea eb:List Ex}{ba bb:Bool}(ha:∀e∈ea,Gq e)(ha0:ea ≠ [])(hs:(ea.map sz).sum<=189)(hb:∀e∈eb,Gp e/\nmo e=[])(hb0:eb ≠ [])(hb1:eb.length<=10):BkH [("A",.several ba (ofL ea)),("B",.several bb (ofL eb))]:=by
 have hbs:=ZjZ fun e he=>(hb e he).1;refine⟨by show List.Nodup (["A","B"]:List Str);decide,by show 1<=2;decide,by show 2<=8;decide,fun x hx=>?_,fun x hx=>?_,⟨fun n=>if n=("A" : Str) then 0 else 1,2,3,by decide,Nat.le_refl _,by decide,fun x hx=>?_⟩⟩
 ·rcases List.mem_cons.mp hx with rfl|hx
  ·show szs (ofL ea)+1<=190;rw[Ze8];lia
  ·rw[List.mem_singleton.mp hx];show szs (ofL eb)+1<=190;rw[Ze8];lia
 ·rcases List.mem_cons.mp hx with rfl|hx
  ·exact⟨by rw[ZeL];exact ha0,Zda _ fun e he=>(ha e he).2.2.1⟩
  ·rw[List.mem_singleton.mp hx];exact⟨by rw[ZeL];exact hb0,Zda _ fun e he=>(hb e he).1.2.2.1⟩
 ·rcases List.mem_cons.mp hx with rfl|hx
  ·refine⟨by show(if("A" : Str)= "A" then 0 else 1)<2;decide,?_,fun n hn=>?_⟩
   ·have:=Ze2 (n:=2) ea fun e he=>(ha e he).2.1;show dps (ofL ea)+1<=3;lia
   ·have:=Zdt (ot:=["B"]) ea (fun e he=>(ha e he).2.2.2) n hn;rw[List.mem_singleton.mp this];exact⟨by show("B" : Str)∈(["A","B"]:List Str);decide,by show(if("A" : Str)= "A" then 0 else 1)<(if("B" : Str)= "A" then 0 else 1);decide⟩
  ·rw[List.mem_singleton.mp hx];refine⟨by show(if("B" : Str)= "A" then 0 else 1)<2;decide,?_,fun n hn=>?_⟩
   ·have:=Ze2 (n:=1) eb fun e he=>(hb e he).1.2.1;show dps (ofL eb)+1<=3;lia
   ·have:=Zdt (ot:=[]) eb (fun e he=>by rw[(hb e he).2];exact fun _ h=>h) n hn;exact nomatch this
def Zfb(K:PySem.W.Frag):Sp:=fun vs H Q _=>∃(a:Addr)(ns:List Int),vs=[.ref a]/\SqL K H a (ns.map V.int)/\ns.length<=63/\∀(b:Addr)(bk:List (Str×Ex))(H':Hp),Zg H H'->BkA H' b bk->BkH bk->Q (.ref b) H'
set_option maxHeartbeats 4000000 in
theorem Zdz(B:∀x∈ZcE,mg x=none)(F:Fun K "_law_great_book" "_law_great_book" ZG f fd):FnOk P w K mg base CX0 1 f fd ["_law_script"] (Zfb K):=by
 refine F.ok Z5 (fun vs H Q E h=>?_) (fun cdv A outer s H vs Q E hr h=>?_)
 ·obtain⟨a,ns,rfl,_⟩:=h;rfl
 obtain⟨a,ns,rfl,hS,h63,q⟩:=h;refine ZjQ ((Zc ZG).drop 8) (Zis (Zj9 (Ziz (Zi (Zae (Zi Z2 (Zi (Zae (Zi (PEi.of (Zr ZW (PEi.to (Zba (Zi Z2 (Zi Z2 ZM)))) (ZF Zal (ZF ZaM (Zr ZW (pv 1) Ze (fun _ _=>rfl)) Ze) Ze) (fun _ _=>rfl))) (Zi (Zcz Za0 rfl (B "tuple" (by decide)) Zbf (Zi (PEi.of (pv 5)) ZM)) ZM))) ZM))) (Zi (Zae (Zi Z2 (Zi (PEi.of (pv 7)) ZM))) ZM))))) (fun u8 h8 e8=>?_);refine ZjQ ((Zc ZG).drop 7) (ZgF (Zg7 (i:=7) Z5.nd rfl (Or.inl rfl) (Zae (Zi (PEi.of (Zr ZW (PEi.to (Zba (Zi Z2 (Zi Z2 ZM)))) (ZF Zal (ZF ZaM (Zr ZW (pv 1) Ze (fun _ _=>rfl)) Ze) Ze) (fun _ _=>rfl))) (Zi (Zcz Za0 rfl (B "tuple" (by decide)) Zbf (Zi (Zi1 ZbE (PEi.of (pv 3)) (Zba (Zi (Zae (Zi Z2 ZM)) ZM))) ZM)) ZM)))) h8) (fun u7 h7 e7=>?_);refine Zm ((Zc ZG).drop 6) (Zex (ZcO (PEi.to (Zae (Zi (PEi.of (pv 4)) (Zi (PEi.of (Zr ZW (pv 5) (pv 6) (fun _ _=>rfl))) ZM)))) (Zgc (pv 5) (pv 6) set_list)) h7) (fun u6 h6 e6=>?_);refine Zm ((Zc ZG).drop 5) (Zd (Zx (i:=6) Z5.nd rfl (Or.inl rfl) (ZF Zal (Zr ZW (pv 1) Ze (fun _ _=>rfl)) (Zz Z1 rfl (B "len" (by decide)) PySem.boot_len (Za (pv 5) Zf)))) h6) (fun u5 h5 e5=>?_);refine Zm ((Zc ZG).drop 4) (Zd (Zx (i:=5) Z5.nd rfl (Or.inl rfl) (ZF ZbE (ZF ZfV (PEi.to (Zba (Zi (Zae (Zi Z2 (Zi Z2 ZM))) ZM))) (ZF ZaM (pv 2) (Zz Z1 rfl (B "len" (by decide)) PySem.boot_len (Za (pv 3) Zf)))) (Zbt Zd4 (pv 3) Zbv (ZbC (ZF Zal (pv 2) (Zz Z1 rfl (B "len" (by decide)) PySem.boot_len (Za (pv 3) Zf))))))) h5) (fun u4 h4 e4=>?_);refine Zm ((Zc ZG).drop 3) (Zd (Zx (i:=4) Z5.nd rfl (Or.inl rfl) (Zr ZW (PEi.to (Zba (Zi Z2 (Zi Z2 (Zi Z2 ZM))))) (ZF Zal (Zr ZW (pv 1) Ze (fun _ _=>rfl)) Ze) (fun _ _=>rfl))) h4) (fun u3 h3 e3=>?_);refine Zm ((Zc ZG).drop 2) (Zd (Zcf (cl:=_) (n0:=3) Z5.nd rfl (Or.inl rfl) ["_law_k"] [ ("_law_head",1) ] (Zbd rfl (B "range" (by decide)) (Za (ZF Za5 Ze (ZF Zal (Zr ZW (pv 1) Ze (fun _ _=>rfl)) Ze)) Zf)) (fun _ _ _ _=>(ZL (i:=0) (show List.Nodup (["_law_k","_law_head"]:List Str) by decide) rfl (Or.inl rfl))) (fun _ _ _ _=>(PEi.to (Zae (Zi Z2 (Zi (PEi.of (Zr Ze7 ZP (ZF Zal (ZF Za5 (Zr (Zgn (K:=K) rfl) (pv 1) Ze (fun _ _=>rfl)) (ZF Zgb (pv 0) (Zr (Zgn (K:=K) rfl) (pv 1) Ze (fun _ _=>rfl)))) Ze) (fun _ _=>rfl))) (Zi (Zae (Zi Z2 ZM)) ZM)))))) rfl rfl (by decide) rfl (by decide) (Zdp (by(repeat' first|exact List.forall_mem_nil _|refine List.forall_mem_cons.mpr ⟨?_,?_⟩) <;> rfl)) (Zcg (by(repeat' first|exact List.forall_mem_nil _|refine List.forall_mem_cons.mpr ⟨?_,?_⟩) <;> first|(intro h;exact⟨_,rfl⟩)|(intro h;exact absurd h (by decide)))) (fun _=>by(repeat' first|exact List.forall_mem_nil _|refine List.forall_mem_cons.mpr ⟨?_,?_⟩) <;> exact⟨rfl,rfl,Or.inl rfl⟩) (fun _=>rfl) rfl) h3) (fun u2 h2 e2=>?_)
 refine Zm ((Zc ZG).drop 1) (Zd (Zx (i:=2) Z5.nd rfl (Or.inl rfl) (ZF Za5 Ze (ZF Zal (Zr ZW (pv 1) Ze (fun _ _=>rfl)) Ze))) h2) (fun u1 h1 e1=>?_);refine Zm ((Zc ZG).drop 0) (Zd (Zx (i:=1) Z5.nd rfl (Or.inr rfl) (ZF ZbE (Zbt Zd4 (pv 0) Zbv (ZbC Ze)) (PEi.to (Zba (Zi Zbh (Zi Zbh (Zi Zbh (Zi Zbh (Zi Zbh ZM))))))))) h1) (fun u0 h0 e0=>?_);refine⟨u0,h0,?_⟩;refine Zj e0 ?_;refine⟨_,rfl,_,rfl,a,_,rfl,hS,fun l1 hl1=>?_⟩;have c5:Zd9 (ns.map V.int) none (some 5)=(ns.take 5).map V.int:=by
  rw[show Zd9 (ns.map V.int) none (some 5)=(ns.map V.int).take 5 from Zc5 _ 5,List.map_take]
 rw[c5];have s1:Zg H (upd H l1 (.lst ((ns.take 5).map V.int))):=Zg.new hl1;have x1:upd H l1 (.lst ((ns.take 5).map V.int)) l1=some (.lst ((ns.take 5).map V.int)):=Zb;generalize upd H l1 (.lst ((ns.take 5).map V.int))=H1 at s1 x1 ⊢;refine⟨(by show 5<=sizeLine;decide),fun l2 hl2=>?_⟩;have s2:Zg H1 (upd H1 l2 (.lst [.int 0,.int 0,.int 0,.int 0,.int 0])):=Zg.new hl2;have x2:upd H1 l2 (.lst [.int 0,.int 0,.int 0,.int 0,.int 0]) l2=some (.lst [.int 0,.int 0,.int 0,.int 0,.int 0]):=Zb;generalize upd H1 l2 (.lst [.int 0,.int 0,.int 0,.int 0,.int 0])=H2 at s2 x2 ⊢;refine⟨l1,l2,_,_,rfl,rfl,s2 _ _ x1,x2,Z9 (by rw[List.length_map,List.length_take];show _+5<=_;lia),fun hd hhd=>?_⟩;obtain⟨c0,c1,c2,c3,c4,cr,hcs⟩:=Zj5 (hs:=ns.take 5 ++ [0,0,0,0,0]) (by rw[List.length_append];show 5<=_+5;lia);have hv:(ns.take 5).map V.int ++ [.int 0,.int 0,.int 0,.int 0,.int 0]=(.int c0 :: .int c1 :: .int c2 :: .int c3 :: .int c4::cr.map V.int):=by
  have:=congrArg (List.map V.int) hcs;rw[List.map_append] at this;exact this
 rw[hv];have s3:Zg H2 (upd H2 hd (.lst (.int c0 :: .int c1 :: .int c2 :: .int c3 :: .int c4::cr.map V.int))):=Zg.new hhd;have x3:upd H2 hd (.lst (.int c0 :: .int c1 :: .int c2 :: .int c3 :: .int c4::cr.map V.int)) hd=some (.lst (.int c0 :: .int c1 :: .int c2 :: .int c3 :: .int c4::cr.map V.int)):=Zb;generalize upd H2 hd (.lst (.int c0 :: .int c1 :: .int c2 :: .int c3 :: .int c4::cr.map V.int))=H3 at s3 x3 ⊢;have s03:=(s1.trans s2).trans s3;show u1 _ _ _;refine Zj e1 ?_;refine⟨_,rfl,hd,_,1,_,rfl,rfl,SqL.of x3,(Zad (j:=1) rfl),_,_,rfl,rfl,(by show(0:Int)<13;decide),_,_,rfl,rfl,?_⟩;have m0:=Int.emod_nonneg c1 (by decide:(13:Int)≠0);have m1:=Int.emod_lt_of_pos c1 (by decide:(0:Int)<13);obtain⟨mn,hmn⟩:∃mn:Nat,58+c1 % 13=(mn:Int):=⟨(58+c1 % 13).toNat,by lia⟩;show u2 _ [some (.ref a),some (.ref hd),some (.int (58+c1 % 13)),none,none,none,none,none] _;rw[hmn];refine Zj e2 ?_;have r0:=Int.emod_nonneg c2 (by decide:(9:Int)≠0);have r1:=Int.emod_lt_of_pos c2 (by decide:(0:Int)<9);refine⟨_,rfl,hd,_,2,_,rfl,rfl,SqL.of x3,(Zad (j:=2) rfl),_,_,rfl,rfl,(by show(0:Int)<9;decide),_,_,rfl,rfl,?_⟩;refine⟨1+c2 % 9,rfl,by lia,by lia,fun row hrow=>ZcA (lo:=0) (n:=(1+c2 % 9).toNat) (p:=row) (fun k ys σ H4=>∃v0:Option V,σ =[v0,some (.ref hd)]/\Zg H3 H4/\H4 row=some (.lst ys)/\∃(qs:List Addr)(es:List Ex),ys=qs.map V.ref/\qs.length=k/\Paired (fun(q:Addr)(e:Ex)=>RepE H4 q e) qs es/\∀e∈es,Gp e/\nmo e=[])
  ⟨none,rfl,Zg.new hrow,Zb,[],[],rfl,rfl,.nil,fun _ h=>nomatch h⟩ ?_ ?_ ?_⟩
 ·rintro k ys σ H4 _ ⟨v0,_,_,h4,_⟩;exact h4
 ·rintro k ys σ H4 hk ⟨v0,rfl,sm,h4,qs,es,rfl,hql,hP,hE⟩;obtain⟨ch,hch⟩:=Zkj (j:=(c2+(0+(k:Int))*c3) % 4) (Int.emod_nonneg _ (by decide)) (Int.emod_lt_of_pos _ (by decide));refine⟨_,rfl,hd,_,2,_,rfl,rfl,SqL.of (sm _ _ x3),(Zad (j:=2) rfl),_,rfl,_,rfl,hd,_,3,_,rfl,rfl,SqL.of (sm _ _ x3),(Zad (j:=3) rfl),_,_,rfl,rfl,.inl ⟨by lia,by lia⟩,_,_,rfl,rfl,_,_,rfl,rfl,(by show(0:Int)<4;decide),_,_,_,rfl,rfl,(by decide),hch,?_⟩;refine⟨(by show 1<=sizeLine;decide),fun p5 hp5=>⟨(by show 3<=sizeLine;decide),fun p6 hp6=>?_⟩⟩;obtain⟨n65,hp6'⟩:=ZaH hp6;have s6:Zg H4 (upd (upd H4 p5 (.tup [.str "nil"])) p6 (.tup [.str "tag",.str ⟨#[ch]⟩,.ref p5])):=(Zg.new hp5).upd_new hp6';have r6:RepE (upd (upd H4 p5 (.tup [.str "nil"])) p6 (.tup [.str "tag",.str ⟨#[ch]⟩,.ref p5])) p6 (.tag ⟨#[ch]⟩ .nil):=.tag (q:=p5) Zb (.nil (by rw[Zu n65.symm];exact Zb));generalize upd (upd H4 p5 (.tup [.str "nil"])) p6 (.tup [.str "tag",.str ⟨#[ch]⟩,.ref p5])=H6 at s6 r6 ⊢;have h6:=s6 _ _ h4;have tk:=TK.lst (o:=.lst (qs.map V.ref ++ [.ref p6])) h6;refine⟨h6,Z4 (by rw[List.length_map];lia),CW.next hk ⟨_,rfl,(sm.trans s6).upd_new hrow,Zb,qs ++ [p6],es ++ [.tag ⟨#[ch]⟩ .nil],by rw[List.map_append];rfl,by rw[List.length_append,hql];rfl,Paired.app (ZcV (s6.tk.trans tk) hP) (.cons (r6.mono tk) .nil),fun e he=>?_⟩⟩
  rcases List.mem_append.mp he with he|he
  ·exact hE e he
  ·rw[List.mem_singleton.mp he];exact⟨ZkI _,rfl⟩
 rintro ys σ H4 ⟨v0,_,s4,h4,qs,es,rfl,hql,hP,hE⟩;have hel:qs.length=es.length:=Paired.length hP;have hn1:1<=qs.length:=by lia
 have hn9:qs.length<=9:=by lia
 have x4:=s4 _ _ x3;obtain⟨rm,hrm⟩:=Zlu (j:=c4 % 3) (Int.emod_nonneg _ (by decide)) (Int.emod_lt_of_pos _ (by decide));show u3 _ _ _;refine Zj e3 ?_;refine⟨(by show 3<=sizeLine;decide),fun l5 hl5=>?_⟩;have s5:Zg H4 (upd H4 l5 (.lst [.str "many",.str "some",.str "maybe"])):=Zg.new hl5;have x5:upd H4 l5 (.lst [.str "many",.str "some",.str "maybe"]) l5=some (.lst [.str "many",.str "some",.str "maybe"]):=Zb;generalize upd H4 l5 (.lst [.str "many",.str "some",.str "maybe"])=H5 at s5 x5 ⊢;refine⟨_,rfl,hd,_,4,_,rfl,rfl,SqL.of (s5 _ _ x4),(Zad (j:=4) rfl),_,_,rfl,rfl,(by show(0:Int)<3;decide),l5,_,_,_,rfl,rfl,SqL.of x5,hrm,?_⟩;show u4 _ _ _;refine Zj e4 ?_;refine⟨(by show 2<=sizeLine;decide),fun p6 hp6=>?_⟩;have s6:Zg H5 (upd H5 p6 (.tup [.str "name",.str "B"])):=Zg.new hp6;have x6:upd H5 p6 (.tup [.str "name",.str "B"]) p6=some (.tup [.str "name",.str "B"]):=Zb;generalize upd H5 p6 (.tup [.str "name",.str "B"])=H6 at s6 x6 ⊢;refine⟨(by show 1<=sizeLine;decide),fun l7 hl7=>?_⟩;have s7:Zg H6 (upd H6 l7 (.lst [.ref p6])):=Zg.new hl7;have x7:upd H6 l7 (.lst [.ref p6]) l7=some (.lst [.ref p6]):=Zb;generalize upd H6 l7 (.lst [.ref p6])=H7 at s7 x7 ⊢;have s47:=(s5.trans s6).trans s7;have h7:=s47 _ _ h4;have hlen:(((qs.map V.ref).length:Nat):Int)=(qs.length:Int):=by rw[List.length_map]
 refine⟨_,rfl,_,rfl,row,_,rfl,.inl (SqL.of h7),_,_,rfl,rfl,⟨by rw[hlen];lia,by rw[hlen];lia⟩,?_⟩;have hq:((mn:Int) / (((qs.map V.ref).length:Nat):Int))=((mn / qs.length:Nat):Int):=by rw[hlen];rfl
 have hm:((mn:Int) % (((qs.map V.ref).length:Nat):Int))=((mn % qs.length:Nat):Int):=by rw[hlen];rfl
 have hmn1:58<=mn:=by lia
 have hmn2:mn<=70:=by lia
 have d1:1<=mn / qs.length:=Nat.div_pos (by lia) (by lia);have d2:mn / qs.length<=70:=Nat.le_trans (Nat.div_le_self _ _) hmn2;have d3:mn % qs.length<9:=Nat.lt_of_lt_of_le (Nat.mod_lt _ (by lia)) hn9;refine⟨l7,((mn / qs.length:Nat):Int),_,rfl,congrArg V.int hq,x7,by lia,by lia,Z9 (by rw[Int.toNat_natCast];show 1*_<=100000;lia),fun l8 hl8=>?_⟩;rw[Zef,Int.toNat_natCast];generalize hN:mn / qs.length=N at d1 d2 ⊢;generalize hM:mn % qs.length=M at d3 hm;have s8:Zg H7 (upd H7 l8 (.lst (List.replicate N (V.ref p6)))):=Zg.new hl8;have x8:upd H7 l8 (.lst (List.replicate N (V.ref p6))) l8=some (.lst (List.replicate N (V.ref p6))):=Zb;generalize upd H7 l8 (.lst (List.replicate N (V.ref p6)))=H8 at s8 x8 ⊢;have h8:=s8 _ _ h7;refine⟨_,rfl,_,rfl,_,rfl,row,_,rfl,.inl (SqL.of h8),_,_,rfl,rfl,by rw[hlen];lia,(M:Int),congrArg V.int hm,row,_,rfl,SqL.of h8,fun l9 hl9=>?_⟩;rw[Zc5,<- List.map_take];have s9:Zg H8 (upd H8 l9 (.lst ((qs.take M).map V.ref))):=Zg.new hl9;have x9:upd H8 l9 (.lst ((qs.take M).map V.ref)) l9=some (.lst ((qs.take M).map V.ref)):=Zb;generalize upd H8 l9 (.lst ((qs.take M).map V.ref))=H9 at s9 x9 ⊢;refine⟨l8,l9,_,_,rfl,rfl,s9 _ _ x8,x9,Z9 (by rw[List.length_replicate,List.length_map,List.length_take];lia),fun pl hpl=>?_⟩;have hparts:List.replicate N (V.ref p6)++(qs.take M).map V.ref=(List.replicate N p6++qs.take M).map V.ref:=by rw[List.map_append,ZfH]
 rw[hparts];have hPP:Paired (fun(q:Addr)(e:Ex)=>RepE H9 q e) (List.replicate N p6++qs.take M) (List.replicate N (.name "B")++es.take M):=Paired.app (Zd3 (.name (s9 _ _ (s8 _ _ (s7 _ _ x6)))) N) (ZdD M (ZcV ((s47.trans s8).trans s9).tk hP));have hGp:∀e∈List.replicate N (Ex.name "B")++es.take M,Gp e:=fun e he=>by
  rcases List.mem_append.mp he with he|he
  ·rw[List.eq_of_mem_replicate he];exact ZjL
  ·exact(hE e (List.mem_of_mem_take he)).1
 have hpl1:(List.replicate N p6++qs.take M).length=N+min M qs.length:=by rw[List.length_append,List.length_replicate,List.length_take]
 have hpl2:=Paired.length hPP;generalize List.replicate N p6++qs.take M=ps at hPP hpl1 hpl2 ⊢;generalize List.replicate N (Ex.name "B")++es.take M=xs at hPP hGp hpl2;have s10:Zg H9 (upd H9 pl (.lst (ps.map V.ref))):=Zg.new hpl;have x10:upd H9 pl (.lst (ps.map V.ref)) pl=some (.lst (ps.map V.ref)):=Zb;generalize upd H9 pl (.lst (ps.map V.ref))=H10 at s10 x10 ⊢;have s410:=((s47.trans s8).trans s9).trans s10;have hP10:=ZcV s10.tk hPP;have y10:=s410 _ _ x4;have r10:=s410 _ _ h4;have hmin:min M qs.length<=M:=Nat.min_le_left _ _;have hps1:1<=ps.length:=by lia
 have hps2:ps.length<=79:=by lia
 have hplen:(((ps.map V.ref).length:Nat):Int)=(ps.length:Int):=by rw[List.length_map]
 show u5 _ _ _;refine Zj e5 ?_;refine⟨_,rfl,hd,_,3,_,rfl,rfl,SqL.of y10,(Zad (j:=3) rfl),_,rfl,pl,_,rfl,.inl (SqL.of x10),_,_,rfl,rfl,by rw[hplen];lia,?_⟩;have j0:=Int.emod_nonneg c3 (by lia:(ps.length:Int)≠0);have j1:=Int.emod_lt_of_pos c3 (by lia:(0:Int)<(ps.length:Int));obtain⟨j,hj⟩:∃j:Nat,c3 % (ps.length:Int)=(j:Int):=⟨(c3 % (ps.length:Int)).toNat,by lia⟩;have hjl:j<ps.length:=by lia
 have hjx:j<xs.length:=by lia
 rw[hplen];show u6 _ [some (.ref a),some (.ref hd),some (.int (mn:Int)),some (.ref row),some (.str (ZbV rm)),some (.ref pl),some (.int (c3 % (ps.length:Int))),none] _;rw[hj];refine Zj e6 ?_;have hjp:ps[j]?= some ps[j]:=List.getElem?_eq_getElem hjl;have hjx':xs[j]?= some xs[j]:=List.getElem?_eq_getElem hjx;have hat:atI (ps.map V.ref) (j:Int)=some (.ref ps[j]):=Zad (by rw[List.getElem?_map,hjp];rfl);refine⟨_,rfl,_,rfl,_,rfl,pl,_,_,_,rfl,rfl,SqL.of x10,hat,(by show 2<=sizeLine;decide),fun t11 ht11=>?_⟩;have s11:Zg H10 (upd H10 t11 (.tup [.str (ZbV rm),.ref ps[j]])):=Zg.new ht11;have x11:upd H10 t11 (.tup [.str (ZbV rm),.ref ps[j]]) t11=some (.tup [.str (ZbV rm),.ref ps[j]]):=Zb;generalize upd H10 t11 (.tup [.str (ZbV rm),.ref ps[j]])=H11 at s11 x11 ⊢;have hix:ixN (ps.map V.ref).length ((j:Nat):Int)=some j:=by
  unfold ixN;rw[List.length_map,if_pos (by lia),if_pos (by lia),Int.toNat_natCast]
 have x10':=s11 _ _ x10;refine⟨_,rfl,_,rfl,pl,_,_,j,rfl,rfl,x10',hix,?_⟩;have hset:(ps.map V.ref).set j (.ref t11)=(ps.set j t11).map V.ref:=by rw[List.map_set]
 rw[hset];have tk12:TK H11 (upd H11 pl (.lst ((ps.set j t11).map V.ref))):=TK.lst x10';have hrep:RepE H11 t11 (.rep rm xs[j]):=by
  refine .rep x11 ?_;obtain⟨e0,he0,hr0⟩:∃e0,xs[j]?= some e0/\RepE H11 ps[j] e0:=ZhT (ZcV s11.tk hP10) hjp;rw[hjx'] at he0;rw[Option.some.inj he0];exact hr0
 have hP12:=ZcV tk12 (Zgh hrep j (ZcV s11.tk hP10));have hfr:∀b o,H4 b=some o->b≠pl:=fun b o hb z=>by
  have:=((s47.trans s8).trans s9) b o hb;rw[z,hpl] at this;cases this
 have hK:∀b o,H4 b=some o->upd H11 pl (.lst ((ps.set j t11).map V.ref)) b=some o:=fun b o hb=>by
  rw[Zu (hfr b o hb)];exact s11 _ _ (s410 b o hb)
 have x12:upd H11 pl (.lst ((ps.set j t11).map V.ref)) pl=some (.lst ((ps.set j t11).map V.ref)):=Zb;have hGq:∀e∈xs.set j (.rep rm xs[j]),Gq e:=fun e he=>by
  rcases List.mem_or_eq_of_mem_set he with he|rfl
  ·exact(hGp e he).q
  ·exact Zk4 rm (hGp _ (List.getElem_mem hjx))
 have hsz:=Zjh j rm hGp _ hjx';have hne:xs.set j (.rep rm xs[j]) ≠ []:=fun z=>by
  have:=congrArg List.length z;rw[List.length_set,List.length_nil] at this;lia
 generalize xs.set j (.rep rm xs[j])=xs' at hP12 hGq hsz hne;generalize ps.set j t11=ps' at hP12 x12 hK tk12 ⊢;generalize upd H11 pl (.lst (ps'.map V.ref))=H12 at hP12 hK x12 tk12 ⊢;show u7 _ _ _;refine Zj e7 ?_;have y12:=hK _ _ x4;have r12:=hK _ _ h4;obtain⟨bi,hbi⟩:=Zjt (j:=c4 / 3 % 2) (Int.emod_nonneg _ (by decide)) (Int.emod_lt_of_pos _ (by decide));refine⟨(by show 2<=sizeLine;decide),fun l13 hl13=>?_⟩;have s13:Zg H12 (upd H12 l13 (.lst [.str "turn",.str "or"])):=Zg.new hl13;have x13:upd H12 l13 (.lst [.str "turn",.str "or"]) l13=some (.lst [.str "turn",.str "or"]):=Zb;generalize upd H12 l13 (.lst [.str "turn",.str "or"])=H13 at s13 x13 ⊢;refine⟨_,rfl,hd,_,4,_,rfl,rfl,SqL.of (s13 _ _ y12),(Zad (j:=4) rfl),_,_,rfl,rfl,⟨by decide,by decide⟩,_,_,rfl,rfl,(by show(0:Int)<2;decide),l13,_,_,_,rfl,rfl,SqL.of x13,hbi,?_⟩;refine⟨_,rfl,(by show 1<=sizeLine;decide),fun t14 ht14=>?_⟩;have s14:Zg H13 (upd H13 t14 (.tup [.str "nil"])):=Zg.new ht14;have x14:upd H13 t14 (.tup [.str "nil"]) t14=some (.tup [.str "nil"]):=Zb;generalize upd H13 t14 (.tup [.str "nil"])=H14 at s14 x14 ⊢;refine⟨(by show 1<=sizeLine;decide),fun l15 hl15=>?_⟩;have s15:Zg H14 (upd H14 l15 (.lst [.ref t14])):=Zg.new hl15;have x15:upd H14 l15 (.lst [.ref t14]) l15=some (.lst [.ref t14]):=Zb;generalize upd H14 l15 (.lst [.ref t14])=H15 at s15 x15 ⊢;have s1215:=(s13.trans s14).trans s15;refine⟨row,l15,_,_,rfl,rfl,s1215 _ _ r12,x15,Z9 (by rw[List.length_map];show _+1<=_;lia),fun l16 hl16=>?_⟩;have hrow:qs.map V.ref ++ [.ref t14]=(qs ++ [t14]).map V.ref:=by rw[List.map_append];rfl
 rw[hrow];have s16:Zg H15 (upd H15 l16 (.lst ((qs ++ [t14]).map V.ref))):=Zg.new hl16;have x16:upd H15 l16 (.lst ((qs ++ [t14]).map V.ref)) l16=some (.lst ((qs ++ [t14]).map V.ref)):=Zb;generalize upd H15 l16 (.lst ((qs ++ [t14]).map V.ref))=H16 at s16 x16 ⊢;refine⟨l16,_,rfl,.inl ⟨SqL.of x16,fun r17 hr17=>?_⟩⟩;have s17:Zg H16 (upd H16 r17 (.tup ((qs ++ [t14]).map V.ref))):=Zg.new hr17;have x17:upd H16 r17 (.tup ((qs ++ [t14]).map V.ref)) r17=some (.tup ((qs ++ [t14]).map V.ref)):=Zb;generalize upd H16 r17 (.tup ((qs ++ [t14]).map V.ref))=H17 at s17 x17 ⊢;refine⟨(by show 2<=sizeLine;decide),fun t18 ht18=>?_⟩;have s18:Zg H17 (upd H17 t18 (.tup [.str (Zc8 bi),.ref r17])):=Zg.new ht18;have x18:upd H17 t18 (.tup [.str (Zc8 bi),.ref r17]) t18=some (.tup [.str (Zc8 bi),.ref r17]):=Zb;generalize upd H17 t18 (.tup [.str (Zc8 bi),.ref r17])=H18 at s18 x18 ⊢;have s1218:=((s1215.trans s16).trans s17).trans s18;have hB:RepE H18 t18 (.several bi (ofL (es ++ [.nil]))):=by
  refine .several x18 (s18 _ _ x17) (Zdc ?_);have tkA:TK H4 H18:=fun p xs h=>s1218 _ _ (hK _ _ h);exact Paired.app (ZcV tkA hP) (.cons (.nil ((((s15.trans s16).trans s17).trans s18) _ _ x14)) .nil)
 have y18:=s1218 _ _ y12;have hP18:=ZcV s1218.tk hP12;have z18:=s1218 _ _ x12;show u8 _ _ _;refine Zj e8 ?_;obtain⟨ba,hba⟩:=Zjt (j:=c4 / 6 % 2) (Int.emod_nonneg _ (by decide)) (Int.emod_lt_of_pos _ (by decide));refine⟨(by show 2<=sizeLine;decide),fun l19 hl19=>?_⟩;have s19:Zg H18 (upd H18 l19 (.lst [.str "turn",.str "or"])):=Zg.new hl19;have x19:upd H18 l19 (.lst [.str "turn",.str "or"]) l19=some (.lst [.str "turn",.str "or"]):=Zb;generalize upd H18 l19 (.lst [.str "turn",.str "or"])=H19 at s19 x19 ⊢;refine⟨_,rfl,hd,_,4,_,rfl,rfl,SqL.of (s19 _ _ y18),(Zad (j:=4) rfl),_,_,rfl,rfl,⟨by decide,by decide⟩,_,_,rfl,rfl,(by show(0:Int)<2;decide),l19,_,_,_,rfl,rfl,SqL.of x19,hba,?_⟩;refine⟨_,rfl,pl,_,rfl,.inl ⟨SqL.of (s19 _ _ z18),fun r20 hr20=>?_⟩⟩;have s20:Zg H19 (upd H19 r20 (.tup (ps'.map V.ref))):=Zg.new hr20;have x20:upd H19 r20 (.tup (ps'.map V.ref)) r20=some (.tup (ps'.map V.ref)):=Zb;generalize upd H19 r20 (.tup (ps'.map V.ref))=H20 at s20 x20 ⊢;refine⟨(by show 2<=sizeLine;decide),fun t21 ht21=>?_⟩;have s21:Zg H20 (upd H20 t21 (.tup [.str (Zc8 ba),.ref r20])):=Zg.new ht21;have x21:upd H20 t21 (.tup [.str (Zc8 ba),.ref r20]) t21=some (.tup [.str (Zc8 ba),.ref r20]):=Zb;generalize upd H20 t21 (.tup [.str (Zc8 ba),.ref r20])=H21 at s21 x21 ⊢;refine⟨(by show 2<=sizeLine;decide),fun t22 ht22=>?_⟩;have s22:Zg H21 (upd H21 t22 (.tup [.str "A",.ref t21])):=Zg.new ht22;have x22:upd H21 t22 (.tup [.str "A",.ref t21]) t22=some (.tup [.str "A",.ref t21]):=Zb;generalize upd H21 t22 (.tup [.str "A",.ref t21])=H22 at s22 x22 ⊢;refine⟨_,rfl,(by show 2<=sizeLine;decide),fun t23 ht23=>?_⟩;have s23:Zg H22 (upd H22 t23 (.tup [.str "B",.ref t18])):=Zg.new ht23;have x23:upd H22 t23 (.tup [.str "B",.ref t18]) t23=some (.tup [.str "B",.ref t18]):=Zb;generalize upd H22 t23 (.tup [.str "B",.ref t18])=H23 at s23 x23 ⊢;refine⟨(by show 2<=sizeLine;decide),fun b o hb ho=>?_⟩;have s24:Zg H23 (upd H23 b (.frz o (.tup [.ref t22,.ref t23]))):=Zg.new hb;have s1924:=((((s20.trans s21).trans s22).trans s23).trans s24);refine q b [("A",.several ba (ofL xs')),("B",.several bi (ofL (es ++ [.nil])))] _ ?_ ⟨o,_,Zb,ho,.cons ⟨t22,t21,rfl,(s23.trans s24) _ _ x22,.several (((s22.trans s23).trans s24) _ _ x21) (((s21.trans s22).trans (s23.trans s24)) _ _ x20) (Zdc (ZcV (s19.trans s1924).tk hP18))⟩ (.cons ⟨t23,t18,rfl,s24 _ _ x23,hB.mono (s19.trans s1924).tk⟩ .nil)⟩ (ZiT hGq hne (by lia) (fun e he=>?_) ?_ ?_)
 ·intro d o' hd';exact(s19.trans s1924) _ _ (s1218 _ _ (hK _ _ (s4 _ _ (s03 _ _ hd'))))
 ·rcases List.mem_append.mp he with he|he
  ·exact hE e he
  ·rw[List.mem_singleton.mp he];exact⟨Zlb,rfl⟩
 ·intro z;have:=congrArg List.length z;rw[List.length_append,List.length_nil] at this;exact absurd this (by show ¬ _+1=0;lia)
 ·rw[List.length_append];show _+1<=10;lia
def CnD(H:Hp)(d:Addr)(bk:List (Str×Ex))(ks:List Str):Prop := ∃kvs:List (Key×V),H d=some (.dK kvs)/\kvs.map (·.1)=ks.map Sum.inr/\ks.Nodup/\∀n∈ks,n∈bk.map (·.1)/\Zbs kvs (.inr n)=some (.int (cP (bkN bk) 48 (bkN bk n):Nat))
theorem CnD.same{H H':Hp}{d:Addr}{bk:List (Str×Ex)}{ks:List Str}(h:CnD H d bk ks)(s:Zg H H'):CnD H' d bk ks:=by
 obtain⟨kvs,h1,h2⟩:=h;exact⟨kvs,s _ _ h1,h2⟩
theorem CnD.has{H:Hp}{d:Addr}{bk:List (Str×Ex)}{ks:List Str}{kvs:List (Key×V)}(h2:kvs.map (·.1)=ks.map Sum.inr)(n:Str):(Zbs kvs (.inr n)).isSome=decide (n∈ks):=by
 by_cases h:n∈ks
 ·rw[decide_eq_true h];cases hc:Zbs kvs (.inr n) with
  | some _=>rfl
  | none=>exact absurd (by rw[h2];exact List.mem_map.mpr ⟨n,h,rfl⟩) (Zeb hc)
 ·rw[decide_eq_false h];cases hc:Zbs kvs (.inr n) with
  | none=>rfl
  | some y =>
   have:=Zd2 hc;rw[h2] at this;obtain⟨m,hm,e⟩:=List.mem_map.mp this;cases e;exact absurd hm h
def knB(ks:List Str)(e:Ex):Bool:=(nmo e).all fun n=>decide (n∈ks)
def Zcq(d:Nat):Sp:=fun vs H Q _=>∃(dn p:Addr)(bk:List (Str×Ex))(ks:List Str)(e:Ex),vs=[.ref dn,.ref p]/\CnD H dn bk ks/\RepE H p e/\sz e<=200/\dp e<d/\knB ks e=true/\Ft bk 48 e/\∀H',Zg H H'->Q (.int (cP (bkN bk) 48 e:Nat)) H'
def Zd6(d:Nat):Sp:=fun vs H Q _=>∃(dn p:Addr)(bk:List (Str×Ex))(ks:List Str)(e:Ex),vs=[.ref dn,.ref p]/\CnD H dn bk ks/\RepE H p e/\sz e<=200/\dp e<d/\∀H',Zg H H'->Q (.bl (knB ks e)) H'
theorem Zkx{X:Cx}{tg l:Expr}{tl:TE}(hl:PE X l tl):PI X tg l (fun σ H R=>Zlh X.K tl σ H R\/Zmh X.K tl σ H R):=by
 intro pins s σ H R I h;rcases h with h|h
 ·exact Zbq hl pins s σ H R I h
 ·exact ZbX hl pins s σ H R I h
theorem ZeH{H:Hp}{p:Addr}{e:Ex}(h:RepE H p e)(h1:kw e ≠ "name") (h2:kw e ≠ "tag") (h4:kw e ≠ "nil"):∃ps,pE e=some ps/\(((["turn","or"]:List Str).contains (kw e)=true/\∃q vs,H p=some (.tup [.str (kw e),.ref q])/\H q=some (.tup vs)/\RepEs H vs ps)\/((["turn","or"]:List Str).contains (kw e)=false/\∃q,H p=some (.tup [.str (kw e),.ref q])/\RepEs H [.ref q] ps)):=by
 cases h with
 | nil h=>exact absurd rfl h4
 | tag h _=>exact absurd rfl h2
 | name h=>exact absurd rfl h1
 | @several _ q b vs ps g1 g2 r=>exact⟨ps,rfl,.inl ⟨by show(["turn","or"]:List Str).contains (Zc8 b)=true;cases b <;> decide,q,vs,g1,g2,r⟩⟩
 | @rep _ q m i g r=>exact⟨.cons i .nil,rfl,.inr ⟨by show(["turn","or"]:List Str).contains (ZbV m)=false;unfold ZbV;split;decide;split <;> decide,q,g,.cons r .nil⟩⟩
theorem Ze0:∀ps:Exs,Zkv ps=(toL ps).flatMap nmo
 | .nil=>rfl
 | .cons e r=>by rw[Zkv,Ze0 r,toL,List.flatMap_cons]
theorem ZcZ{ks:List Str}{e:Ex}{ps:Exs}(h:pE e=some ps):knB ks e=(toL ps).all (knB ks):=by
 have hf:nmo e=(toL ps).flatMap nmo:=by
  cases e with
  | nil=>cases h;rfl
  | tag _ _=>cases h
  | name _=>cases h
  | several b qs=>cases h;exact Ze0 ps
  | rep m p=>cases h;show nmo p=nmo p ++ [];rw[List.append_nil]
 unfold knB;rw[hf,List.all_flatMap]
theorem Zip{e:Ex}{ps:Exs}(h:pE e=some ps):∀x∈toL ps,dp x<dp e:=by
 cases e with
 | nil=>cases h;exact fun x hx=>nomatch hx
 | tag _ _=>cases h
 | name _=>cases h
 | several b qs =>
  cases h;intro x hx;have:=(ZaY hx).1;show dp x<dps ps+1;lia
 | rep m p =>
  cases h;intro x hx;rw[List.mem_singleton.mp hx];show dp p<dp p+1;lia
set_option maxHeartbeats 2000000 in
theorem ZgP(d:Nat)(B:∀x∈ZcE,mg x=none)(g_l_count:Has P w K mg base "_law_count" ["_law_names","_law_expr"] (d+1) (Zcq d)) (F:Fun K "_law_count" "_law_count" Zap f fd):FnOk P w K mg base CX0 (d+2) f fd ["_law_names","_law_expr"] (Zcq (d+1)):=by
 refine F.ok ZcC (fun vs H Q E h=>?_) (fun cdv A outer s H vs Q E hr h=>?_)
 ·obtain⟨dn,p,bk,ks,e,rfl,_⟩:=h;rfl
 obtain⟨dn,p,bk,ks,e,rfl,hC,hR,hs,hd,hk,hF,q⟩:=h;have hu1:(A.deeper (PyProof.Rows.envOfC (Str.ofString "_law_count") (Zh Zap) s.heap.objs.size f cdv)).units+1<cLine:=by have:=hr.un;lia
 refine Zm ((Zc Zap).drop 5) (Zk (ZC (Zz (ZeP rfl) rfl (B "sum" (by decide)) PyProof.Rows.boot_sum (Za (Zcd (cl:=_) ["_law_part"] [("_law_names",0)] (K27.Zkx (pv 2)) (fun _ _ _ _=>(ZL (i:=0) (show List.Nodup (["_law_part","_law_names"]:List Str) by decide) rfl (Or.inl rfl))) (fun _ _ _ _=>(Zaa g_l_count hr rfl (Za (pv 1) (Za (pv 0) Zf)) (by lia))) rfl rfl (by decide) rfl (by decide) (Zdp (by(repeat' first|exact List.forall_mem_nil _|refine List.forall_mem_cons.mpr ⟨?_,?_⟩) <;> rfl)) (Zcg (by(repeat' first|exact List.forall_mem_nil _|refine List.forall_mem_cons.mpr ⟨?_,?_⟩) <;> first|(intro h;exact⟨_,rfl⟩)|(intro h;exact absurd h (by decide)))) (fun _=>by(repeat' first|exact List.forall_mem_nil _|refine List.forall_mem_cons.mpr ⟨?_,?_⟩) <;> exact⟨rfl,rfl,Or.inl rfl⟩) (fun _=>rfl)) Zf)))) (fun u5 h5 e5=>?_)
 refine Zm ((Zc Zap).drop 4) (Zd (Zah (ZD ZaP (Zr Zv (pv 1) Ze (fun _ _=>rfl)) (Z0 (Za ZP (Za ZP Zf))) (by with_unfolding_all rfl))
   (Zk (Zx (i:=2) ZcC.nd rfl (Or.inl rfl) (Zr Zv (pv 1) Ze (fun _ _=>rfl))))
   Zy) h5) (fun u4 h4 e4=>?_)
 refine Zm ((Zc Zap).drop 3) (Zd (Zx (i:=2) ZcC.nd rfl (Or.inl rfl) (Zas (Za (Zr Zv (pv 1) Ze (fun _ _=>rfl)) Zf))) h4) (fun u3 h3 e3=>?_);refine Zm ((Zc Zap).drop 2) (Zd (Zah (ZD ZaN (Zr Zv (pv 1) Ze (fun _ _=>rfl)) ZP (ZV _))
   (Zk (ZC Ze))
   Zy) h3) (fun u2 h2 e2=>?_)
 refine Zm ((Zc Zap).drop 1) (Zd (Zah (ZD ZaN (Zr Zv (pv 1) Ze (fun _ _=>rfl)) ZP (ZV _))
   (Zk (ZC (ZcB hu1 (pv 0) (Zr Zv (pv 1) Ze (fun _ _=>rfl)) (fun _ _=>rfl))))
   Zy) h2) (fun u1 h1 e1=>?_)
 refine Zm ((Zc Zap).drop 0) (Zd (Zah (ZD ZaN (Zr Zv (pv 1) Ze (fun _ _=>rfl)) ZP (ZV _))
   (Zk (ZC Ze))
   Zy) h1) (fun u0 h0 e0=>?_)
 refine⟨u0,h0,?_⟩;obtain⟨r0,ht,_⟩:=hR.top;refine Zj e0 ?_;refine⟨_,rfl,p,_,0,_,rfl,rfl,SqT.of ht,at0,rfl,_,rfl,Zax (fun z=>?_) (fun z=>?_)⟩
 ·have z:V.str (kw e)=V.str "tag" := of_decide_eq_true z;injection z with z;obtain⟨t,i,q',rfl,_,_⟩:=hR.tag_of z;exact q H (Zg.refl H)
 have k1:kw e ≠ "tag" := fun k=>z (decide_eq_true (by rw[k]));show u1 _ _ _;refine Zj e1 ?_;refine⟨_,rfl,p,_,0,_,rfl,rfl,SqT.of ht,at0,rfl,_,rfl,Zax (fun z=>?_) (fun z=>?_)⟩
 ·have z:V.str (kw e)=V.str "name" := of_decide_eq_true z;injection z with z;obtain⟨n,rfl,hn⟩:=hR.name_of z;obtain⟨kvs,g1,g2,g3,g4⟩:=hC;have hin:n∈ks:=by
   have:=List.all_eq_true.mp hk n (List.mem_singleton.mpr rfl);exact of_decide_eq_true this
  have hv:=(g4 n hin).2;have hcp:cP (bkN bk) 48 (.name n)=cP (bkN bk) 48 (bkN bk n):=by
   have h47:Fit (fun n=>n∈bk.map (·.1)) (bkN bk) 47 (bkN bk n):=hF.2;exact(ZgG h47).symm
  refine⟨_,rfl,_,rfl,p,_,1,_,rfl,rfl,SqT.of hn,rfl,dn,_,rfl,by rw[<- hv];exact Zev.k (k:=.inr n) g1,?_⟩;rw[<- hcp];exact q H (Zg.refl H)
 have k2:kw e ≠ "name" := fun k=>z (decide_eq_true (by rw[k]));show u2 _ _ _;refine Zj e2 ?_;refine⟨_,rfl,p,_,0,_,rfl,rfl,SqT.of ht,at0,rfl,_,rfl,Zax (fun z=>?_) (fun z=>?_)⟩
 ·have z:V.str (kw e)=V.str "nil" := of_decide_eq_true z;injection z with z;obtain rfl:=Zjd z;exact q H (Zg.refl H)
 have k3:kw e ≠ "nil" := fun k=>z (decide_eq_true (by rw[k]));obtain⟨ps,hps,hcase⟩:=ZeH hR k2 k1 k3;have hsz:=Zko hps;have hcl:=Zcs ps;have htl:=ZbL ps;have hFp:∀x∈toL ps,Ft bk 47 x:=Fit.parts hps hF;have hcc:cP (bkN bk) 48 e=((toL ps).map (cP (bkN bk) 48)).sum:=by
  rw[ZfO (d:=47) hps,List.map_congr_left fun x hx=>(ZgG (hFp x hx)).symm]
 have restL:∀(pl:Addr)(vs':List V)(H1:Hp),Zg H H1->(∀H2,Zg H1 H2->SqL K H2 pl vs')->RepEs H1 vs' ps->u5 { nx:=fun _ H'=>Q .non H',rt:=Q } [some (.ref dn),some (.ref p),some (.ref pl)] H1:=by
  intro pl vs' H1 s1 hsq hr1;refine Zj e5 ?_;have hvl:=hr1.length;refine .inl ⟨_,rfl,pl,rfl,⟨vs',hsq _ (Zg.refl _)⟩,fun pa hpa=>ZbB (K:=K) (a:=pl) (p:=pa) (xs:=vs') (fun i ys σ H2=>∃v0:Option V,σ =[v0,some (.ref dn)]/\Zg H1 H2/\H2 pa=some (.lst ys)/\ys=(((toL ps).take i).map fun p=>((cP (bkN bk) 48 p:Nat):Int)).map V.int)
   ⟨none,rfl,Zg.new hpa,Zb,rfl⟩ ?_ ?_ ?_⟩
  ·rintro i ys σ H2 _ ⟨v0,_,sm,h2,_⟩;exact⟨hsq _ sm,h2⟩
  ·rintro i ys x σ H2 hi hx ⟨v0,rfl,sm,h2,rfl⟩;obtain⟨pa',ea,rfl,hea,hra⟩:=hr1.get hx;obtain⟨hi1,hi2⟩:=List.getElem?_eq_some_iff.mp hea;have hmem:=List.mem_of_getElem? hea;obtain⟨m1,m2,_⟩:=ZaY hmem;have hdd:=Zip hps ea hmem;refine⟨_,rfl,_,rfl,dn,pa',bk,ks,ea,rfl,hC.same (s1.trans sm),hra.mono sm.tk,by lia,by lia,?_,(hFp ea hmem).up,fun H3 s3=>?_⟩
   ·rw[ZcZ hps] at hk;exact List.all_eq_true.mp hk ea hmem
   refine⟨s3 _ _ h2,Z4 (by rw[List.length_map,List.length_map,List.length_take];lia),CW.next hi ⟨_,rfl,(sm.trans s3).upd_new hpa,Zb,?_⟩⟩
   rw[List.take_succ_eq_append_getElem hi1,hi2,List.map_append,List.map_append];rfl
  ·rintro ys σ H2 ⟨v0,_,sm,h2,rfl⟩;rw[hvl,<- htl,List.take_length] at h2;refine⟨pa,_,rfl,SqL.of h2,?_⟩;rw[Zc1,<- hcc];exact q H2 (s1.trans sm)
 have restT:∀(pl:Addr)(vs':List V)(H1:Hp),Zg H H1->(∀H2,Zg H1 H2->SqT K H2 pl vs')->RepEs H1 vs' ps->u5 { nx:=fun _ H'=>Q .non H',rt:=Q } [some (.ref dn),some (.ref p),some (.ref pl)] H1:=by
  intro pl vs' H1 s1 hsq hr1;refine Zj e5 ?_;have hvl:=hr1.length;refine .inr ⟨_,rfl,pl,rfl,⟨vs',hsq _ (Zg.refl _)⟩,fun pa hpa=>Zc6 (K:=K) (a:=pl) (p:=pa) (xs:=vs') (fun i ys σ H2=>∃v0:Option V,σ =[v0,some (.ref dn)]/\Zg H1 H2/\H2 pa=some (.lst ys)/\ys=(((toL ps).take i).map fun p=>((cP (bkN bk) 48 p:Nat):Int)).map V.int)
   ⟨none,rfl,Zg.new hpa,Zb,rfl⟩ ?_ ?_ ?_⟩
  ·rintro i ys σ H2 _ ⟨v0,_,sm,h2,_⟩;exact⟨hsq _ sm,h2⟩
  ·rintro i ys x σ H2 hi hx ⟨v0,rfl,sm,h2,rfl⟩;obtain⟨pa',ea,rfl,hea,hra⟩:=hr1.get hx;obtain⟨hi1,hi2⟩:=List.getElem?_eq_some_iff.mp hea;have hmem:=List.mem_of_getElem? hea;obtain⟨m1,m2,_⟩:=ZaY hmem;have hdd:=Zip hps ea hmem;refine⟨_,rfl,_,rfl,dn,pa',bk,ks,ea,rfl,hC.same (s1.trans sm),hra.mono sm.tk,by lia,by lia,?_,(hFp ea hmem).up,fun H3 s3=>?_⟩
   ·rw[ZcZ hps] at hk;exact List.all_eq_true.mp hk ea hmem
   refine⟨s3 _ _ h2,Z4 (by rw[List.length_map,List.length_map,List.length_take];lia),CW.next hi ⟨_,rfl,(sm.trans s3).upd_new hpa,Zb,?_⟩⟩
   rw[List.take_succ_eq_append_getElem hi1,hi2,List.map_append,List.map_append];rfl
  ·rintro ys σ H2 ⟨v0,_,sm,h2,rfl⟩;rw[hvl,<- htl,List.take_length] at h2;refine⟨pa,_,rfl,SqL.of h2,?_⟩;rw[Zc1,<- hcc];exact q H2 (s1.trans sm)
 show u3 _ _ _;refine Zj e3 ?_;rcases hcase with⟨hin,q',vs',g1,g2,g3⟩|⟨hin,q',g1,g3⟩
 ·refine⟨_,rfl,p,_,1,_,rfl,rfl,SqT.of g1,rfl,(by show 1<=sizeLine;decide),fun l1 hl1=>?_⟩;have s1:Zg H (upd H l1 (.lst [.ref q'])):=Zg.new hl1;generalize upd H l1 (.lst [.ref q'])=H1 at s1 ⊢;show u4 _ _ _;refine Zj e4 ?_;refine⟨_,rfl,p,_,0,_,rfl,rfl,SqT.of (s1 _ _ g1),at0,(by show 2<=sizeLine;decide),fun tt htt=>⟨tt,_,rfl,.inr (SqT.of Zb),rfl,rfl,_,rfl,?_⟩⟩;have s2:Zg H1 (upd H1 tt (.tup [.str "turn",.str "or"])):=Zg.new htt;generalize upd H1 tt (.tup [.str "turn",.str "or"])=H2 at s2 ⊢;have hin':inV (.str (kw e)) ((["turn","or"]:List Str).map V.str)=true:=by rw[ZcJ];exact hin
  refine Zax (fun _=>?_) (fun z=>absurd hin' z);have s12:=s1.trans s2;exact⟨_,rfl,p,_,1,_,rfl,rfl,SqT.of (s12 _ _ g1),rfl,restT q' vs' H2 s12 (fun H3 s3=>SqT.of (s3 _ _ (s12 _ _ g2))) (g3.mono s12.tk)⟩
 ·refine⟨_,rfl,p,_,1,_,rfl,rfl,SqT.of g1,rfl,(by show 1<=sizeLine;decide),fun l1 hl1=>?_⟩;have s1:Zg H (upd H l1 (.lst [.ref q'])):=Zg.new hl1;have x1:upd H l1 (.lst [.ref q']) l1=some (.lst [.ref q']):=Zb;generalize upd H l1 (.lst [.ref q'])=H1 at s1 x1 ⊢;show u4 _ _ _;refine Zj e4 ?_;refine⟨_,rfl,p,_,0,_,rfl,rfl,SqT.of (s1 _ _ g1),at0,(by show 2<=sizeLine;decide),fun tt htt=>⟨tt,_,rfl,.inr (SqT.of Zb),rfl,rfl,_,rfl,?_⟩⟩;have s2:Zg H1 (upd H1 tt (.tup [.str "turn",.str "or"])):=Zg.new htt;generalize upd H1 tt (.tup [.str "turn",.str "or"])=H2 at s2 ⊢;have hin':inV (.str (kw e)) ((["turn","or"]:List Str).map V.str)=false:=by rw[ZcJ];exact hin
  refine Zax (fun z=>absurd (hin'.symm.trans z) (fun y=>nomatch y)) (fun _=>?_)
  have s12:=s1.trans s2;exact restL l1 _ H2 s12 (fun H3 s3=>SqL.of (s3 _ _ (s2 _ _ x1))) (g3.mono s12.tk)
theorem Zfp(l:List Bool):(l.map V.bl).all Zeo=true:=by
 rw[List.all_eq_true];intro y hy;obtain⟨z,_,rfl⟩:=List.mem_map.mp hy;rfl
theorem Zht{ks:List Str}:∀l:List Ex,(!inV (.bl false) ((l.map (knB ks)).map V.bl))=l.all (knB ks)
 | []=>rfl
 | a::l=>by
  have ih:=Zht (ks:=ks) l;show(!(eqV (.bl (knB ks a)) (.bl false) || inV (.bl false) ((l.map (knB ks)).map V.bl)))=(knB ks a&&l.all (knB ks));rw[<- ih];cases knB ks a <;> rfl
set_option maxHeartbeats 2000000 in
theorem ZgA(d:Nat)(B:∀x∈ZcE,mg x=none)(g_l_known:Has P w K mg base "_law_known" ["_law_counts_here","_law_expr"] (d+1) (Zd6 d)) (F:Fun K "_law_known" "_law_known" Zaz f fd):FnOk P w K mg base CX0 (d+2) f fd ["_law_counts_here","_law_expr"] (Zd6 (d+1)):=by
 refine F.ok ZcF (fun vs H Q E h=>?_) (fun cdv A outer s H vs Q E hr h=>?_)
 ·obtain⟨dn,p,bk,ks,e,rfl,_⟩:=h;rfl
 obtain⟨dn,p,bk,ks,e,rfl,hC,hR,hs,hd,q⟩:=h;have hu1:(A.deeper (PyProof.Rows.envOfC (Str.ofString "_law_known") (Zh Zaz) s.heap.objs.size f cdv)).units+1<cLine:=by have:=hr.un;lia
 refine Zm ((Zc Zaz).drop 4) (Zk (ZC (Za7 ZeE Zbg (Zcd (cl:=_) ["_law_part"] [("_law_counts_here",0)] (K27.Zkx (pv 2)) (fun _ _ _ _=>(ZL (i:=0) (show List.Nodup (["_law_part","_law_counts_here"]:List Str) by decide) rfl (Or.inl rfl))) (fun _ _ _ _=>(Zaa g_l_known hr rfl (Za (pv 1) (Za (pv 0) Zf)) (by lia))) rfl rfl (by decide) rfl (by decide) (Zdp (by(repeat' first|exact List.forall_mem_nil _|refine List.forall_mem_cons.mpr ⟨?_,?_⟩) <;> rfl)) (Zcg (by(repeat' first|exact List.forall_mem_nil _|refine List.forall_mem_cons.mpr ⟨?_,?_⟩) <;> first|(intro h;exact⟨_,rfl⟩)|(intro h;exact absurd h (by decide)))) (fun _=>by(repeat' first|exact List.forall_mem_nil _|refine List.forall_mem_cons.mpr ⟨?_,?_⟩) <;> exact⟨rfl,rfl,Or.inl rfl⟩) (fun _=>rfl)) (by with_unfolding_all rfl)))) (fun u4 h4 e4=>?_)
 refine Zm ((Zc Zaz).drop 3) (Zd (Zah (ZD ZaP (Zr Zv (pv 1) Ze (fun _ _=>rfl)) (Z0 (Za ZP (Za ZP Zf))) (by with_unfolding_all rfl))
   (Zk (Zx (i:=2) ZcF.nd rfl (Or.inl rfl) (Zr Zv (pv 1) Ze (fun _ _=>rfl))))
   Zy) h4) (fun u3 h3 e3=>?_)
 refine Zm ((Zc Zaz).drop 2) (Zd (Zx (i:=2) ZcF.nd rfl (Or.inl rfl) (Zas (Za (Zr Zv (pv 1) Ze (fun _ _=>rfl)) Zf))) h3) (fun u2 h2 e2=>?_);refine Zm ((Zc Zaz).drop 1) (Zd (Zah (ZD ZaN (Zr Zv (pv 1) Ze (fun _ _=>rfl)) ZP (ZV _))
   (Zk (ZC (ZkX (ZkH hu1 (Zr Zv (pv 1) Ze (fun _ _=>rfl)) (pv 0)))))
   Zy) h2) (fun u1 h1 e1=>?_)
 refine Zm ((Zc Zaz).drop 0) (Zd (Zah (ZD ZaP (Zr Zv (pv 1) Ze (fun _ _=>rfl)) (Z0 (Za ZP (Za ZP Zf))) (by with_unfolding_all rfl))
   (Zk (ZC Zbg))
   Zy) h1) (fun u0 h0 e0=>?_)
 refine⟨u0,h0,?_⟩;obtain⟨r0,ht,_⟩:=hR.top;refine Zj e0 ?_;refine⟨_,rfl,p,_,0,_,rfl,rfl,SqT.of ht,at0,(by show 2<=sizeLine;decide),fun t0 ht0=>⟨t0,_,rfl,.inr (SqT.of Zb),rfl,rfl,_,rfl,?_⟩⟩;have s0:Zg H (upd H t0 (.tup [.str "tag",.str "nil"])):=Zg.new ht0;generalize upd H t0 (.tup [.str "tag",.str "nil"])=H0 at s0 ⊢;have hin0:inV (.str (kw e)) ((["tag","nil"]:List Str).map V.str)=(["tag","nil"]:List Str).contains (kw e):=ZcJ _ _;refine Zax (fun z=>?_) (fun z=>?_)
 ·have z:(["tag","nil"]:List Str).contains (kw e)=true:=hin0.symm.trans z;have z:=List.contains_iff_mem.mp z;have hkn:knB ks e=true:=by
   rcases List.mem_cons.mp z with z|z
   ·obtain⟨t,i,q',rfl,_,_⟩:=hR.tag_of z;rfl
   ·obtain rfl:=Zjd (List.mem_singleton.mp z);rfl
  rw[hkn] at q;exact q H0 s0
 have z0 : ¬ (["tag","nil"]:List Str).contains (kw e)=true:=fun y=>z (hin0.trans y);have k1:kw e ≠ "tag" := fun k=>z0 (by rw[k];rfl);have k3:kw e ≠ "nil" := fun k=>z0 (by rw[k];rfl);show u1 _ _ _;refine Zj e1 ?_;refine⟨_,rfl,p,_,0,_,rfl,rfl,SqT.of (s0 _ _ ht),at0,rfl,_,rfl,Zax (fun z=>?_) (fun z=>?_)⟩
 ·have z:V.str (kw e)=V.str "name" := of_decide_eq_true z;injection z with z;obtain⟨n,rfl,hn⟩:=hR.name_of z;obtain⟨kvs,g1,g2,g3,g4⟩:=hC;refine⟨_,rfl,p,_,1,_,rfl,rfl,SqT.of (s0 _ _ hn),rfl,_,rfl,dn,_,rfl,Zev.k (k:=.inr n) (s0 _ _ g1),?_⟩;rw[CnD.has (H:=H) (d:=dn) (bk:=bk) g2 n];have hkn:knB ks (.name n)=decide (n∈ks):=by
   show(decide (n∈ks)&&true)=_;rw[Bool.and_true]
  rw[hkn] at q;exact q H0 s0
 have k2:kw e ≠ "name" := fun k=>z (decide_eq_true (by rw[k]));obtain⟨ps,hps,hcase⟩:=ZeH hR k2 k1 k3;have hsz:=Zko hps;have hcl:=Zcs ps;have htl:=ZbL ps;have restL:∀(pl:Addr)(vs':List V)(H1:Hp),Zg H H1->(∀H2,Zg H1 H2->SqL K H2 pl vs')->RepEs H1 vs' ps->u4 { nx:=fun _ H'=>Q .non H',rt:=Q } [some (.ref dn),some (.ref p),some (.ref pl)] H1:=by
  intro pl vs' H1 s1 hsq hr1;refine Zj e4 ?_;have hvl:=hr1.length;refine .inl ⟨_,rfl,pl,rfl,⟨vs',hsq _ (Zg.refl _)⟩,fun pa hpa=>ZbB (K:=K) (a:=pl) (p:=pa) (xs:=vs') (fun i ys σ H2=>∃v0:Option V,σ =[v0,some (.ref dn)]/\Zg H1 H2/\H2 pa=some (.lst ys)/\ys=(((toL ps).take i).map (knB ks)).map V.bl)
   ⟨none,rfl,Zg.new hpa,Zb,rfl⟩ ?_ ?_ ?_⟩
  ·rintro i ys σ H2 _ ⟨v0,_,sm,h2,_⟩;exact⟨hsq _ sm,h2⟩
  ·rintro i ys x σ H2 hi hx ⟨v0,rfl,sm,h2,rfl⟩;obtain⟨pa',ea,rfl,hea,hra⟩:=hr1.get hx;obtain⟨hi1,hi2⟩:=List.getElem?_eq_some_iff.mp hea;have hmem:=List.mem_of_getElem? hea;obtain⟨m1,m2,_⟩:=ZaY hmem;have hdd:=Zip hps ea hmem;refine⟨_,rfl,_,rfl,dn,pa',bk,ks,ea,rfl,hC.same (s1.trans sm),hra.mono sm.tk,by lia,by lia,fun H3 s3=>?_⟩;refine⟨s3 _ _ h2,Z4 (by rw[List.length_map,List.length_map,List.length_take];lia),CW.next hi ⟨_,rfl,(sm.trans s3).upd_new hpa,Zb,?_⟩⟩
   rw[List.take_succ_eq_append_getElem hi1,hi2,List.map_append,List.map_append];rfl
  ·rintro ys σ H2 ⟨v0,_,sm,h2,rfl⟩;rw[hvl,<- htl,List.take_length] at h2;refine⟨pa,_,rfl,.inl (SqL.of h2),rfl,Zfp _,?_⟩;have hin:(!inV (.bl false) (((toL ps).map (knB ks)).map V.bl))=knB ks e:=by rw[Zht,ZcZ hps]
   show Q (.bl (!inV (.bl false) (((toL ps).map (knB ks)).map V.bl))) H2;rw[hin];exact q H2 (s1.trans sm)
 have restT:∀(pl:Addr)(vs':List V)(H1:Hp),Zg H H1->(∀H2,Zg H1 H2->SqT K H2 pl vs')->RepEs H1 vs' ps->u4 { nx:=fun _ H'=>Q .non H',rt:=Q } [some (.ref dn),some (.ref p),some (.ref pl)] H1:=by
  intro pl vs' H1 s1 hsq hr1;refine Zj e4 ?_;have hvl:=hr1.length;refine .inr ⟨_,rfl,pl,rfl,⟨vs',hsq _ (Zg.refl _)⟩,fun pa hpa=>Zc6 (K:=K) (a:=pl) (p:=pa) (xs:=vs') (fun i ys σ H2=>∃v0:Option V,σ =[v0,some (.ref dn)]/\Zg H1 H2/\H2 pa=some (.lst ys)/\ys=(((toL ps).take i).map (knB ks)).map V.bl)
   ⟨none,rfl,Zg.new hpa,Zb,rfl⟩ ?_ ?_ ?_⟩
  ·rintro i ys σ H2 _ ⟨v0,_,sm,h2,_⟩;exact⟨hsq _ sm,h2⟩
  ·rintro i ys x σ H2 hi hx ⟨v0,rfl,sm,h2,rfl⟩;obtain⟨pa',ea,rfl,hea,hra⟩:=hr1.get hx;obtain⟨hi1,hi2⟩:=List.getElem?_eq_some_iff.mp hea;have hmem:=List.mem_of_getElem? hea;obtain⟨m1,m2,_⟩:=ZaY hmem;have hdd:=Zip hps ea hmem;refine⟨_,rfl,_,rfl,dn,pa',bk,ks,ea,rfl,hC.same (s1.trans sm),hra.mono sm.tk,by lia,by lia,fun H3 s3=>?_⟩;refine⟨s3 _ _ h2,Z4 (by rw[List.length_map,List.length_map,List.length_take];lia),CW.next hi ⟨_,rfl,(sm.trans s3).upd_new hpa,Zb,?_⟩⟩
   rw[List.take_succ_eq_append_getElem hi1,hi2,List.map_append,List.map_append];rfl
  ·rintro ys σ H2 ⟨v0,_,sm,h2,rfl⟩;rw[hvl,<- htl,List.take_length] at h2;refine⟨pa,_,rfl,.inl (SqL.of h2),rfl,Zfp _,?_⟩;have hin:(!inV (.bl false) (((toL ps).map (knB ks)).map V.bl))=knB ks e:=by rw[Zht,ZcZ hps]
   show Q (.bl (!inV (.bl false) (((toL ps).map (knB ks)).map V.bl))) H2;rw[hin];exact q H2 (s1.trans sm)
 show u2 _ _ _;refine Zj e2 ?_;rcases hcase with⟨hin,q',vs',g1,g2,g3⟩|⟨hin,q',g1,g3⟩
 ·refine⟨_,rfl,p,_,1,_,rfl,rfl,SqT.of (s0 _ _ g1),rfl,(by show 1<=sizeLine;decide),fun l1 hl1=>?_⟩;have s1:Zg H0 (upd H0 l1 (.lst [.ref q'])):=Zg.new hl1;generalize upd H0 l1 (.lst [.ref q'])=H1 at s1 ⊢;have s1:=s0.trans s1;show u3 _ _ _;refine Zj e3 ?_;refine⟨_,rfl,p,_,0,_,rfl,rfl,SqT.of (s1 _ _ g1),at0,(by show 2<=sizeLine;decide),fun tt htt=>⟨tt,_,rfl,.inr (SqT.of Zb),rfl,rfl,_,rfl,?_⟩⟩;have s2:Zg H1 (upd H1 tt (.tup [.str "turn",.str "or"])):=Zg.new htt;generalize upd H1 tt (.tup [.str "turn",.str "or"])=H2 at s2 ⊢;have hin':inV (.str (kw e)) ((["turn","or"]:List Str).map V.str)=true:=by rw[ZcJ];exact hin
  refine Zax (fun _=>?_) (fun z=>absurd hin' z);have s12:=s1.trans s2;exact⟨_,rfl,p,_,1,_,rfl,rfl,SqT.of (s12 _ _ g1),rfl,restT q' vs' H2 s12 (fun H3 s3=>SqT.of (s3 _ _ (s12 _ _ g2))) (g3.mono s12.tk)⟩
 ·refine⟨_,rfl,p,_,1,_,rfl,rfl,SqT.of (s0 _ _ g1),rfl,(by show 1<=sizeLine;decide),fun l1 hl1=>?_⟩;have s1:Zg H0 (upd H0 l1 (.lst [.ref q'])):=Zg.new hl1;have x1:upd H0 l1 (.lst [.ref q']) l1=some (.lst [.ref q']):=Zb;generalize upd H0 l1 (.lst [.ref q'])=H1 at s1 x1 ⊢;have s1:=s0.trans s1;show u3 _ _ _;refine Zj e3 ?_;refine⟨_,rfl,p,_,0,_,rfl,rfl,SqT.of (s1 _ _ g1),at0,(by show 2<=sizeLine;decide),fun tt htt=>⟨tt,_,rfl,.inr (SqT.of Zb),rfl,rfl,_,rfl,?_⟩⟩;have s2:Zg H1 (upd H1 tt (.tup [.str "turn",.str "or"])):=Zg.new htt;generalize upd H1 tt (.tup [.str "turn",.str "or"])=H2 at s2 ⊢;have hin':inV (.str (kw e)) ((["turn","or"]:List Str).map V.str)=false:=by rw[ZcJ];exact hin
  refine Zax (fun z=>absurd (hin'.symm.trans z) (fun y=>nomatch y)) (fun _=>?_)
  have s12:=s1.trans s2;exact restL l1 _ H2 s12 (fun H3 s3=>SqL.of (s3 _ _ (s2 _ _ x1))) (g3.mono s12.tk)
theorem CnD.put{H:Hp}{d:Addr}{bk:List (Str×Ex)}{ks:List Str}{n:Str}{kvs:List (Key×V)}(hd:H d=some (.dK kvs))(h2:kvs.map (·.1)=ks.map Sum.inr)(h3:ks.Nodup)(h4:∀n∈ks,n∈bk.map (·.1)/\Zbs kvs (.inr n)=some (.int (cP (bkN bk) 48 (bkN bk n):Nat)))(hU:n∈bk.map (·.1))(hn:n∉ks):CnD (upd H d (.dK (putK kvs (.inr n) (.int (cP (bkN bk) 48 (bkN bk n):Nat))))) d bk (ks ++ [n]):=by
 have hk:=Zjo h2 n (.int (cP (bkN bk) 48 (bkN bk n):Nat));rw[if_neg hn] at hk;refine⟨_,Zb,hk,?_,fun m hm=>?_⟩
 ·refine List.nodup_append.mpr ⟨h3,List.nodup_cons.mpr ⟨fun z=>(nomatch z),List.nodup_nil⟩,fun a ha b hb e=>?_⟩
  rw[List.mem_singleton.mp hb] at e;exact hn (e ▸ ha)
 ·rw[Zen];by_cases e:m=n
  ·rw[e,if_pos rfl];exact⟨hU,rfl⟩
  ·rw[if_neg (fun z=>e (Sum.inr.inj z))];rcases List.mem_append.mp hm with hm|hm
   ·exact h4 m hm
   ·exact absurd (List.mem_singleton.mp hm) e
theorem Zcc{H:Hp}:∀{ws:List V}{bk:List (Str×Ex)}{i:Nat}{v:V},Paired (Plc H) ws bk->ws[i]?= some v->∃x,bk[i]?= some x/\Plc H v x
 | _,_,_,_,.nil,h=>by simp at h
 | _,_,0,_,.cons h _,e=>by cases e;exact⟨_,rfl,h⟩
 | _,_,i+1,_,.cons _ r,e=>Zcc (i:=i) r (by simpa using e)
def Zea:Sp:=fun vs H Q _=>∃(b:Addr)(bk:List (Str×Ex)),vs=[.ref b]/\BkA H b bk/\BkH bk/\∀d ks H',Zg H H'->CnD H' d bk ks->(∀n∈bk.map (·.1),n∈ks)->Q (.ref d) H'
set_option maxHeartbeats 2000000 in
theorem Zff(B:∀x∈ZcE,mg x=none)(g_l_known:Has P w K mg base "_law_known" ["_law_counts_here","_law_expr"] 15 (Zd6 14)) (g_l_count:Has P w K mg base "_law_count" ["_law_names","_law_expr"] 15 (Zcq 14)) (F:Fun K "_law_counts" "_law_counts" Zai f fd):FnOk P w K mg base CX0 16 f fd ["_law_book_here"] Zea:=by
 refine F.ok Za9 (fun vs H Q E h=>?_) (fun cdv A outer s H vs Q E hr h=>?_)
 ·obtain⟨b,bk,rfl,_⟩:=h;rfl
 obtain⟨b,bk,rfl,⟨o,ws,hb,ho,hP⟩,hH,q⟩:=h;have hu1:(A.deeper (PyProof.Rows.envOfC (Str.ofString "_law_counts") (Zh Zai) s.heap.objs.size f cdv)).units+1<cLine:=by have:=hr.un;lia
 have hwl:ws.length=bk.length:=Paired.length hP;obtain⟨rk,m,g,hm,hml,hg8,hr'⟩:=hH.rk;have h8:=hH.l8;have hS:∀H2,Zg H H2->SqT K H2 b ws:=fun H2 s2=>.inl (.inr ⟨o,s2 _ _ hb⟩);refine Zm ((Zc Zai).drop 2) (Zk (ZC (pv 1))) (fun u2 h2 e2=>?_);refine Zm ((Zaq ((Zaq ((Zc Zai).getD 1 (.Pass ⟨0,0,0,0⟩))).getD 0 (.Pass ⟨0,0,0,0⟩))).drop 0) (Zk (Zah (PW.pt (ZcQ (Zi7 (Zew hu1 (pv 3) (pv 1))) (Zb7 (ZaG (Zaa g_l_known hr rfl (Za (pv 1) (Za (pv 4) Zf))) (fun _=>rfl)))))
   (Zk (Zdx hu1 (pv 1) (pv 3) (Zaa g_l_count hr rfl (Za (pv 1) (Za (pv 4) Zf))) rfl))
   Zy)) (fun u1_0_0 h1_0_0 e1_0_0=>?_)
 refine Zm ((Zaq ((Zc Zai).getD 1 (.Pass ⟨0,0,0,0⟩))).drop 0) (Zk (ZaZ PassesOwn.never rfl (ZbX (pv 0)) (Zdj rfl (Zaj (ZL (i:=3) Za9.nd rfl (Or.inl rfl)) (Zaj (ZL (i:=4) Za9.nd rfl (Or.inl rfl)) Zb4)))
   h1_0_0)) (fun u1_0 h1_0 e1_0=>?_)
 refine Zm ((Zc Zai).drop 1) (Zd (ZaZ PassesOwn.never rfl (ZbX (pv 0)) (ZL (i:=2) Za9.nd rfl (Or.inl rfl))
   h1_0) h2) (fun u1 h1 e1=>?_)
 refine Zm ((Zc Zai).drop 0) (Zd (Zx (i:=1) Za9.nd rfl (Or.inl rfl) Zem) h1) (fun u0 h0 e0=>?_);refine⟨u0,h0,?_⟩;refine Zj e0 ?_;refine fun d hd=>?_;have s1:Zg H (upd H d (.dK [])):=Zg.new hd;have x1:CnD (upd H d (.dK [])) d bk []:=⟨[],Zb,rfl,List.nodup_nil,fun _ h=>nomatch h⟩
 generalize upd H d (.dK [])=H1 at s1 x1 ⊢;show u1 _ _ _;refine Zj e1 ?_;refine⟨_,rfl,b,rfl,⟨ws,hS _ s1⟩,Zb6 (K:=K) (a:=b) (xs:=ws) (fun i σ H2=>∃(v2 v3 v4:Option V)(ks:List Str),σ =[some (.ref b),some (.ref d),v2,v3,v4]/\Zg H H2/\CnD H2 d bk ks/\∀x∈bk,m<=rk x.1+i->x.1∈ks)
  ⟨none,none,none,[],rfl,s1,x1,fun x hx hk=>absurd (hr' x hx).1 (by lia)⟩ ?_ ?_ ?_⟩
 ·rintro i σ H2 _ ⟨v2,v3,v4,ks,_,sm,_⟩;exact hS _ sm
 ·rintro i x σ H2 hx ⟨v2,v3,v4,ks,rfl,sm,hC,hall⟩;show u1_0 _ _ _;refine Zj e1_0 ?_;refine⟨_,rfl,b,rfl,⟨ws,hS _ sm⟩,Zb6 (K:=K) (a:=b) (xs:=ws) (fun j σ H3=>∃(v3 v4:Option V)(ks':List Str),σ =[some (.ref b),some (.ref d),some x,v3,v4]/\Zg H H3/\CnD H3 d bk ks'/\(∀n∈ks,n∈ks')/\∀y∈bk.take j,knB ks y.2=true->y.1∈ks')
   ⟨v3,v4,ks,rfl,sm,hC,fun _ h=>h,fun _ h=>nomatch h⟩ ?_ ?_ ?_⟩
  ·rintro j σ H3 _ ⟨v3,v4,ks',_,sm3,_⟩;exact hS _ sm3
  ·rintro j y σ H3 hy ⟨v3,v4,ks',rfl,sm3,hC3,hsub,htk⟩;obtain⟨y,hy1,tt,qq,rfl,f1,f2⟩:=Zcc hP hy;obtain⟨hj1,hj2⟩:=List.getElem?_eq_some_iff.mp hy1;have hmem:=List.mem_of_getElem? hy1;have hdp:=(hr' y hmem).2.1;have hsz:=hH.sz y hmem;have hg9:dp y.2<14:=by lia
   have hU:y.1∈bk.map (·.1):=List.mem_map.mpr ⟨y,hmem,rfl⟩;have hbn:=ZcR hH.nd hmem;obtain⟨kvs,g1,g2,g3,g4⟩:=id hC3;have mono:∀{l:List Str}{e:Ex},(∀n∈l,n∈ks')->knB l e=true->knB ks' e=true:=fun{l e} h k=>List.all_eq_true.mpr fun n hn=>decide_eq_true (h n (of_decide_eq_true (List.all_eq_true.mp k n hn)));have tke:bk.take (j+1)=bk.take j ++ [y]:=by rw[List.take_succ_eq_append_getElem hj1,hj2]
   refine⟨tt,_,rfl,SqT.of (sm3 _ _ f1),rfl,_,_,rfl,_,_,rfl,rfl,?_⟩;show u1_0_0 _ _ _;refine Zj e1_0_0 ?_;refine⟨_,rfl,_,rfl,d,_,rfl,Zev.k (k:=.inr y.1) g1,_,rfl,?_⟩;rw[CnD.has (H:=H) (d:=d) (bk:=bk) g2 y.1];by_cases hin:y.1∈ks'
   ·rw[decide_eq_true hin];refine Zby (Zby ⟨_,_,ks',rfl,sm3,hC3,hsub,fun z hz hk=>?_⟩);rw[tke] at hz;rcases List.mem_append.mp hz with hz|hz
    ·exact htk z hz hk
    ·rw[List.mem_singleton.mp hz];exact hin
   ·rw[decide_eq_false hin];refine Zdb ?_;refine⟨_,rfl,_,rfl,d,qq,bk,ks',y.2,rfl,hC3,f2.mono sm3.tk,by lia,hg9,fun H4 s4=>⟨knB ks' y.2,rfl,?_⟩⟩;have sm4:=sm3.trans s4;by_cases hk:knB ks' y.2=true
    ·rw[hk];refine Zdb ?_;refine⟨_,rfl,_,rfl,d,qq,bk,ks',y.2,rfl,hC3.same s4,f2.mono sm4.tk,by lia,hg9,hk,(hH.fit y hmem).le (by decide),fun H5 s5=>?_⟩;have g15:=s5 _ _ (s4 _ _ g1);have hl1:=Zdf g3 (fun x hx=>(g4 x hx).1);have hl2:kvs.length=ks'.length:=by
      have:=congrArg List.length g2;rw[List.length_map,List.length_map] at this;exact this
     rw[List.length_map] at hl1;have hput:=CnD.put (H:=H5) (bk:=bk) g15 g2 g3 g4 hU hin;rw[hbn] at hput;refine⟨_,rfl,_,rfl,d,_,rfl,Zg6.k (k:=.inr y.1) g15 (Z4 (by lia)),_,_,ks' ++ [y.1],rfl,?_,hput,fun n hn=>List.mem_append_left _ (hsub n hn),fun z hz hkz=>?_⟩
     ·intro c o' hc;rw[Zu (Zq hc hd)];exact s5 _ _ (sm4 _ _ hc)
     ·rw[tke] at hz;rcases List.mem_append.mp hz with hz|hz
      ·exact List.mem_append_left _ (htk z hz hkz)
      ·rw[List.mem_singleton.mp hz];exact List.mem_append_right _ (List.mem_singleton.mpr rfl)
    ·rw[Bool.eq_false_iff.mpr hk];refine Zby ⟨_,_,ks',rfl,sm4,hC3.same s4,hsub,fun z hz hkz=>?_⟩;rw[tke] at hz;rcases List.mem_append.mp hz with hz|hz
     ·exact htk z hz hkz
     ·rw[List.mem_singleton.mp hz] at hkz;exact absurd (mono hsub hkz) hk
  ·rintro σ H3 ⟨v3,v4,ks',rfl,sm3,hC3,hsub,htk⟩;rw[hwl,List.take_length] at htk;refine⟨_,_,_,ks',rfl,sm3,hC3,fun x hx hk=>htk x hx (List.all_eq_true.mpr fun n hn=>decide_eq_true ?_)⟩;obtain⟨hn1,hn2⟩:=(hr' x hx).2.2 n hn;obtain⟨z,hz,hzn⟩:=List.mem_map.mp hn1;rw[<- hzn] at hn2 ⊢;exact hall z hz (by lia)
 ·rintro σ H2 ⟨v2,v3,v4,ks,rfl,sm,hC,hall⟩;show u2 _ _ _;refine Zj e2 ?_;refine⟨_,rfl,q d ks H2 sm hC fun n hn=>?_⟩;obtain⟨z,hz,hzn⟩:=List.mem_map.mp hn;rw[<- hzn];exact hall z hz (by lia)
structure Wl(H:Hp)(dN pl nx:Addr)(bk:List (Str×Ex))(P:List (Str×Ex))(S:List Pr):Prop where
 nm:NmD H dN bk
 ps:PlD H pl P
 lk:NxD H nx S
 sz:∀n∈bk.map (·.1),sz (bkN bk n)<=200
abbrev Ex2(pl nx:Addr):List Addr:=[pl,nx]
section
variable{H H' H1:Hp}{dN pl nx:Addr}{bk:List (Str×Ex)}{P:List (Str×Ex)}{S S':List Pr}
theorem Wl.same(h:Wl H dN pl nx bk P S)(s:Zg H H'):Wl H' dN pl nx bk P S:=⟨h.nm.same s,h.ps.same s,h.lk.same s,h.sz⟩
theorem Wl.out(h:Wl H dN pl nx bk P S){b:Addr}{o:HO}(hb:H b=some o)(n1:∀xs,o ≠ .lst xs)(n3:∀k,o ≠ .dT k):b∉Ex2 pl nx:=by
 obtain⟨v1,h2,_⟩:=h.ps;obtain⟨k3,h3,_⟩:=h.lk;intro z;rcases List.mem_cons.mp z with z|z
 ·rw[z,h2] at hb;exact n1 _ (Option.some.inj hb).symm
 rw[List.mem_singleton.mp z,h3] at hb;exact n3 _ (Option.some.inj hb).symm
theorem Wl.tk(h:Wl H dN pl nx bk P S)(k:ZR (Ex2 pl nx) H H'):TK H H':=fun b xs e=>k _ _ (h.out e (fun _ z=>nomatch z) (fun _ z=>nomatch z)) e
theorem Wl.fresh(h:Wl H dN pl nx bk P S){b:Addr}(hb:H b=none):b∉Ex2 pl nx:=by
 obtain⟨v1,h2,_⟩:=h.ps;obtain⟨k3,h3,_⟩:=h.lk;intro z;rcases List.mem_cons.mp z with z|z
 ·rw[z,h2] at hb;cases hb
 rw[List.mem_singleton.mp z,h3] at hb;cases hb
theorem Wl.back(h:Wl H1 dN pl nx bk P S)(k:ZR (Ex2 pl nx) H H1){b:Addr}(hb:H1 b=none):H b=none:=by
 cases hc:H b with
 | none=>rfl
 | some o =>
  have:=k b o (h.fresh hb) hc;rw[hb] at this;cases this
theorem Wl.link(h:Wl H dN pl nx bk P S)(k:ZR [nx] H H')(n:NxD H' nx S'):Wl H' dN pl nx bk P S':=by
 obtain⟨kN,hN,hN'⟩:=h.nm;obtain⟨v1,h2,h2'⟩:=h.ps;obtain⟨k3,h3,_⟩:=h.lk;have ne:∀{b:Addr}{o:HO},H b=some o->(∀kv,o ≠ .dT kv)->b ∉ [nx]:=fun hb ho z=>by
  rw[List.mem_singleton.mp z,h3] at hb;exact ho _ (Option.some.inj hb).symm
 have tk:TK H H':=fun b xs e=>k _ _ (ne e fun _ z=>nomatch z) e
 exact⟨h.nm.keep k tk (ne hN fun _ z=>nomatch z),h.ps.keep k tk (ne h2 fun _ z=>nomatch z),n,h.sz⟩
theorem Wl.put{t q:Addr}{x:Str×Ex}{vs:List V}(h:Wl H dN pl nx bk P S)(hp:H pl=some (.lst vs))(ht:H t=some (.tup [.str x.1,.ref q]))(hq:RepE H q x.2):Wl (upd H pl (.lst (vs ++ [.ref t]))) dN pl nx bk (P ++ [x]) S:=by
 obtain⟨v1,h2,h2'⟩:=h.ps;rw[hp] at h2;cases h2;have tk:TK H (upd H pl (.lst (vs ++ [.ref t]))):=TK.lst hp;have kx:ZR [pl] H (upd H pl (.lst (vs ++ [.ref t]))):=ZR.upd (Zg.keepX (Zg.refl H)) (List.mem_cons_self ..);obtain⟨k3,h3,h3'⟩:=id h.lk;obtain⟨kN,hN,hN'⟩:=id h.nm;refine⟨h.nm.keep kx tk (fun z=>by rw[List.mem_singleton.mp z,hp] at hN;cases hN),⟨_,Zb,Paired.app (Plc.tk tk h2') (.cons ⟨t,q,rfl,tk _ _ ht,hq.mono tk⟩ .nil)⟩,h.lk.keep kx (fun z=>by rw[List.mem_singleton.mp z,hp] at h3;cases h3),h.sz⟩
theorem Wl.lst{b:Addr}{xs ys:List V}(h:Wl H dN pl nx bk P S)(hb:H b=some (.lst xs))(hne:b≠pl):Wl (upd H b (.lst ys)) dN pl nx bk P S:=by
 have tk:TK H (upd H b (.lst ys)):=TK.lst hb;have kx:ZR [b] H (upd H b (.lst ys)):=ZR.upd (Zg.keepX (Zg.refl H)) (List.mem_cons_self ..);obtain⟨k3,h3,h3'⟩:=id h.lk;obtain⟨kN,hN,hN'⟩:=id h.nm;exact⟨h.nm.keep kx tk (fun z=>by rw[List.mem_singleton.mp z,hb] at hN;cases hN),h.ps.keep kx tk (fun z=>hne (List.mem_singleton.mp z).symm),h.lk.keep kx (fun z=>by rw[List.mem_singleton.mp z,hb] at h3;cases h3),h.sz⟩
end
def Ze5(d:Nat):Sp:=fun vs H Q _=>∃(dN pl nx:Addr)(bk:List (Str×Ex))(P:List (Str×Ex))(S:List Pr)(p:Addr)(e:Ex),vs=[.ref dN,.ref p,.ref pl,.ref nx]/\Wl H dN pl nx bk P S/\RepE H p e/\sz e<=200/\Ft bk d e/\P.length+cP (bkN bk) d e<=64 /\
 ∀t f l H',ZR (Ex2 pl nx) H H'->LyD H H' t f l (lay (bkN bk) d e (P.length:Int))->Wl H' dN pl nx bk (P++(lay (bkN bk) d e (P.length:Int)).pl) (Zb9 S (lay (bkN bk) d e (P.length:Int)).lk)->Q (.ref t) H'
def Zer(d:Nat):Sp:=fun vs H Q _=>∃(dN pl nx:Addr)(bk:List (Str×Ex))(P:List (Str×Ex))(S:List Pr)(p:Addr)(vs':List V)(ps:Exs),vs=[.ref dN,.ref p,.ref pl,.ref nx]/\Wl H dN pl nx bk P S/\H p=some (.tup vs')/\RepEs H vs' ps/\szs ps<=200/\(∀e∈toL ps,Ft bk d e)/\P.length+((toL ps).map (cP (bkN bk) d)).sum<=64 /\
 ∀t f l H',ZR (Ex2 pl nx) H H'->LyD H H' t f l (laF (bkN bk) d true (P.length:Int) (toL ps))->Wl H' dN pl nx bk (P++(laF (bkN bk) d true (P.length:Int) (toL ps)).pl) (Zb9 S (laF (bkN bk) d true (P.length:Int) (toL ps)).lk)->Q (.ref t) H'
theorem Zjc{α : Type}(b:Bool)(xs:List α):(List.replicate (if b=true then(1:Int) else 0).toNat xs).flatten=if b=true then xs else []:=by
 cases b with
 | false=>rfl
 | true =>
  show xs ++ []=xs;exact List.append_nil _
theorem Zi5(b:Bool)(n:Nat)(h:n<=1000) : -(2 ^ 63)<=(if b=true then(1:Int) else 0)/\(if b=true then(1:Int) else 0)<2 ^ 63/\n*(if b=true then(1:Int) else 0).toNat<=sizeLine:=by
 cases b with
 | false=>exact⟨by decide,by decide,Z9 (by show n*0<=100000;lia)⟩
 | true=>exact⟨by decide,by decide,Z9 (by show n*1<=100000;lia)⟩
set_option maxHeartbeats 4000000 in
theorem ZfI(d k:Nat)(B:∀x∈ZcE,mg x=none)(g_l_laid:Has P w K mg base "_law_laid" ["_law_names","_law_expr","_law_places","_law_linked_here"] (k+1) (Ze5 d)) (g_l_linked:Has P w K mg base "_law_linked" ["_law_lasts","_law_begun","_law_linked_here"] 1 Zc9) (F:Fun K "_law_turned" "_law_turned" Z8 f fd):FnOk P w K mg base CX0 (k+2) f fd ["_law_names","_law_parts","_law_places","_law_linked_here"] (Zer d):=by
 refine F.ok Zav (fun vs H Q E h=>?_) (fun cdv A outer s H vs Q E hr h=>?_)
 ·obtain⟨dN,pl,nx,bk,P,S,p,vs',ps,rfl,_⟩:=h;rfl
 obtain⟨dN,pl,nx,bk,P,S,p,vs',ps,rfl,W,hp,hR,hs,hF,h64,q⟩:=h;refine Zm ((Zc Z8).drop 2) (Zk (ZC (Z0 (Za (pv 4) (Za (pv 5) (Za (pv 6) Zf)))))) (fun u2 h2 e2=>?_);refine Zm ((Zaq ((Zc Z8).getD 1 (.Pass ⟨0,0,0,0⟩))).drop 4) (Zk (Zx (i:=4) Zav.nd rfl (Or.inl rfl) (ZcM (pv 4) (ZbY (pv 8))))) (fun u1_4 h1_4 e1_4=>?_);refine Zm ((Zaq ((Zc Z8).getD 1 (.Pass ⟨0,0,0,0⟩))).drop 3) (Zd (Zx (i:=6) Zav.nd rfl (Or.inl rfl) (ZF ZbE (ZF ZfV (pv 6) (ZaF Zco rfl (B "int" (by decide)) ZdT (Za (pv 8) Zf))) (pv 10))) h1_4) (fun u1_3 h1_3 e1_3=>?_);refine Zm ((Zaq ((Zc Z8).getD 1 (.Pass ⟨0,0,0,0⟩))).drop 2) (Zd (Zx (i:=5) Zav.nd rfl (Or.inl rfl) (ZF ZbE (pv 5) (ZF ZfV (pv 9) (ZaF Zco rfl (B "int" (by decide)) ZdT (Za (pv 4) Zf))))) h1_3) (fun u1_2 h1_2 e1_2=>?_);refine Zm ((Zaq ((Zc Z8).getD 1 (.Pass ⟨0,0,0,0⟩))).drop 1) (Zd (Zbu (Zaa g_l_linked hr rfl (Za (pv 6) (Za (pv 9) (Za (pv 3) Zf))) (by lia))) h1_2) (fun u1_1 h1_1 e1_1=>?_);refine Zm ((Zaq ((Zc Z8).getD 1 (.Pass ⟨0,0,0,0⟩))).drop 0) (Zd (ZcO (Zaa g_l_laid hr rfl (Za (pv 0) (Za (pv 7) (Za (pv 2) (Za (pv 3) Zf)))) (by lia)) (Zdj rfl (Zaj (ZL (i:=8) Zav.nd rfl (Or.inl rfl)) (Zaj (ZL (i:=9) Zav.nd rfl (Or.inl rfl)) (Zaj (ZL (i:=10) Zav.nd rfl (Or.inl rfl)) Zb4))))) h1_1) (fun u1_0 h1_0 e1_0=>?_);refine Zm ((Zc Z8).drop 1) (Zd (ZaZ PassesOwn.never rfl (ZbX (pv 1)) (ZL (i:=7) Zav.nd rfl (Or.inl rfl))
   h1_0) h2) (fun u1 h1 e1=>?_)
 refine Zm ((Zc Z8).drop 0) (Zd (Zkm (i:=4) (j:=5) (k:=6) rfl Zav.nd rfl rfl rfl rfl rfl rfl (Za Zbg (Za (Zas Zf) (Za (Zas Zf) Zf))) rfl) h1) (fun u0 h0 e0=>?_);refine⟨u0,h0,?_⟩;have hvl:=hR.length;have hcl:=Zcs ps;have htl:=ZbL ps;refine Zj e0 ?_;refine⟨(by show 0<=sizeLine;decide),fun fl hfl=>?_⟩;have s1:Zg H (upd H fl (.lst [])):=Zg.new hfl;have e1':upd H fl (.lst []) fl=some (.lst []):=Zb;generalize upd H fl (.lst [])=H1 at s1 e1' ⊢;refine⟨(by show 0<=sizeLine;decide),fun ll hll=>?_⟩;have s2:Zg H1 (upd H1 ll (.lst [])):=Zg.new hll;have e2':upd H1 ll (.lst []) ll=some (.lst []):=Zb;generalize upd H1 ll (.lst [])=H2 at s2 e2' ⊢;have s02:=s1.trans s2;refine⟨_,_,_,rfl,?_⟩;show u1 _ _ _;refine Zj e1 ?_;refine⟨_,rfl,p,rfl,⟨vs',SqT.of (s02 _ _ hp)⟩,Zb6 (K:=K) (a:=p) (xs:=vs') (fun i σ H3=>∃(v7 v8 v9 v10:Option V)(f l:Addr),σ =[some (.ref dN),some (.ref p),some (.ref pl),some (.ref nx),some (.bl (laF (bkN bk) d true (P.length:Int) ((toL ps).take i)).fr),some (.ref f),some (.ref l),v7,v8,v9,v10]/\ZR (Ex2 pl nx) H H3/\H f=none/\H l=none/\H3 f=some (.lst ((laF (bkN bk) d true (P.length:Int) ((toL ps).take i)).fi.map V.int))/\H3 l=some (.lst ((laF (bkN bk) d true (P.length:Int) ((toL ps).take i)).la.map V.int)) /\
   Wl H3 dN pl nx bk (P++(laF (bkN bk) d true (P.length:Int) ((toL ps).take i)).pl) (Zb9 S (laF (bkN bk) d true (P.length:Int) ((toL ps).take i)).lk))
  ⟨none,none,none,none,fl,ll,rfl,Zg.keepX s02,hfl,s1.free hll,s2 _ _ e1',e2',by
   show Wl H2 dN pl nx bk (P ++ []) S;rw[List.append_nil];exact W.same s02⟩ ?_ ?_ ?_⟩
 ·rintro i σ H3 _ ⟨v7,v8,v9,v10,f,l,_,kk,_⟩;exact SqT.of (W.tk kk _ _ hp)
 ·rintro i x σ H3 hx ⟨v7,v8,v9,v10,f,l,rfl,kk,nf,nl,hf3,hl3,W3⟩;obtain⟨pa,ea,rfl,hea,hra⟩:=hR.get hx;have hmem:=List.mem_of_getElem? hea;obtain⟨m1,m2,_⟩:=ZaY hmem;have hnx:=Zc0 (N:=bkN bk) (d:=d) (b:=true) (k:=(P.length:Int)) hea;have hln:=Zdo (bkN bk) d true (P.length:Int) ((toL ps).take i);have hsn:=Zc2 (g:=cP (bkN bk) d) hea;have hrs:=Zed (bkN bk) d true (P.length:Int) ((toL ps).take i);generalize laF (bkN bk) d true (P.length:Int) ((toL ps).take i)=s0 at hnx hln hrs hf3 hl3 W3 ⊢;show u1_0 _ _ _;refine Zj e1_0 ?_;have hPl:((P++s0.pl).length:Int)=(P.length:Int)+(s0.pl.length:Int):=by rw[List.length_append,Int.natCast_add]
  refine⟨_,rfl,_,rfl,_,rfl,_,rfl,dN,pl,nx,bk,P++s0.pl,_,pa,ea,rfl,W3,hra.mono (W.tk kk),by lia,hF ea hmem,by rw[List.length_append];lia,fun t f' l' H4 k4 hL W4=>?_⟩;rw[hPl] at hL W4;have hrr:=Zbc (bkN bk) d ea ((P.length:Int)+(s0.pl.length:Int));have hrl:=ZbJ (bkN bk) d ea ((P.length:Int)+(s0.pl.length:Int));generalize lay (bkN bk) d ea ((P.length:Int)+(s0.pl.length:Int))=r at hnx hL W4 hrr hrl;obtain⟨n1,n2,n3,t4,f4,l4⟩:=hL;refine⟨t,_,rfl,SqT.of t4,rfl,_,_,rfl,_,_,rfl,_,_,rfl,rfl,?_⟩;have k04:=kk.trans k4;have hf4:=k4 _ _ (W.fresh nf) hf3;have hl4:=k4 _ _ (W.fresh nl) hl3;show u1_1 _ _ _;refine Zj e1_1 ?_;have b1:Bnd s0.la:=Zcv hrs.2 (by lia) (by lia);have b2:Bnd r.fi:=Zcv hrr.1 (by lia) (by lia);refine⟨_,rfl,_,rfl,_,rfl,nx,l,f',s0.la,r.fi,_,rfl,hl4,f4,W4.lk,b1,b2,fun H5 k5 N5=>?_⟩;have W5:=W4.link k5 N5;have inE:∀{x:Addr},x ∈ [nx]->x∈Ex2 pl nx:=fun hx=>List.mem_cons_of_mem _ hx;have k05:ZR (Ex2 pl nx) H H5:=k04.trans (ZfA k5 fun x hx=>inE hx);have nf':H f'=none:=W3.back kk n1;have nl':H l'=none:=W3.back kk n2;have lst5:∀{b:Addr}{xs:List V},H b=none->H4 b=some (.lst xs)->H5 b=some (.lst xs):=fun{b xs} hb h=>k5 _ _ (fun z=>W.fresh hb (inE z)) h;have f5:=lst5 nf' f4;have l5:=lst5 nl' l4;have hf5:=lst5 nf hf4;have hl5:=lst5 nl hl4;have x1:=Zaw hrs.1;have x2:=Zaw hrs.2;have x3:=Zaw hrr.1;have x4:=Zaw hrr.2;show u1_2 _ _ _;refine Zj e1_2 ?_;obtain⟨c1,c2,c3⟩:=Zi5 s0.fr (r.fi.map V.int).length (by rw[List.length_map];lia);refine⟨_,rfl,_,rfl,_,rfl,s0.fr,rfl,f',_,_,rfl,rfl,f5,c1,c2,c3,fun l6 hl6=>?_⟩;rw[Zjc];have efi:(seS true s0 r).fi.map V.int=s0.fi.map V.int++(if s0.fr=true then r.fi.map V.int else []):=by
   show(if s0.fr=true then s0.fi++r.fi else s0.fi).map V.int=_
   cases s0.fr with
   | true=>exact List.map_append
   | false=>exact(List.append_nil _).symm
  have hle:(if s0.fr=true then r.fi.map V.int else []).length<=r.fi.length:=by
   split
   ·rw[List.length_map];exact Nat.le_refl _
   ·exact Nat.zero_le _
  generalize (if s0.fr=true then r.fi.map V.int else [])=g6 at efi hle ⊢
  have s6:Zg H5 (upd H5 l6 (.lst g6)):=Zg.new hl6;have x6:upd H5 l6 (.lst g6) l6=some (.lst g6):=Zb;generalize upd H5 l6 (.lst g6)=H6 at s6 x6 ⊢;refine⟨f,l6,_,_,rfl,rfl,s6 _ _ hf5,x6,Z9 (by rw[List.length_map];lia),fun f7 hf7=>?_⟩;rw[<- efi];have s7:Zg H6 (upd H6 f7 (.lst ((seS true s0 r).fi.map V.int))):=Zg.new hf7;have x7:upd H6 f7 (.lst ((seS true s0 r).fi.map V.int)) f7=some (.lst ((seS true s0 r).fi.map V.int)):=Zb;generalize upd H6 f7 (.lst ((seS true s0 r).fi.map V.int))=H7 at s7 x7 ⊢;have s57:=s6.trans s7;show u1_3 _ _ _;refine Zj e1_3 ?_;obtain⟨c1,c2,c3⟩:=Zi5 r.fr (s0.la.map V.int).length (by rw[List.length_map];lia);refine⟨_,rfl,_,rfl,r.fr,rfl,l,_,_,rfl,rfl,s57 _ _ hl5,c1,c2,c3,fun l8 hl8=>?_⟩;rw[Zjc];have ela:(seS true s0 r).la.map V.int=(if r.fr=true then s0.la.map V.int else [])++r.la.map V.int:=by
   show(if r.fr=true then s0.la++r.la else r.la).map V.int=_
   cases r.fr with
   | true=>exact List.map_append
   | false=>rfl
  have hle:(if r.fr=true then s0.la.map V.int else []).length<=s0.la.length:=by
   split
   ·rw[List.length_map];exact Nat.le_refl _
   ·exact Nat.zero_le _
  generalize (if r.fr=true then s0.la.map V.int else [])=g8 at ela hle ⊢
  have s8:Zg H7 (upd H7 l8 (.lst g8)):=Zg.new hl8;have x8:upd H7 l8 (.lst g8) l8=some (.lst g8):=Zb;generalize upd H7 l8 (.lst g8)=H8 at s8 x8 ⊢;refine⟨_,rfl,l8,l',_,_,rfl,rfl,x8,s8 _ _ (s57 _ _ l5),Z9 (by rw[List.length_map];lia),fun l9 hl9=>?_⟩;rw[<- ela];have s9:Zg H8 (upd H8 l9 (.lst ((seS true s0 r).la.map V.int))):=Zg.new hl9;have x9:upd H8 l9 (.lst ((seS true s0 r).la.map V.int)) l9=some (.lst ((seS true s0 r).la.map V.int)):=Zb;generalize upd H8 l9 (.lst ((seS true s0 r).la.map V.int))=H9 at s9 x9 ⊢;have s59:=(s57.trans s8).trans s9;have W9:=W5.same s59;have e7:(seS true s0 r).pl=s0.pl++r.pl:=rfl;have e8:(seS true s0 r).lk=s0.lk++r.lk++lk2 s0.la r.fi:=rfl;rw[List.append_assoc,<- e7,<- ZaV,<- ZaV,<- List.append_assoc,<- e8] at W9;have n7:H f7=none:=W5.back k05 (s6.free hf7);have n9:H l9=none:=W5.back k05 ((s57.trans s8).free hl9);rw[hnx];have last:∀(b:Bool),b=(seS true s0 r).fr->∃(v7 v8 v9 v10:Option V)(f l:Addr),([some (.ref dN),some (.ref p),some (.ref pl),some (.ref nx),some (.bl b),some (.ref f7),some (.ref l9),some (.ref pa),some (.bl r.fr),some (.ref f'),some (.ref l')]:St)=[some (.ref dN),some (.ref p),some (.ref pl),some (.ref nx),some (.bl (seS true s0 r).fr),some (.ref f),some (.ref l),v7,v8,v9,v10]/\ZR (Ex2 pl nx) H H9/\H f=none/\H l=none/\H9 f=some (.lst ((seS true s0 r).fi.map V.int))/\H9 l=some (.lst ((seS true s0 r).la.map V.int))/\Wl H9 dN pl nx bk (P++(seS true s0 r).pl) (Zb9 S (seS true s0 r).lk):=by
   intro b hb;exact⟨some (.ref pa),some (.bl r.fr),some (.ref f'),some (.ref l'),f7,l9,by rw[hb],k05.trans (Zg.keepX s59),n7,n9,s9 _ _ (s8 _ _ x7),x9,W9⟩
  show u1_4 _ _ _;refine Zj e1_4 ?_;refine⟨_,rfl,s0.fr,rfl,?_⟩;cases hb:s0.fr with
  | true =>
   refine Zdb ⟨_,rfl,last r.fr ?_⟩;show r.fr=(s0.fr&&r.fr);rw[hb];rfl
  | false =>
   refine Zby (last false ?_);show false=(s0.fr&&r.fr);rw[hb];rfl
 rintro σ H3 ⟨v7,v8,v9,v10,f,l,rfl,kk,nf,nl,hf3,hl3,W3⟩;rw[hvl,<- htl,List.take_length] at *;show u2 _ _ _;refine Zj e2 ?_;refine⟨_,rfl,_,rfl,_,rfl,(by show 3<=sizeLine;decide),fun t ht=>?_⟩;have s4:Zg H3 (upd H3 t (.tup [.bl (laF (bkN bk) d true (P.length:Int) (toL ps)).fr,.ref f,.ref l])):=Zg.new ht;exact q t f l _ (kk.trans (Zg.keepX s4)) ⟨nf,nl,W3.back kk ht,Zb,s4 _ _ hf3,s4 _ _ hl3⟩ (W3.same s4)
theorem ZbO{α β : Type}{F : α -> β -> Prop}:∀{l₁ : List α}{l₂ : List β}{i:Nat}{a : α},Paired F l₁ l₂ -> l₁[i]?= some a->∃b,l₂[i]?= some b/\F a b
 | _,_,0,_,.cons h _,e=>⟨_,rfl,by cases e;exact h⟩
 | _,_,i+1,_,.cons _ t,e=>by
  obtain⟨b,h1,h2⟩:=ZbO (i:=i) t e;exact⟨b,h1,h2⟩
theorem ZdA{α β : Type}{F : α -> β -> Prop}{l:List α}{ys:List β}{i:Nat}{a : α}{y : β}(h:Paired F (l.take i) ys)(e:l[i]?= some a)(g:F a y):Paired F (l.take (i+1)) (ys ++ [y]):=by
 obtain⟨h1,h2⟩:=List.getElem?_eq_some_iff.mp e;rw[List.take_succ_eq_append_getElem h1,h2];exact Paired.app h (.cons g .nil)
theorem ZeO{rs:List (List Int)}{i:Nat}{r:List Int}(h:rs[i]?= some r):(rs.take (i+1)).flatten=(rs.take i).flatten++r:=by
 obtain⟨h1,h2⟩:=List.getElem?_eq_some_iff.mp h;rw[List.take_succ_eq_append_getElem h1,h2,List.flatten_append];simp
theorem Zid:∀(rs:List (List Int))(i:Nat),(rs.take i).flatten.length<=rs.flatten.length
 | [],i=>by rw[List.take_nil];exact Nat.le_refl _
 | a::rs,0=>Nat.zero_le _
 | a::rs,i+1=>by
  have:=Zid rs i;rw[List.take_succ_cons,List.flatten_cons,List.flatten_cons,List.length_append,List.length_append];lia
def LsI(H:Hp)(v:V)(r:List Int):Prop := ∃l,v=V.ref l/\H l=some (.lst (r.map V.int))
theorem ZfX{H H':Hp}(s:Zg H H'){vs:List V}{rs:List (List Int)}(h:Paired (LsI H) vs rs):Paired (LsI H') vs rs:=Paired.mapP h fun _ _ ⟨l,e,h⟩=>⟨l,e,s _ _ h⟩
theorem ZeW{K:PySem.W.Frag}{H:Hp}{a z p:Addr}{ys:List V}{rs:List (List Int)}{Q:VK}(ha:H a=some (.lst ys))(hz:H z=some (.lst []))(hp:H p=none)(hy:Paired (LsI H) ys rs)(hl:rs.flatten.length<=1000)(q:∀r H',Zg H H'->(r=z\/H r=none)->H' r=some (.lst (rs.flatten.map V.int))->Q (.ref r) H'):∃W:Nat->Addr->Hp->Prop,W 0 z (upd H p (.lst [.ref z]))/\ZlQ K a p ys Q W:=by
 have hlen:ys.length=rs.length:=Paired.length hy;refine⟨fun i t H1=>i<=ys.length/\Zg H H1/\H1 p=some (.lst [.ref t])/\(t=z\/H t=none)/\H1 t=some (.lst ((rs.take i).flatten.map V.int)),⟨Nat.zero_le _,Zg.new hp,Zb,.inl rfl,Zg.new hp _ _ hz⟩,?_⟩;rintro i t H1 ⟨hi,s,e,f,g⟩;refine⟨e,SqL.of (s _ _ ha),?_⟩;by_cases h:i=ys.length
 ·refine .inl ⟨h.symm,q t H1 s f ?_⟩;rw[h,hlen,List.take_length] at g;exact g
 ·have hi':i<ys.length:=by lia
  have hx:ys[i]?= some ys[i]:=List.getElem?_eq_getElem hi';obtain⟨r,hr,l,hv,hl2⟩:=ZbO hy hx;have h1:=Zid rs (i+1);rw[ZeO hr,List.length_append] at h1;refine .inr ⟨_,hx,t,l,_,_,rfl,hv,g,s _ _ hl2,Z9 (by rw[List.length_map,List.length_map];lia),fun t2 ht2=>?_⟩;have s2:Zg H1 (upd H1 t2 (.lst ((rs.take i).flatten.map V.int++r.map V.int))):=Zg.new ht2;have n2:t2≠p:=fun z=>by rw[z,e] at ht2;cases ht2
  refine⟨s2 _ _ e,t2,rfl,by lia,(s.trans s2).upd_new hp,Zb,.inr (s.free ht2),?_⟩;rw[Zu n2,Zb,ZeO hr,List.map_append]
theorem ZhU:∀(rs:List Ly)(s:Ly),rs.foldl orS s=⟨s.fr || (rs.map (·.fr)).any id,s.fi++(rs.map (·.fi)).flatten,s.la++(rs.map (·.la)).flatten,s.pl++(rs.map (·.pl)).flatten,s.lk++(rs.map (·.lk)).flatten⟩
 | [],s=>by
  show s=⟨s.fr || false,s.fi ++ [],s.la ++ [],s.pl ++ [],s.lk ++ []⟩;rw[Bool.or_false,List.append_nil,List.append_nil,List.append_nil,List.append_nil]
 | r::rs,s=>by
  rw[List.foldl_cons,ZhU rs];show Ly.mk ((s.fr || r.fr) || _) ((s.fi++r.fi)++_) ((s.la++r.la)++_) ((s.pl++r.pl)++_) ((s.lk++r.lk)++_)=Ly.mk (s.fr || (r.fr || _)) (s.fi++(r.fi++_)) (s.la++(r.la++_)) (s.pl++(r.pl++_)) (s.lk++(r.lk++_));rw[Bool.or_assoc,List.append_assoc,List.append_assoc,List.append_assoc,List.append_assoc]
def LyE(H H':Hp)(v:V)(r:Ly):Prop := ∃t f l,v=.ref t/\LyD H H' t f l r
theorem Zjr:∀l:List Bool,inV (.bl true) (l.map V.bl)=l.any id
 | []=>rfl
 | a::l=>by
  have ih:=Zjr l;show(eqV (.bl a) (.bl true) || inV (.bl true) (l.map V.bl))=(a || l.any id);rw[<- ih];cases a <;> rfl
def Pk(H:Hp)(c:Nat)(v y:V):Prop := ∃t xs,v=.ref t/\H t=some (.tup xs)/\xs[c]?= some y
theorem Zlo{H0 H:Hp}:∀{vs ys:List V}{rs:List Ly},Paired (LyE H0 H) vs rs->Paired (Pk H 0) vs ys->ys=(rs.map (·.fr)).map V.bl
 | _,_,_,.nil,.nil=>rfl
 | _,_,_,.cons ⟨t,f,l,e,_,_,_,h,_⟩ t1,.cons ⟨t',xs,e',h',g⟩ t2=>by
  have ih:=Zlo t1 t2;subst e;cases e';rw[h] at h';cases h';cases g;rw[ih];rfl
theorem Zlq{H0 H:Hp}:∀{vs ys:List V}{rs:List Ly},Paired (LyE H0 H) vs rs->Paired (Pk H 1) vs ys->Paired (LsI H) ys (rs.map (·.fi))
 | _,_,_,.nil,.nil=>.nil
 | _,_,_,.cons ⟨t,f,l,e,_,_,_,h,hf,_⟩ t1,.cons ⟨t',xs,e',h',g⟩ t2=>by
  have ih:=Zlq t1 t2;subst e;cases e';rw[h] at h';cases h';cases g;exact .cons ⟨f,rfl,hf⟩ ih
theorem ZkS{H0 H:Hp}:∀{vs ys:List V}{rs:List Ly},Paired (LyE H0 H) vs rs->Paired (Pk H 2) vs ys->Paired (LsI H) ys (rs.map (·.la))
 | _,_,_,.nil,.nil=>.nil
 | _,_,_,.cons ⟨t,f,l,e,_,_,_,h,_,hl⟩ t1,.cons ⟨t',xs,e',h',g⟩ t2=>by
  have ih:=ZkS t1 t2;subst e;cases e';rw[h] at h';cases h';cases g;exact .cons ⟨l,rfl,hl⟩ ih
theorem LyE.to{H0 H H':Hp}{ex:List Addr}(k:ZR ex H H')(hx:∀b,H0 b=none->b∉ex){v:V}{r:Ly}(h:LyE H0 H v r):LyE H0 H' v r:=by
 obtain⟨t,f,l,e,n1,n2,n3,h1,h2,h3⟩:=h;exact⟨t,f,l,e,n1,n2,n3,k _ _ (hx _ n3) h1,k _ _ (hx _ n1) h2,k _ _ (hx _ n2) h3⟩
theorem LyE.tup{H0 H:Hp}{v:V}{r:Ly}(h:LyE H0 H v r):∃t f l,v=.ref t/\H t=some (.tup [.bl r.fr,.ref f,.ref l]):=by
 obtain⟨t,f,l,e,_,_,_,h1,_⟩:=h;exact⟨t,f,l,e,h1⟩
set_option maxHeartbeats 8000000 in
theorem ZhM(d k:Nat)(B:∀x∈ZcE,mg x=none)(g_l_laid:Has P w K mg base "_law_laid" ["_law_names","_law_expr","_law_places","_law_linked_here"] (k+1) (Ze5 d)) (g_l_turned:Has P w K mg base "_law_turned" ["_law_names","_law_parts","_law_places","_law_linked_here"] (k+2) (Zer d)) (g_l_linked:Has P w K mg base "_law_linked" ["_law_lasts","_law_begun","_law_linked_here"] 1 Zc9) (F:Fun K "_law_laid" "_law_laid" Z3 f fd):FnOk P w K mg base CX0 (k+3) f fd ["_law_names","_law_expr","_law_places","_law_linked_here"] (Ze5 (d+1)):=by
 refine F.ok Za6 (fun vs H Q E h=>?_) (fun cdv A outer s H vs Q E hr h=>?_)
 ·obtain⟨dN,pl,nx,bk,P,S,p,e,rfl,_⟩:=h;rfl
 obtain⟨dN,pl,nx,bk,P,S,p,e,rfl,W,hR,hs,hF,h64,q⟩:=h;have hu1:(A.deeper (PyProof.Rows.envOfC (Str.ofString "_law_laid") (Zh Z3) s.heap.objs.size f cdv)).units+1<cLine:=by have:=hr.un;lia
 refine Zm ((Zc Z3).drop 8) (Zk (ZC (Z0 (Za (Zkt (pv 6) (ZbY (Za7 ZiV (pv 4) ZP (ZV _)))) (Za (pv 7) (Za (pv 8) Zf)))))) (fun u8 h8 e8=>?_);refine Zm ((Zc Z3).drop 7) (Zd (Zah (ZD ZiV (pv 4) ZP (ZV _))
   (Zk (Zbu (Zaa g_l_linked hr rfl (Za (pv 8) (Za (pv 7) (Za (pv 3) Zf))) (by lia))))
   Zy) h8) (fun u7 h7 e7=>?_)
 refine Zm ((Zc Z3).drop 6) (Zd (ZcO (Zaa g_l_laid hr rfl (Za (pv 0) (Za (Zr Zv (pv 1) Ze (fun _ _=>rfl)) (Za (pv 2) (Za (pv 3) Zf)))) (by lia)) (Zdj rfl (Zaj (ZL (i:=6) Za6.nd rfl (Or.inl rfl)) (Zaj (ZL (i:=7) Za6.nd rfl (Or.inl rfl)) (Zaj (ZL (i:=8) Za6.nd rfl (Or.inl rfl)) Zb4))))) h7) (fun u6 h6 e6=>?_);refine Zm ((Zaq ((Zc Z3).getD 5 (.Pass ⟨0,0,0,0⟩))).drop 2) (Zk (ZC (Z0 (Za (pv 6) (Za (Zz (ZdO rfl) rfl (B "sum" (by decide)) PyProof.Rows.boot_sum (Za (Zcd (cl:=[]) ["_law_part"] [] (Zbq (pv 5)) (fun _ _ _ _=>(ZL (i:=0) nd1 rfl (Or.inl rfl))) (fun _ _ _ _=>(Zr (Zfw (K:=K) rfl) (pv 0) Ze (fun _ _=>rfl))) rfl rfl (by decide) rfl (by decide) (fun _ _ h=>nomatch h) (Ze3 (by decide)) (fun _ _ h=>nomatch h) (fun _=>rfl)) (Za (Zas Zf) Zf))) (Za (Zz (ZdO rfl) rfl (B "sum" (by decide)) PyProof.Rows.boot_sum (Za (Zcd (cl:=[]) ["_law_part"] [] (Zbq (pv 5)) (fun _ _ _ _=>(ZL (i:=0) nd1 rfl (Or.inl rfl))) (fun _ _ _ _=>(Zr (Zfw (K:=K) rfl) (pv 0) Ze (fun _ _=>rfl))) rfl rfl (by decide) rfl (by decide) (fun _ _ h=>nomatch h) (Ze3 (by decide)) (fun _ _ h=>nomatch h) (fun _=>rfl)) (Za (Zas Zf) Zf))) Zf)))))) (fun u5t2 h5t2 e5t2=>?_)
 refine Zm ((Zaq ((Zc Z3).getD 5 (.Pass ⟨0,0,0,0⟩))).drop 1) (Zd (Zx (i:=6) Za6.nd rfl (Or.inl rfl) (Za7 ZaP Zbg (Zcd (cl:=[]) ["_law_part"] [] (Zbq (pv 5)) (fun _ _ _ _=>(ZL (i:=0) nd1 rfl (Or.inl rfl))) (fun _ _ _ _=>(Zr (Zfw (K:=K) rfl) (pv 0) Ze (fun _ _=>rfl))) rfl rfl (by decide) rfl (by decide) (fun _ _ h=>nomatch h) (Ze3 (by decide)) (fun _ _ h=>nomatch h) (fun _=>rfl)) (by with_unfolding_all rfl))) h5t2) (fun u5t1 h5t1 e5t1=>?_)
 refine Zm ((Zaq ((Zc Z3).getD 5 (.Pass ⟨0,0,0,0⟩))).drop 0) (Zd (Zcf (cl:=_) (n0:=5) Za6.nd rfl (Or.inl rfl) ["_law_part"] [("_law_names",0),("_law_places",2),("_law_linked_here",3)] (ZbX (Zr Zv (pv 1) Ze (fun _ _=>rfl))) (fun _ _ _ _=>(ZL (i:=0) (show List.Nodup (["_law_part","_law_names","_law_places","_law_linked_here"]:List Str) by decide) rfl (Or.inl rfl))) (fun _ _ _ _=>(Zaa g_l_laid hr rfl (Za (pv 1) (Za (pv 0) (Za (pv 2) (Za (pv 3) Zf)))) (by lia))) rfl rfl (by decide) rfl (by decide) (Zdp (by(repeat' first|exact List.forall_mem_nil _|refine List.forall_mem_cons.mpr ⟨?_,?_⟩) <;> rfl)) (Zcg (by(repeat' first|exact List.forall_mem_nil _|refine List.forall_mem_cons.mpr ⟨?_,?_⟩) <;> first|(intro h;exact⟨_,rfl⟩)|(intro h;exact absurd h (by decide)))) (fun _=>by(repeat' first|exact List.forall_mem_nil _|refine List.forall_mem_cons.mpr ⟨?_,?_⟩) <;> exact⟨rfl,rfl,Or.inl rfl⟩) (fun _=>rfl) rfl) h5t1) (fun u5t0 h5t0 e5t0=>?_)
 refine Zm ((Zc Z3).drop 5) (Zd (Zah (ZD ZaN (pv 4) ZP (ZV _))
   h5t0
   Zy) h6) (fun u5 h5 e5=>?_)
 refine Zm ((Zc Z3).drop 4) (Zd (Zah (ZD ZaN (pv 4) ZP (ZV _))
   (Zk (ZC (Zaa g_l_turned hr rfl (Za (pv 0) (Za (Zr Zv (pv 1) Ze (fun _ _=>rfl)) (Za (pv 2) (Za (pv 3) Zf)))) (by lia))))
   Zy) h5) (fun u4 h4 e4=>?_)
 refine Zm ((Zc Z3).drop 3) (Zd (Zah (ZD ZaN (pv 4) ZP (ZV _))
   (Zk (ZC (Zaa g_l_laid hr rfl (Za (pv 0) (Za (ZcB hu1 (pv 0) (Zr Zv (pv 1) Ze (fun _ _=>rfl)) (fun _ _=>rfl)) (Za (pv 2) (Za (pv 3) Zf)))) (by lia))))
   Zy) h4) (fun u3 h3 e3=>?_)
 refine Zm ((Zaq ((Zc Z3).getD 2 (.Pass ⟨0,0,0,0⟩))).drop 1) (Zk (ZC (Z0 (Za Zbg (Za (Zas (Za (ZF Zcj (Zz Z1 rfl (B "len" (by decide)) PySem.boot_len (Za (pv 2) Zf)) Ze) Zf)) (Za (Zas (Za (ZF Zcj (Zz Z1 rfl (B "len" (by decide)) PySem.boot_len (Za (pv 2) Zf)) Ze) Zf)) Zf)))))) (fun u2t1 h2t1 e2t1=>?_);refine Zm ((Zaq ((Zc Z3).getD 2 (.Pass ⟨0,0,0,0⟩))).drop 0) (Zd (Zbu (ZhZ PySem.F.plainAttrs_list PySem.F.slot_list_append PySem.F.type_list_append Zct (pv 2) (Za (Z0 (Za (Zr Zv (pv 1) Ze (fun _ _=>rfl)) (Za (Zr Zv (pv 1) Ze (fun _ _=>rfl)) Zf))) Zf))) h2t1) (fun u2t0 h2t0 e2t0=>?_);refine Zm ((Zc Z3).drop 2) (Zd (Zah (ZD ZaN (pv 4) ZP (ZV _))
   h2t0
   Zy) h3) (fun u2 h2 e2=>?_)
 refine Zm ((Zc Z3).drop 1) (Zd (Zah (ZD ZaN (pv 4) ZP (ZV _))
   (Zk (ZC (Z0 (Za Zbg (Za (Zas Zf) (Za (Zas Zf) Zf))))))
   Zy) h2) (fun u1 h1 e1=>?_)
 refine Zm ((Zc Z3).drop 0) (Zd (Zx (i:=4) Za6.nd rfl (Or.inl rfl) (Zr Zv (pv 1) Ze (fun _ _=>rfl))) h1) (fun u0 h0 e0=>?_);refine⟨u0,h0,?_⟩;obtain⟨r0,ht,_⟩:=hR.top;refine Zj e0 ?_;refine⟨_,rfl,p,_,0,_,rfl,rfl,SqT.of ht,at0,?_⟩;show u1 _ _ _;refine Zj e1 ?_;cases hR with
 | nil h =>
  refine⟨_,rfl,rfl,_,rfl,Zax (fun _=>?_) (fun z=>absurd (decide_eq_true rfl) z)⟩;refine⟨(by show 0<=sizeLine;decide),fun f hf=>⟨(by show 0<=sizeLine;decide),fun l hl'=>⟨(by show 3<=sizeLine;decide),fun t ht=>?_⟩⟩⟩;obtain⟨n1,hl1⟩:=ZaH hl';obtain⟨n2,ht1⟩:=ZaH ht;obtain⟨n3,ht2⟩:=ZaH ht1;have s1:Zg H (upd (upd (upd H f (.lst [])) l (.lst [])) t (.tup [.bl true,.ref f,.ref l])):=((Zg.new hf).upd_new hl1).upd_new ht2;refine q t f l _ (Zg.keepX s1) ⟨hf,hl1,ht2,Zb,?_,?_⟩ ?_
  ·rw[Zu n3.symm,Zu n1.symm];exact Zb
  ·rw[Zu n2.symm];exact Zb
  ·show Wl _ dN pl nx bk (P ++ []) S;rw[List.append_nil];exact W.same s1
 | @tag _ q' t i h r =>
  refine⟨_,rfl,rfl,_,rfl,Zax (fun z=>absurd z (Zao (show Str.ofString "tag" ≠ _ by decide))) (fun _=>?_)⟩;show u2 _ _ _;refine Zj e2 ?_;refine⟨_,rfl,rfl,_,rfl,Zax (fun _=>?_) (fun z=>absurd (decide_eq_true rfl) z)⟩;refine Zj e2t0 ?_;obtain⟨vs,hpl,hP⟩:=id W.ps;have hvl:vs.length=P.length:=Paired.length hP;have h64:P.length+1<=64:=h64;refine⟨_,rfl,.inl ⟨rfl,_,SqL.of hpl⟩,_,rfl,p,_,1,_,rfl,rfl,SqT.of h,rfl,_,rfl,p,_,2,_,rfl,rfl,SqT.of h,rfl,(by show 2<=sizeLine;decide),fun t1 ht1=>?_⟩;have s1:Zg H (upd H t1 (.tup [.str t,.ref q'])):=Zg.new ht1;have x1:upd H t1 (.tup [.str t,.ref q']) t1=some (.tup [.str t,.ref q']):=Zb;generalize upd H t1 (.tup [.str t,.ref q'])=H1 at s1 x1 ⊢;have W1:=W.same s1;have hpl1:=s1 _ _ hpl;refine⟨pl,_,_,rfl,rfl,hpl1,Z4 (by lia),?_⟩;have W2:=W1.put (x:=(t,i)) hpl1 x1 (r.mono s1.tk);have k2:ZR (Ex2 pl nx) H (upd H1 pl (.lst (vs ++ [.ref t1]))):=ZR.upd (Zg.keepX s1) (List.mem_cons_self ..);have hpl2:upd H1 pl (.lst (vs ++ [.ref t1])) pl=some (.lst (vs ++ [.ref t1])):=Zb;generalize upd H1 pl (.lst (vs ++ [.ref t1]))=H2 at W2 k2 hpl2 ⊢;have hlen:(((vs ++ [V.ref t1]).length:Nat):Int)-1=(P.length:Int):=by
   rw[List.length_append];show((vs.length+1:Nat):Int)-1=_;lia
  show u2t1 _ _ _;refine Zj e2t1 ?_;refine⟨_,rfl,pl,_,rfl,.inl (SqL.of hpl2),_,_,rfl,rfl,(by show 1<=sizeLine;decide),fun f hf=>?_⟩;have hg:([V.int ((((vs ++ [V.ref t1]).length:Nat):Int)-1)]:List V)=[.int (P.length:Int)]:=by rw[hlen]
  rw[hg];have s3:Zg H2 (upd H2 f (.lst [.int (P.length:Int)])):=Zg.new hf;have x3:upd H2 f (.lst [.int (P.length:Int)]) f=some (.lst [.int (P.length:Int)]):=Zb;generalize upd H2 f (.lst [.int (P.length:Int)])=H3 at s3 x3 ⊢;refine⟨_,rfl,pl,_,rfl,.inl (SqL.of (s3 _ _ hpl2)),_,_,rfl,rfl,(by show 1<=sizeLine;decide),fun l hl=>?_⟩;rw[hg];have s4:Zg H3 (upd H3 l (.lst [.int (P.length:Int)])):=Zg.new hl;have x4:upd H3 l (.lst [.int (P.length:Int)]) l=some (.lst [.int (P.length:Int)]):=Zb;generalize upd H3 l (.lst [.int (P.length:Int)])=H4 at s4 x4 ⊢;refine⟨(by show 3<=sizeLine;decide),fun t5 ht5=>?_⟩;have s5:Zg H4 (upd H4 t5 (.tup [.bl false,.ref f,.ref l])):=Zg.new ht5;have s25:=(s3.trans s4).trans s5;exact q t5 f l _ (k2.trans (Zg.keepX s25)) ⟨W2.back k2 hf,W2.back k2 (s3.free hl),W2.back k2 ((s3.trans s4).free ht5),Zb,s5 _ _ (s4 _ _ x3),s5 _ _ x4⟩ (W2.same s25)
 | @name _ n h =>
  refine⟨_,rfl,rfl,_,rfl,Zax (fun z=>absurd z (Zao (show Str.ofString "name" ≠ _ by decide))) (fun _=>?_)⟩;show u2 _ _ _;refine Zj e2 ?_;refine⟨_,rfl,rfl,_,rfl,Zax (fun z=>absurd z (Zao (show Str.ofString "name" ≠ _ by decide))) (fun _=>?_)⟩;show u3 _ _ _;refine Zj e3 ?_;refine⟨_,rfl,rfl,_,rfl,Zax (fun _=>?_) (fun z=>absurd (decide_eq_true rfl) z)⟩;obtain⟨hU,hF'⟩:=hF;obtain⟨kvN,hdN,hvN⟩:=id W.nm;obtain⟨q',hq1,hq2⟩:=hvN n hU;exact⟨_,rfl,_,rfl,_,rfl,p,_,1,_,rfl,rfl,SqT.of h,rfl,dN,.ref q',rfl,by rw[<- hq1];exact Zev.k (k:=.inr n) hdN,_,rfl,_,rfl,dN,pl,nx,bk,P,S,q',_,rfl,W,hq2,W.sz n hU,hF',h64,q⟩
 | @several _ q' b vs' ps h1 h2 r =>
  have nn:∀x:Str,(x= "nil" \/ x= "name" \/ x= "tag")->Zc8 b≠x:=by
   rintro x (rfl|rfl|rfl) <;> cases b <;> decide
  refine⟨_,rfl,rfl,_,rfl,Zax (fun z=>absurd z (Zao (nn _ (.inl rfl)))) (fun _=>?_)⟩;show u2 _ _ _;refine Zj e2 ?_;refine⟨_,rfl,rfl,_,rfl,Zax (fun z=>absurd z (Zao (nn _ (.inr (.inr rfl))))) (fun _=>?_)⟩;show u3 _ _ _;refine Zj e3 ?_;refine⟨_,rfl,rfl,_,rfl,Zax (fun z=>absurd z (Zao (nn _ (.inr (.inl rfl))))) (fun _=>?_)⟩;show u4 _ _ _;refine Zj e4 ?_;have hs:szs ps+1<=200:=hs;cases b with
  | true =>
   refine⟨_,rfl,rfl,_,rfl,Zax (fun _=>?_) (fun z=>absurd (decide_eq_true rfl) z)⟩;exact⟨_,rfl,_,rfl,p,_,1,_,rfl,rfl,SqT.of h1,rfl,_,rfl,_,rfl,dN,pl,nx,bk,P,S,q',vs',ps,rfl,W,h2,r,by lia,hF.2,h64,q⟩
  | false =>
   refine⟨_,rfl,rfl,_,rfl,Zax (fun z=>absurd z (Zao (show Str.ofString "or" ≠ _ by decide))) (fun _=>?_)⟩;show u5 _ _ _;refine Zj e5 ?_;refine⟨_,rfl,rfl,_,rfl,Zax (fun _=>?_) (fun z=>absurd (decide_eq_true rfl) z)⟩;refine Zj e5t0 ?_;have hvl:=r.length;have hcl:=Zcs ps;have htl:=ZbL ps;have h64:P.length+((toL ps).map (cP (bkN bk) d)).sum<=64:=h64;have hla:lay (bkN bk) (d+1) (.several false ps) (P.length:Int)=laF (bkN bk) d false (P.length:Int) (toL ps):=rfl;rw[hla] at q;have hlR:=Zed (bkN bk) d false (P.length:Int) (toL ps);have hlL:=Zdo (bkN bk) d false (P.length:Int) (toL ps);refine⟨_,rfl,p,_,1,_,rfl,rfl,SqT.of h1,rfl,q',rfl,⟨vs',SqT.of h2⟩,fun pa hpa=>?_⟩;have sa:Zg H (upd H pa (.lst [])):=Zg.new hpa;have xa:upd H pa (.lst []) pa=some (.lst []):=Zb;generalize upd H pa (.lst [])=H1 at sa xa ⊢;have W1:=W.same sa;have npa:pa∉Ex2 pl nx:=W.fresh hpa;have npl:pa≠pl:=fun z=>npa (by rw[z];exact List.mem_cons_self ..);have fr1:∀b,H1 b=none->b∉pa::Ex2 pl nx:=fun b hb z=>by
    rcases List.mem_cons.mp z with z|z
    ·rw[z,xa] at hb;cases hb
    ·exact W1.fresh hb z
   have tk1:∀{H2:Hp},ZR (pa::Ex2 pl nx) H1 H2->TK H H2:=fun k b xs e=>k _ _ (fun z=>by
    rcases List.mem_cons.mp z with z|z
    ·rw[z,hpa] at e;cases e
    ·exact W.out e (fun _ z=>nomatch z) (fun _ z=>nomatch z) z) (sa _ _ e)
   refine Zc6 (K:=K) (a:=q') (p:=pa) (xs:=vs') (fun i ys σ H2=>∃v0:Option V,σ =[v0,some (.ref dN),some (.ref pl),some (.ref nx)]/\ZR (pa::Ex2 pl nx) H1 H2/\H2 pa=some (.lst ys)/\ys.length=i/\∃rs:List Ly,laF (bkN bk) d false (P.length:Int) ((toL ps).take i)=rs.foldl orS (ly0 false)/\Paired (LyE H1 H2) ys rs/\Wl H2 dN pl nx bk (P++(laF (bkN bk) d false (P.length:Int) ((toL ps).take i)).pl) (Zb9 S (laF (bkN bk) d false (P.length:Int) ((toL ps).take i)).lk))
    ⟨none,rfl,Zg.keepX (Zg.refl H1),xa,rfl,[],rfl,.nil,by
     show Wl H1 dN pl nx bk (P ++ []) S;rw[List.append_nil];exact W1⟩ ?_ ?_ ?_
   ·rintro i ys σ H2 _ ⟨v0,_,kk,h2',_⟩;exact⟨SqT.of (tk1 kk _ _ h2),h2'⟩
   ·rintro i ys x σ H2 hi hx ⟨v0,rfl,kk,hpa2,hyl,rs,hrs,hPr,W2⟩;obtain⟨pe,ea,rfl,hea,hra⟩:=r.get hx;have hmem:=List.mem_of_getElem? hea;obtain⟨m1,m2,_⟩:=ZaY hmem;have hnx:=Zc0 (N:=bkN bk) (d:=d) (b:=false) (k:=(P.length:Int)) hea;have hln:=Zdo (bkN bk) d false (P.length:Int) ((toL ps).take i);have hsn:=Zc2 (g:=cP (bkN bk) d) hea;generalize laF (bkN bk) d false (P.length:Int) ((toL ps).take i)=s0 at hnx hln hrs W2;have hPl:((P++s0.pl).length:Int)=(P.length:Int)+(s0.pl.length:Int):=by rw[List.length_append,Int.natCast_add]
    refine⟨_,rfl,_,rfl,_,rfl,_,rfl,dN,pl,nx,bk,P++s0.pl,_,pe,ea,rfl,W2,hra.mono (tk1 kk),by lia,hF.2 ea hmem,by rw[List.length_append];lia,fun t f' l' H3 k3 hL W3=>?_⟩;rw[hPl] at hL W3;generalize lay (bkN bk) d ea ((P.length:Int)+(s0.pl.length:Int))=rr at hnx hL W3;obtain⟨n1,n2,n3,t4,f4,l4⟩:=hL;have hpa3:=k3 _ _ npa hpa2;have bk1:∀{b:Addr},H2 b=none->H1 b=none:=fun{b} hb=>by
     cases hc:H1 b with
     | none=>rfl
     | some o =>
      have:=kk b o (fun z=>by
       rcases List.mem_cons.mp z with z|z
       ·rw[z,hpa2] at hb;cases hb
       ·exact W2.fresh hb z) hc
      rw[hb] at this;cases this
    have k3':ZR (pa::Ex2 pl nx) H2 H3:=ZfA k3 fun x hx=>List.mem_cons_of_mem _ hx;have k4:ZR (pa::Ex2 pl nx) H3 (upd H3 pa (.lst (ys ++ [.ref t]))):=ZR.upd (Zg.keepX (Zg.refl H3)) (List.mem_cons_self ..);have x4:upd H3 pa (.lst (ys ++ [.ref t])) pa=some (.lst (ys ++ [.ref t])):=Zb;have W4:=W3.lst (ys:=ys ++ [.ref t]) hpa3 npl;refine⟨hpa3,Z4 (by lia),CW.next hi ⟨_,rfl,(kk.trans k3').trans k4,x4,by rw[List.length_append,hyl];rfl,rs ++ [rr],?_,?_,?_⟩⟩
    ·rw[hnx,hrs,List.foldl_append];rfl
    ·refine Paired.app (Paired.mapP hPr fun _ _ z=>(z.to k3' fr1).to k4 fr1) (.cons ?_ .nil);have:LyE H1 H3 (.ref t) rr:=⟨t,f',l',rfl,bk1 n1,bk1 n2,bk1 n3,t4,f4,l4⟩;exact this.to k4 fr1
    ·rw[hnx];have e7:(seS false s0 rr).pl=s0.pl++rr.pl:=rfl;have e8:(seS false s0 rr).lk=s0.lk++rr.lk:=rfl;rw[List.append_assoc,<- e7,<- ZaV,<- e8] at W4;exact W4
   ·rintro ys σ H2 ⟨v0,_,kk,hpa2,hyl,rs,hrs,hPr,W2⟩;rw[hvl,<- htl,List.take_length] at hrs W2;have hov:=ZhU rs (ly0 false);rw[<- hrs] at hov;have ofr:(laF (bkN bk) d false (P.length:Int) (toL ps)).fr=(rs.map (·.fr)).any id:=by rw[hov];rfl
    have ofi:(laF (bkN bk) d false (P.length:Int) (toL ps)).fi=(rs.map (·.fi)).flatten:=by rw[hov];rfl
    have ola:(laF (bkN bk) d false (P.length:Int) (toL ps)).la=(rs.map (·.la)).flatten:=by rw[hov];rfl
    generalize laF (bkN bk) d false (P.length:Int) (toL ps)=L at q hlR hlL W2 ofr ofi ola;have y1:=Zaw hlR.1;have y2:=Zaw hlR.2;have kH:ZR (Ex2 pl nx) H H2:=fun b o hb e=>kk b o (fun z=>by
     rcases List.mem_cons.mp z with z|z
     ·rw[z,hpa] at e;cases e
     ·exact hb z) (sa _ _ e)
    show u5t1 _ _ _;refine Zj e5t1 ?_;refine⟨_,rfl,pa,rfl,⟨_,SqL.of hpa2⟩,fun pb hpb=>ZbB (K:=K) (a:=pa) (p:=pb) (xs:=ys) (fun i zs σ H3=>∃v0:Option V,σ =[v0]/\Zg H2 H3/\H3 pb=some (.lst zs)/\zs.length=i/\Paired (Pk H2 0) (ys.take i) zs)
     ⟨none,rfl,Zg.new hpb,Zb,rfl,.nil⟩ ?_ ?_ ?_⟩
    ·rintro i zs σ H3 _ ⟨v0,_,sm,h3,_⟩;exact⟨SqL.of (sm _ _ hpa2),h3⟩
    ·rintro i zs x σ H3 hi hx ⟨v0,rfl,sm,h3,hzl,hPk⟩;obtain⟨rr,_,hE⟩:=ZbO hPr hx;obtain⟨t,f1,l1,rfl,ht1⟩:=hE.tup;exact⟨_,rfl,t,_,0,_,rfl,rfl,SqT.of (sm _ _ ht1),rfl,h3,Z4 (by lia),CW.next hi ⟨_,rfl,sm.upd_new hpb,Zb,by rw[List.length_append,hzl];rfl,ZdA hPk hx ⟨t,_,rfl,ht1,rfl⟩⟩⟩
    rintro zs σ H3 ⟨v0,_,sm3,h3,_,hPk⟩;rw[List.take_length] at hPk;have hzs:=Zlo hPr hPk;refine⟨pb,_,rfl,.inl (SqL.of h3),rfl,by rw[hzs];exact Zfp _,?_⟩;have hbl:inV (.bl true) zs=L.fr:=by rw[hzs,Zjr,ofr]
    show u5t2 _ [_,_,_,_,_,_,some (.bl (inV (.bl true) zs)),_,_] _;rw[hbl];refine Zj e5t2 ?_;have hpa3:=sm3 _ _ hpa2;refine⟨_,rfl,_,rfl,pa,rfl,⟨_,SqL.of hpa3⟩,fun pc hpc=>ZbB (K:=K) (a:=pa) (p:=pc) (xs:=ys) (fun i zs σ H4=>∃v0:Option V,σ =[v0]/\Zg H3 H4/\H4 pc=some (.lst zs)/\zs.length=i/\Paired (Pk H2 1) (ys.take i) zs)
     ⟨none,rfl,Zg.new hpc,Zb,rfl,.nil⟩ ?_ ?_ ?_⟩
    ·rintro i zs σ H4 _ ⟨v0,_,sm,h4,_⟩;exact⟨SqL.of (sm _ _ hpa3),h4⟩
    ·rintro i zs x σ H4 hi hx ⟨v0,rfl,sm,h4,hzl,hPk⟩;obtain⟨rr,_,hE⟩:=ZbO hPr hx;obtain⟨t,f1,l1,rfl,ht1⟩:=hE.tup;exact⟨_,rfl,t,_,1,_,rfl,rfl,SqT.of (sm _ _ (sm3 _ _ ht1)),rfl,h4,Z4 (by lia),CW.next hi ⟨_,rfl,sm.upd_new hpc,Zb,by rw[List.length_append,hzl];rfl,ZdA hPk hx ⟨t,_,rfl,ht1,rfl⟩⟩⟩
    rintro z4 σ H4 ⟨v0,_,sm4,h4,_,hPk1⟩;rw[List.take_length] at hPk1;have s24:=sm3.trans sm4;have hP1:=ZfX s24 (Zlq hPr hPk1);refine⟨(by show 0<=sizeLine;decide),fun z5 hz5=>?_⟩;have s5:Zg H4 (upd H4 z5 (.lst [])):=Zg.new hz5;have x5:upd H4 z5 (.lst []) z5=some (.lst []):=Zb;generalize upd H4 z5 (.lst [])=H5 at s5 x5 ⊢;refine⟨pc,z5,_,_,rfl,SqL.of (s5 _ _ h4),x5,fun p6 hp6=>ZeW (s5 _ _ h4) x5 hp6 (ZfX s5 hP1) (by rw[<- ofi];lia) fun f6 H6 s6 hf6 x6=>?_⟩;rw[<- ofi] at x6;have s26:=(s24.trans s5).trans s6;have nf6:H2 f6=none:=by
     rcases hf6 with rfl|hf6
     ·exact s24.free hz5
     ·exact(s24.trans s5).free hf6
    have hpa6:=s26 _ _ hpa2;refine⟨_,rfl,pa,rfl,⟨_,SqL.of hpa6⟩,fun pd hpd=>ZbB (K:=K) (a:=pa) (p:=pd) (xs:=ys) (fun i zs σ H7=>∃v0:Option V,σ =[v0]/\Zg H6 H7/\H7 pd=some (.lst zs)/\zs.length=i/\Paired (Pk H2 2) (ys.take i) zs)
     ⟨none,rfl,Zg.new hpd,Zb,rfl,.nil⟩ ?_ ?_ ?_⟩
    ·rintro i zs σ H7 _ ⟨v0,_,sm,h7,_⟩;exact⟨SqL.of (sm _ _ hpa6),h7⟩
    ·rintro i zs x σ H7 hi hx ⟨v0,rfl,sm,h7,hzl,hPk⟩;obtain⟨rr,_,hE⟩:=ZbO hPr hx;obtain⟨t,f1,l1,rfl,ht1⟩:=hE.tup;exact⟨_,rfl,t,_,2,_,rfl,rfl,SqT.of (sm _ _ (s26 _ _ ht1)),rfl,h7,Z4 (by lia),CW.next hi ⟨_,rfl,sm.upd_new hpd,Zb,by rw[List.length_append,hzl];rfl,ZdA hPk hx ⟨t,_,rfl,ht1,rfl⟩⟩⟩
    rintro z7 σ H7 ⟨v0,_,sm7,h7,_,hPk2⟩;rw[List.take_length] at hPk2;have s27:=s26.trans sm7;have hP2:=ZfX s27 (ZkS hPr hPk2);refine⟨(by show 0<=sizeLine;decide),fun z8 hz8=>?_⟩;have s8:Zg H7 (upd H7 z8 (.lst [])):=Zg.new hz8;have x8:upd H7 z8 (.lst []) z8=some (.lst []):=Zb;generalize upd H7 z8 (.lst [])=H8 at s8 x8 ⊢;refine⟨pd,z8,_,_,rfl,SqL.of (s8 _ _ h7),x8,fun p9 hp9=>ZeW (s8 _ _ h7) x8 hp9 (ZfX s8 hP2) (by rw[<- ola];lia) fun l9 H9 s9 hl9 x9=>?_⟩;rw[<- ola] at x9;have s29:=(s27.trans s8).trans s9;have nl9:H2 l9=none:=by
     rcases hl9 with rfl|hl9
     ·exact s27.free hz8
     ·exact(s27.trans s8).free hl9
    refine⟨(by show 3<=sizeLine;decide),fun t ht=>?_⟩;have s10:Zg H9 (upd H9 t (.tup [.bl L.fr,.ref f6,.ref l9])):=Zg.new ht;exact q t f6 l9 _ (kH.trans (Zg.keepX (s29.trans s10))) ⟨W2.back kH nf6,W2.back kH nl9,W2.back kH (s29.free ht),Zb,s10 _ _ (s9 _ _ (s8 _ _ (sm7 _ _ x6))),s10 _ _ x9⟩ (W2.same (s29.trans s10))
 | @rep _ q' m i h r =>
  have hm:=Zd1 m;have nn:∀x:Str,(x= "nil" \/ x= "name" \/ x= "tag" \/ x= "turn" \/ x= "or")->ZbV m≠x:=by
   intro x hx;rcases hm with⟨_,e⟩|⟨_,e⟩|⟨_,e⟩ <;> rw[e] <;> rcases hx with rfl|rfl|rfl|rfl|rfl <;> decide
  refine⟨_,rfl,rfl,_,rfl,Zax (fun z=>absurd z (Zao (nn _ (.inl rfl)))) (fun _=>?_)⟩;show u2 _ _ _;refine Zj e2 ?_;refine⟨_,rfl,rfl,_,rfl,Zax (fun z=>absurd z (Zao (nn _ (.inr (.inr (.inl rfl)))))) (fun _=>?_)⟩;show u3 _ _ _;refine Zj e3 ?_;refine⟨_,rfl,rfl,_,rfl,Zax (fun z=>absurd z (Zao (nn _ (.inr (.inl rfl))))) (fun _=>?_)⟩;show u4 _ _ _;refine Zj e4 ?_;refine⟨_,rfl,rfl,_,rfl,Zax (fun z=>absurd z (Zao (nn _ (.inr (.inr (.inr (.inl rfl))))))) (fun _=>?_)⟩;show u5 _ _ _;refine Zj e5 ?_;refine⟨_,rfl,rfl,_,rfl,Zax (fun z=>absurd z (Zao (nn _ (.inr (.inr (.inr (.inr rfl))))))) (fun _=>?_)⟩;show u6 _ _ _;refine Zj e6 ?_;have hs:sz i+1<=200:=hs;have h64:P.length+cP (bkN bk) d i<=64:=h64;refine⟨_,rfl,_,rfl,p,_,1,_,rfl,rfl,SqT.of h,rfl,_,rfl,_,rfl,dN,pl,nx,bk,P,S,q',i,rfl,W,r,by lia,hF,h64,fun t f l H1 k1 hL W1=>?_⟩;have hla:lay (bkN bk) (d+1) (.rep m i) (P.length:Int)=⟨(lay (bkN bk) d i (P.length:Int)).fr || decide (m≠1),(lay (bkN bk) d i (P.length:Int)).fi,(lay (bkN bk) d i (P.length:Int)).la,(lay (bkN bk) d i (P.length:Int)).pl,(lay (bkN bk) d i (P.length:Int)).lk++(if m<=1 then lk2 (lay (bkN bk) d i (P.length:Int)).la (lay (bkN bk) d i (P.length:Int)).fi else [])⟩:=rfl
  have hrr:=Zbc (bkN bk) d i (P.length:Int);have hrl:=ZbJ (bkN bk) d i (P.length:Int);rw[hla] at q;generalize lay (bkN bk) d i (P.length:Int)=r1 at hL W1 hrr hrl q;obtain⟨n1,n2,n3,t1,f1,l1⟩:=hL;refine⟨t,_,rfl,SqT.of t1,rfl,_,_,rfl,_,_,rfl,_,_,rfl,rfl,?_⟩;have fin:∀(H2:Hp),ZR (Ex2 pl nx) H H2->H2 f=some (.lst (r1.fi.map V.int))->H2 l=some (.lst (r1.la.map V.int))->Wl H2 dN pl nx bk (P++r1.pl) (Zb9 S (r1.lk++(if m<=1 then lk2 r1.la r1.fi else [])))->u8 { nx:=fun _ H'=>Q .non H',rt:=Q } [some (.ref dN),some (.ref p),some (.ref pl),some (.ref nx),some (.str (ZbV m)),none,some (.bl r1.fr),some (.ref f),some (.ref l)] H2:=by
   intro H2 k2 f2 l2 W2;refine Zj e8 ?_;have last:∀b:Bool,b=(r1.fr || decide (m≠1))->∀t5,H2 t5=none->Q (.ref t5) (upd H2 t5 (.tup [.bl b,.ref f,.ref l])):=by
    intro b hb t5 ht5;have s5:Zg H2 (upd H2 t5 (.tup [.bl b,.ref f,.ref l])):=Zg.new ht5;exact q t5 f l _ (k2.trans (Zg.keepX s5)) ⟨n1,n2,W2.back k2 ht5,by rw[Zb,hb],s5 _ _ f2,s5 _ _ l2⟩ (W2.same s5)
   refine⟨_,rfl,r1.fr,rfl,?_⟩;cases hb:r1.fr with
   | true=>exact Zdb ⟨_,rfl,_,rfl,(by show 3<=sizeLine;decide),fun t5 ht5=>last true (by rw[hb];rfl) t5 ht5⟩
   | false =>
    refine Zby ⟨_,rfl,rfl,_,rfl,_,rfl,(by show 3<=sizeLine;decide),fun t5 ht5=>last _ ?_ t5 ht5⟩;rw[hb,Bool.false_or];rcases hm with⟨e,e'⟩|⟨e,e'⟩|⟨e,e'⟩
    ·rw[e',e];decide
    ·rw[e',e];decide
    ·rw[e',decide_eq_true (show m≠1 by lia)];decide
  show u7 _ _ _;refine Zj e7 ?_;have hne:(!decide (V.str (ZbV m)=V.str "maybe"))=decide (m<=1):=by
   rcases hm with⟨e,e'⟩|⟨e,e'⟩|⟨e,e'⟩
   ·rw[e',e];decide
   ·rw[e',e];decide
   ·rw[e',decide_eq_false (show ¬ m<=1 by lia)];decide
  refine⟨_,rfl,rfl,_,rfl,Zax (fun z=>?_) (fun z=>?_)⟩
  ·have hm1:m<=1:=of_decide_eq_true (by rw[<- hne];exact z);refine⟨_,rfl,_,rfl,_,rfl,nx,l,f,r1.la,r1.fi,_,rfl,l1,f1,W1.lk,Zcv hrr.2 (by lia) (by lia),Zcv hrr.1 (by lia) (by lia),fun H3 k3 N3=>?_⟩;have W3:=W1.link k3 N3;rw[<- ZaV] at W3;have inE:∀{x:Addr},x ∈ [nx]->x∈Ex2 pl nx:=fun hx=>List.mem_cons_of_mem _ hx;have o3:∀{b:Addr}{o:HO},H b=none->H1 b=some o->H3 b=some o:=fun{b o} hb h=>k3 _ _ (fun z=>W.fresh hb (inE z)) h;exact fin H3 (k1.trans (ZfA k3 fun x hx=>inE hx)) (o3 n1 f1) (o3 n2 l1) (by rw[if_pos hm1];exact W3)
  ·have hm1 : ¬ m<=1:=fun y=>z (hne.trans (decide_eq_true y));exact fin H1 k1 f1 l1 (by rw[if_neg hm1,List.append_nil];exact W1)
def DuD(H':Hp)(t:Addr)(r:Ly):Prop := ∃pl f l nl,H' t=some (.tup [.ref pl,.bl r.fr,.ref f,.ref l,.ref nl])/\PlD H' pl r.pl/\H' f=some (.lst (r.fi.map V.int))/\H' l=some (.lst (r.la.map V.int))/\∃zs ms,H' nl=some (.lst zs)/\PL H' zs ms/\ms.Perm (Zb9 [] r.lk)/\ms.Pairwise fun a b=>Srd.pLt b a=false
def ZjU:Sp:=fun vs H Q _=>∃(b p:Addr)(bk:List (Str×Ex))(e:Ex),vs=[.ref b,.ref p]/\BkA H b bk/\BkG bk 48/\RepE H p e/\sz e<=200/\Ft bk 48 e/\cP (bkN bk) 48 e<=64/\∀t H',Zg H H'->DuD H' t (lay (bkN bk) 48 e 0)->Q (.ref t) H'
theorem ZdP{k n:Int}{l ms:List Int}(h:Ris k n l)(hp:ms.Perm l)(hs:ms.Pairwise (· <= ·)):ms=l :=
 List.Perm.eq_of_pairwise (fun _ _ _ _ h1 h2=>Int.le_antisymm h1 h2) hs (h.1.imp fun hab=>Int.le_of_lt hab) hp
set_option maxHeartbeats 2000000 in
theorem ZiY(B:∀x∈ZcE,mg x=none)(g_l_laid:Has P w K mg base "_law_laid" ["_law_names","_law_expr","_law_places","_law_linked_here"] 97 (Ze5 48)) (F:Fun K "_law_due" "_law_due" ZaO f fd):FnOk P w K mg base CX0 98 f fd ["_law_book_here","_law_expr"] ZjU:=by
 refine F.ok Za1 (fun vs H Q E h=>?_) (fun cdv A outer s H vs Q E hr h=>?_)
 ·obtain⟨b,p,bk,e,rfl,_⟩:=h;rfl
 obtain⟨b,p,bk,e,rfl,⟨o,ws,hb,ho,hP⟩,hG,hR,hs,hF,hc,q⟩:=h;have hu1:(A.deeper (PyProof.Rows.envOfC (Str.ofString "_law_due") (Zh ZaO) s.heap.objs.size f cdv)).units+1<cLine:=by have:=hr.un;lia
 have hwl:ws.length=bk.length:=Paired.length hP;obtain⟨kvs,hk1,hk2,hk3⟩:=Zfs hP;have hkl:ws.length=kvs.length:=Paired.length hk2;have h8:=hG.l8;have hnk:(kvs.map (·.1)).Nodup:=by
  rw[hk1,show(bk.map fun x=>(Sum.inr x.1:Key))=(bk.map (·.1)).map Sum.inr by rw[List.map_map];rfl];exact List.pairwise_map.mpr (hG.nd.imp fun{x y} hxy z=>hxy (Sum.inr.inj z))
 have hS:∀H2,Zg H H2->SqT K H2 b ws:=fun H2 s2=>.inl (.inr ⟨o,s2 _ _ hb⟩);refine Zm ((Zc ZaO).drop 5) (Zk (ZC (Z0 (Za (pv 5) (Za (pv 7) (Za (Zz (ZcL rfl) rfl (B "sorted" (by decide)) Zch (Za (pv 8) Zf)) (Za (Zz (ZcL rfl) rfl (B "sorted" (by decide)) Zch (Za (pv 9) Zf)) (Za (Zz (ZbZ rfl) rfl (B "sorted" (by decide)) Zch (Za (pv 6) Zf)) Zf)))))))) (fun u5 h5 e5=>?_);refine Zm ((Zc ZaO).drop 4) (Zd (ZcO (Zaa g_l_laid hr rfl (Za (pv 2) (Za (pv 1) (Za (pv 5) (Za (pv 6) Zf))))) (Zdj rfl (Zaj (ZL (i:=7) Za1.nd rfl (Or.inl rfl)) (Zaj (ZL (i:=8) Za1.nd rfl (Or.inl rfl)) (Zaj (ZL (i:=9) Za1.nd rfl (Or.inl rfl)) Zb4))))) h5) (fun u4 h4 e4=>?_);refine Zm ((Zc ZaO).drop 3) (Zd (Zx (i:=6) Za1.nd rfl (Or.inl rfl) Zge) h4) (fun u3 h3 e3=>?_);refine Zm ((Zc ZaO).drop 2) (Zd (Zx (i:=5) Za1.nd rfl (Or.inl rfl) (Zas Zf)) h3) (fun u2 h2 e2=>?_);refine Zm ((Zaq ((Zc ZaO).getD 1 (.Pass ⟨0,0,0,0⟩))).drop 0) (Zk (Zdx hu1 (pv 2) (pv 3) (pv 4) rfl)) (fun u1_0 h1_0 e1_0=>?_);refine Zm ((Zc ZaO).drop 1) (Zd (ZaZ PassesOwn.never rfl (ZbX (pv 0)) (Zdj rfl (Zaj (ZL (i:=3) Za1.nd rfl (Or.inl rfl)) (Zaj (ZL (i:=4) Za1.nd rfl (Or.inl rfl)) Zb4)))
   h1_0) h2) (fun u1 h1 e1=>?_)
 refine Zm ((Zc ZaO).drop 0) (Zd (Zx (i:=2) Za1.nd rfl (Or.inl rfl) Zem) h1) (fun u0 h0 e0=>?_);refine⟨u0,h0,?_⟩;refine Zj e0 ?_;refine fun d hd=>?_;have s1:Zg H (upd H d (.dK [])):=Zg.new hd;have x1:upd H d (.dK []) d=some (.dK (kvs.take 0)):=Zb;generalize upd H d (.dK [])=H1 at s1 x1 ⊢;show u1 _ _ _;refine Zj e1 ?_;refine⟨_,rfl,b,rfl,⟨ws,hS _ s1⟩,Zb6 (K:=K) (a:=b) (xs:=ws) (fun i σ H2=>∃(v3 v4:Option V),σ =[some (.ref b),some (.ref p),some (.ref d),v3,v4,none,none,none,none,none]/\Zg H H2/\H2 d=some (.dK (kvs.take i)))
  ⟨none,none,rfl,s1,x1⟩ ?_ ?_ ?_⟩
 ·rintro i σ H2 _ ⟨v3,v4,_,sm,_⟩;exact hS _ sm
 ·rintro i x σ H2 hx ⟨v3,v4,rfl,sm,hd2⟩;obtain⟨kv,hkv,tt,rfl,f1⟩:=ZbO hk2 hx;obtain⟨hi1,hi2⟩:=List.getElem?_eq_some_iff.mp hkv;refine⟨tt,_,rfl,SqT.of (sm _ _ f1),rfl,_,_,rfl,_,_,rfl,rfl,?_⟩;show u1_0 _ _ _;refine Zj e1_0 ?_;have hnone:Zbs (kvs.take i) kv.1=none:=by
   rw[<- Option.not_isSome_iff_eq_none,<- ZaQ,List.any_eq_true];rintro⟨y,hy,e⟩;have e':=of_decide_eq_true e;have hsp:kvs=kvs.take i++kvs.drop i:=(List.take_append_drop i kvs).symm;rw[hsp,List.map_append,List.nodup_append] at hnk;refine hnk.2.2 y.1 (List.mem_map.mpr ⟨y,hy,rfl⟩) kv.1 (List.mem_map.mpr ⟨kv,?_,rfl⟩) e';rw[<- hi2,List.drop_eq_getElem_cons hi1];exact List.mem_cons_self ..
  have hput:putK (kvs.take i) kv.1 kv.2=kvs.take (i+1):=by
   rw[Zc3 _ hnone,List.take_succ_eq_append_getElem hi1,hi2]
  refine⟨_,rfl,_,rfl,_,rfl,d,_,rfl,Zg6.k (k:=kv.1) hd2 (Z4 (by rw[List.length_take];lia)),_,_,rfl,?_,?_⟩
  ·intro c o' hc;rw[Zu (Zq hc hd)];exact sm _ _ hc
  ·rw[Zb,hput]
 rintro σ H2 ⟨v3,v4,rfl,s2,hd2⟩;rw[hkl,List.take_length] at hd2;show u2 _ _ _;refine Zj e2 ?_;refine⟨(by show 0<=sizeLine;decide),fun pl hpl=>?_⟩;have s3:Zg H2 (upd H2 pl (.lst [])):=Zg.new hpl;have x3:upd H2 pl (.lst []) pl=some (.lst []):=Zb;generalize upd H2 pl (.lst [])=H3 at s3 x3 ⊢;show u3 _ _ _;refine Zj e3 ?_;refine fun nx hnx=>?_;have s4:Zg H3 (upd H3 nx (.dT [])):=Zg.new hnx;have x4:upd H3 nx (.dT []) nx=some (.dT []):=Zb;generalize upd H3 nx (.dT [])=H4 at s4 x4 ⊢;have s24:=s3.trans s4;have s04:=s2.trans s24;have W4:Wl H4 d pl nx bk [] []:=⟨⟨kvs,s24 _ _ hd2,fun n hn=>by
  obtain⟨q,e1,e2⟩:=Zfo hk3 hn;exact⟨q,e1,e2.mono s04.tk⟩⟩,⟨[],s4 _ _ x3,.nil⟩,⟨[],x4,rfl,List.nodup_nil,fun _ h=>nomatch h⟩,fun n hn=>by
  obtain⟨x,hx,rfl⟩:=List.mem_map.mp hn;rw[ZcR hG.nd hx];exact hG.sz x hx⟩
 have back:∀{H':Hp},ZR (Ex2 pl nx) H4 H'->Zg H H':=fun{H'} k b' o' hb'=>k _ _ (fun z=>by
  rcases List.mem_cons.mp z with z|z
  ·rw[z,s2.free hpl] at hb';cases hb'
  rw[List.mem_singleton.mp z,(s2.trans s3).free hnx] at hb';cases hb') (s04 _ _ hb')
 show u4 _ _ _;refine Zj e4 ?_;refine⟨_,rfl,_,rfl,_,rfl,_,rfl,d,pl,nx,bk,[],[],p,e,rfl,W4,hR.mono s04.tk,hs,hF,by show 0+_<=64;lia,fun t f l H5 k5 hL W5=>?_⟩;have e0:(([]:List (Str×Ex)).length:Int)=0:=rfl;rw[e0] at hL W5;obtain⟨m1,m2,m3,t5,f5,l5⟩:=hL;have W5:Wl H5 d pl nx bk (lay (bkN bk) 48 e 0).pl (Zb9 [] (lay (bkN bk) 48 e 0).lk):=W5;have hrr:=Zbc (bkN bk) 48 e 0;have hrl:=ZbJ (bkN bk) 48 e 0;generalize lay (bkN bk) 48 e 0=r at q t5 f5 l5 W5 hrr hrl;have y1:=Zaw hrr.1;have y2:=Zaw hrr.2;refine⟨t,_,rfl,SqT.of t5,rfl,_,_,rfl,_,_,rfl,_,_,rfl,rfl,?_⟩;show u5 _ _ _;refine Zj e5 ?_;have H0:=back k5;obtain⟨kn,hnx5,hkn,hSn,hSb⟩:=id W5.lk;have hfew:=ZdF (by decide) hSn hSb;have hkl:kn.length=(Zb9 [] r.lk).length:=by
  have:=congrArg List.length hkn;rw[List.length_map,List.length_map] at this;exact this
 refine⟨_,rfl,_,rfl,_,rfl,.inr ⟨f,r.fi,rfl,SqL.of f5,by lia,fun f6 ms6 hf6 hpw hperm=>?_⟩⟩;obtain rfl:=ZdP hrr.1 hperm hpw;have s6:Zg H5 (upd H5 f6 (.lst (r.fi.map V.int))):=Zg.new hf6;have x6:upd H5 f6 (.lst (r.fi.map V.int)) f6=some (.lst (r.fi.map V.int)):=Zb;generalize upd H5 f6 (.lst (r.fi.map V.int))=H6 at s6 x6 ⊢;refine⟨_,rfl,.inr ⟨l,r.la,rfl,SqL.of (s6 _ _ l5),by lia,fun l7 ms7 hl7 hpw hperm=>?_⟩⟩;obtain rfl:=ZdP hrr.2 hperm hpw;have s7:Zg H6 (upd H6 l7 (.lst (r.la.map V.int))):=Zg.new hl7;have x7:upd H6 l7 (.lst (r.la.map V.int)) l7=some (.lst (r.la.map V.int)):=Zb;generalize upd H6 l7 (.lst (r.la.map V.int))=H7 at s7 x7 ⊢;have s57:=s6.trans s7;refine⟨_,rfl,nx,kn,Zb9 [] r.lk,rfl,s57 _ _ hnx5,by lia,hkn,fun n8 zs ms hn8 hperm hpw hPL=>?_⟩;have s8:Zg H7 (upd H7 n8 (.lst zs)):=Zg.new hn8;have x8:upd H7 n8 (.lst zs) n8=some (.lst zs):=Zb;have hPL8:PL (upd H7 n8 (.lst zs)) zs ms:=hPL.keep s8.tk;generalize upd H7 n8 (.lst zs)=H8 at s8 x8 hPL8 ⊢;refine⟨(by show 5<=sizeLine;decide),fun t9 ht9=>?_⟩;have s9:Zg H8 (upd H8 t9 (.tup [.ref pl,.bl r.fr,.ref f6,.ref l7,.ref n8])):=Zg.new ht9;have s59:=(s57.trans s8).trans s9;exact q t9 _ (H0.trans s59) ⟨pl,f6,l7,n8,Zb,W5.ps.same s59,s9 _ _ (s8 _ _ (s7 _ _ x6)),s9 _ _ (s8 _ _ x7),zs,ms,s9 _ _ x8,hPL8.keep s9.tk,hperm,hpw⟩
inductive Ak(H:Hp):Nat->V->V->Prop
 | bl {d:Nat} {b:Bool}:Ak H (d+1) (.bl b) (.bl b)
 | int {d:Nat} {i:Int}:Ak H (d+1) (.int i) (.int i)
 | str {d:Nat} {s:Str}:Ak H (d+1) (.str s) (.str s)
 | lst {d:Nat} {p q:Addr} {xs ys:List V}:H p=some (.lst xs)->H q=some (.lst ys)->xs.length=ys.length->xs.length<=90000->(∀(i:Nat) x y,xs[i]?= some x->ys[i]?= some y->Ak H d x y)->Ak H (d+1) (.ref p) (.ref q)
 | tup {d:Nat} {p q:Addr} {xs ys:List V}:H p=some (.tup xs)->H q=some (.tup ys)->xs.length=ys.length->xs.length<=90000->(∀(i:Nat) x y,xs[i]?= some x->ys[i]?= some y->Ak H d x y)->Ak H (d+1) (.ref p) (.ref q)
theorem Ak.up{H:Hp}{d:Nat}{x y:V}(h:Ak H d x y):∀{e:Nat},d<=e->Ak H e x y:=by
 induction h with
 | bl =>
  intro e he;obtain⟨e,rfl⟩:∃e',e=e'+1:=⟨e-1,by lia⟩;exact .bl
 | int =>
  intro e he;obtain⟨e,rfl⟩:∃e',e=e'+1:=⟨e-1,by lia⟩;exact .int
 | str =>
  intro e he;obtain⟨e,rfl⟩:∃e',e=e'+1:=⟨e-1,by lia⟩;exact .str
 | lst h1 h2 h3 h4 _ ih =>
  intro e he;obtain⟨e,rfl⟩:∃e',e=e'+1:=⟨e-1,by lia⟩;exact .lst h1 h2 h3 h4 fun i x y a b=>ih i x y a b (by lia)
 | tup h1 h2 h3 h4 _ ih =>
  intro e he;obtain⟨e,rfl⟩:∃e',e=e'+1:=⟨e-1,by lia⟩;exact .tup h1 h2 h3 h4 fun i x y a b=>ih i x y a b (by lia)
theorem Ak.two{H:Hp}{d:Nat}{p q:Addr}{a b a' b':V}(h1:H p=some (.tup [a,b]))(h2:H q=some (.tup [a',b']))(k1:Ak H d a a')(k2:Ak H d b b'):Ak H (d+1) (.ref p) (.ref q) :=
 .tup h1 h2 rfl (by show 2<=90000;decide) fun i x y hx hy=>by
  match i,hx,hy with
  | 0,hx,hy=>cases hx;cases hy;exact k1
  | 1,hx,hy=>cases hx;cases hy;exact k2
  | i+2,hx,_=>simp at hx
mutual
theorem ZiX{H:Hp}:∀{e:Ex}{p q:Addr},sz e<=200->RepE H p e->RepE H q e->Ak H (2*dp e+2) (.ref p) (.ref q)
 | .nil,_,_,_,.nil h1,.nil h2=>.tup h1 h2 rfl (by show 1<=90000;decide) fun i x y hx hy=>by
  match i,hx,hy with
  | 0,hx,hy=>cases hx;cases hy;exact .str
  | i+1,hx,_=>simp at hx
 | .name n,_,_,_,.name h1,.name h2=>.two h1 h2 .str .str
 | .tag t i,_,_,hs,.tag h1 r1,.tag h2 r2=>by
  have hs:sz i+1<=200:=hs;have:=ZiX (e:=i) (by lia) r1 r2;refine(Ak.tup h1 h2 rfl (by show 3<=90000;decide) (d:=2*dp i+2) fun j x y hx hy=>?_).up (by show _<=2*(dp i+1)+2;lia)
  match j,hx,hy with
  | 0,hx,hy=>cases hx;cases hy;exact .str
  | 1,hx,hy=>cases hx;cases hy;exact .str
  | 2,hx,hy=>cases hx;cases hy;exact this
  | j+3,hx,_=>simp at hx
 | .several b ps,_,_,hs,.several h1 h3 r1,.several h2 h4 r2=>by
  have hs:szs ps+1<=200:=hs;have hc:=Zcs ps;have:=Zjj (ps:=ps) (by lia) r1 r2;refine(Ak.two h1 h2 .str (Ak.tup h3 h4 (by rw[r1.length,r2.length]) (by rw[r1.length];lia) this)).up ?_;show 2*dps ps+2+1+1<=2*(dps ps+1)+2;lia
 | .rep m e,_,_,hs,.rep h1 r1,.rep h2 r2=>by
  have hs:sz e+1<=200:=hs;exact(Ak.two h1 h2 .str (ZiX (e:=e) (by lia) r1 r2)).up (by show _<=2*(dp e+1)+2;lia)
theorem Zjj{H:Hp}:∀{ps:Exs}{xs ys:List V},szs ps<=200->RepEs H xs ps->RepEs H ys ps->∀(i:Nat) x y,xs[i]?= some x->ys[i]?= some y->Ak H (2*dps ps+2) x y
 | .nil,_,_,_,.nil,.nil,i,x,y,hx,_=>by simp at hx
 | .cons e r,_,_,hs,.cons h1 r1,.cons h2 r2,i,x,y,hx,hy=>by
  have hs:sz e+szs r<=200:=hs;have hm:dp e<=dps (.cons e r)/\dps r<=dps (.cons e r):=by
   show dp e<=max (dp e) (dps r)/\dps r<=max (dp e) (dps r);lia
  match i,hx,hy with
  | 0,hx,hy =>
   cases hx;cases hy;exact(ZiX (e:=e) (by lia) h1 h2).up (by lia)
  | i+1,hx,hy=>exact(Zjj (ps:=r) (by lia) r1 r2 i x y (by simpa using hx) (by simpa using hy)).up (by lia)
end
theorem ZkT{X:Cx}{K:PySem.W.Frag}(h:X.K=K):IxR X (fun x y H Q=>ZlO K x y H Q\/ZlZ K x y H Q):=by
 subst h;intro value slice pins s σ H x y v u Q I rx ry h hs;rcases h with h|h
 ·exact ZW value slice pins s σ H x y v u Q I rx ry h hs
 ·exact Zv value slice pins s σ H x y v u Q I rx ry h hs
def Zee(d:Nat):Sp:=fun vs H Q _=>∃x y,vs=[x,y]/\Ak H d x y/\Q (.bl true) H
set_option maxHeartbeats 2000000 in
theorem Zgp(d:Nat)(B:∀x∈ZcE,mg x=none)(g_l_alike:Has P w K mg base "_law_alike" ["_law_told","_law_due_here"] d (Zee d)) (F:Fun K "_law_alike" "_law_alike" Zaf f fd):FnOk P w K mg base CX0 (d+1) f fd ["_law_told","_law_due_here"] (Zee (d+1)):=by
 refine F.ok ZdX (fun vs H Q E h=>?_) (fun cdv A outer s H vs Q E hr h=>?_)
 ·obtain⟨x,y,rfl,_⟩:=h;rfl
 obtain⟨x,y,rfl,hA,q⟩:=h;refine Zm ((Zc Zaf).drop 7) (Zk (ZC Zbg)) (fun u7 h7 e7=>?_);refine Zm ((Zaq ((Zc Zaf).getD 6 (.Pass ⟨0,0,0,0⟩))).drop 0) (Zk (Zah (ZeG (ZaG (Zaa g_l_alike hr rfl (Za (Zr (K27.ZkT (K:=K) rfl) (pv 0) (pv 2) (fun _ _=>rfl)) (Za (Zr (K27.ZkT (K:=K) rfl) (pv 1) (pv 2) (fun _ _=>rfl)) Zf)) (by lia)) (fun _=>rfl)))
   (Zk (ZC Zbg))
   Zy)) (fun u6_0 h6_0 e6_0=>?_)
 refine Zm ((Zc Zaf).drop 6) (Zd (ZaZ PassesOwn.never rfl (Zbd rfl (B "range" (by decide)) (Za (Zz Z1 rfl (B "len" (by decide)) PySem.boot_len (Za (pv 1) Zf)) Zf)) (ZL (i:=2) ZdX.nd rfl (Or.inl rfl))
   h6_0) h7) (fun u6 h6 e6=>?_)
 refine Zm ((Zc Zaf).drop 5) (Zd (Zah (ZD ZiV (Zz Z1 rfl (B "len" (by decide)) PySem.boot_len (Za (pv 0) Zf)) (Zz Z1 rfl (B "len" (by decide)) PySem.boot_len (Za (pv 1) Zf)) (ZV _))
   (Zk (ZC Zbg))
   Zy) h6) (fun u5 h5 e5=>?_)
 refine Zm ((Zc Zaf).drop 4) (Zd (Zah (PW.pt (ZcQ (ZaG (Zz (Z6 (K:=K) rfl) rfl (B "isinstance" (by decide)) ZS (Za (pv 1) (Za (ZcX rfl (B "tuple" (by decide)) Zbf) Zf))) (fun _=>rfl)) (Zb7 (ZeG (ZaG (Zz (Z6 (K:=K) rfl) rfl (B "isinstance" (by decide)) ZS (Za (pv 0) (Za (ZcX rfl (B "tuple" (by decide)) Zbf) Zf))) (fun _=>rfl))))))
   (Zk (ZC Zbg))
   Zy) h5) (fun u4 h4 e4=>?_)
 refine Zm ((Zc Zaf).drop 3) (Zd (Zah (PW.pt (ZcQ (ZaG (Zz (Z6 (K:=K) rfl) rfl (B "isinstance" (by decide)) ZS (Za (pv 1) (Za (ZcX rfl (B "list" (by decide)) Zd7) Zf))) (fun _=>rfl)) (Zb7 (ZeG (ZaG (Zz (Z6 (K:=K) rfl) rfl (B "isinstance" (by decide)) ZS (Za (pv 0) (Za (ZcX rfl (B "list" (by decide)) Zd7) Zf))) (fun _=>rfl))))))
   (Zk (ZC Zbg))
   Zy) h4) (fun u3 h3 e3=>?_)
 refine Zm ((Zc Zaf).drop 2) (Zd (Zah (ZaG (Zz (Z6 (K:=K) rfl) rfl (B "isinstance" (by decide)) ZS (Za (pv 1) (Za (ZcX rfl (B "str" (by decide)) Zjl) Zf))) (fun _=>rfl))
   (Zk (ZC (ZcM (Zz (Z6 (K:=K) rfl) rfl (B "isinstance" (by decide)) ZS (Za (pv 0) (Za (ZcX rfl (B "str" (by decide)) Zjl) Zf))) (ZbY (Za7 ZaN (pv 0) (pv 1) (ZV _))))))
   Zy) h3) (fun u2 h2 e2=>?_)
 refine Zm ((Zc Zaf).drop 1) (Zd (Zah (ZaG (Zz (Z6 (K:=K) rfl) rfl (B "isinstance" (by decide)) ZS (Za (pv 1) (Za (ZcX rfl (B "int" (by decide)) ZdT) Zf))) (fun _=>rfl))
   (Zk (ZC (ZcM (Zz (Z6 (K:=K) rfl) rfl (B "isinstance" (by decide)) ZS (Za (pv 0) (Za (ZcX rfl (B "int" (by decide)) ZdT) Zf))) (ZcM (ZkD (Zz (Z6 (K:=K) rfl) rfl (B "isinstance" (by decide)) ZS (Za (pv 0) (Za (ZcX rfl (B "bool" (by decide)) Zfx) Zf)))) (ZbY (Za7 ZaN (pv 0) (pv 1) (ZV _)))))))
   Zy) h2) (fun u1 h1 e1=>?_)
 refine Zm ((Zc Zaf).drop 0) (Zd (Zah (ZaG (Zz (Z6 (K:=K) rfl) rfl (B "isinstance" (by decide)) ZS (Za (pv 1) (Za (ZcX rfl (B "bool" (by decide)) Zfx) Zf))) (fun _=>rfl))
   (Zk (ZC (ZcM (Zz (Z6 (K:=K) rfl) rfl (B "isinstance" (by decide)) ZS (Za (pv 0) (Za (ZcX rfl (B "bool" (by decide)) Zfx) Zf))) (ZbY (Za7 ZaN (pv 0) (pv 1) (ZV _))))))
   Zy) h1) (fun u0 h0 e0=>?_)
 refine⟨u0,h0,?_⟩;refine Zj e0 ?_;cases hA with
 | @bl _ b =>
  refine⟨_,rfl,.bl b,"bool",_,true,rfl,.bl b,rfl,true,rfl,Zdb ?_⟩;refine⟨_,rfl,.bl b,"bool",_,true,rfl,.bl b,rfl,true,rfl,Zdb ?_⟩;refine⟨_,rfl,_,rfl,rfl,?_⟩;rw[decide_eq_true rfl];exact q
 | @int _ i =>
  refine⟨_,rfl,.int i,"bool",_,false,rfl,.int i,rfl,false,rfl,Zby ?_⟩;show u1 _ _ _;refine Zj e1 ?_;refine⟨_,rfl,.int i,"int",_,true,rfl,.int i,rfl,true,rfl,Zdb ?_⟩;refine⟨_,rfl,.int i,"int",_,true,rfl,.int i,rfl,true,rfl,Zdb ?_⟩;refine⟨_,rfl,.int i,"bool",_,false,rfl,.int i,rfl,false,rfl,true,rfl,Zdb ?_⟩;refine⟨_,rfl,_,rfl,rfl,?_⟩;rw[decide_eq_true rfl];exact q
 | @str _ z =>
  refine⟨_,rfl,.str z,"bool",_,false,rfl,.str z,rfl,false,rfl,Zby ?_⟩;show u1 _ _ _;refine Zj e1 ?_;refine⟨_,rfl,.str z,"int",_,false,rfl,.str z,rfl,false,rfl,Zby ?_⟩;show u2 _ _ _;refine Zj e2 ?_;refine⟨_,rfl,.str z,"str",_,true,rfl,.str z,rfl,true,rfl,Zdb ?_⟩;refine⟨_,rfl,.str z,"str",_,true,rfl,.str z,rfl,true,rfl,Zdb ?_⟩;refine⟨_,rfl,_,rfl,rfl,?_⟩;rw[decide_eq_true rfl];exact q
 | @lst _ p qa xs ys h1 h2 h3 h4 k =>
  refine⟨_,rfl,.ref qa,"bool",_,false,rfl,.lst h2,rfl,false,rfl,Zby ?_⟩;show u1 _ _ _;refine Zj e1 ?_;refine⟨_,rfl,.ref qa,"int",_,false,rfl,.lst h2,rfl,false,rfl,Zby ?_⟩;show u2 _ _ _;refine Zj e2 ?_;refine⟨_,rfl,.ref qa,"str",_,false,rfl,.lst h2,rfl,false,rfl,Zby ?_⟩;show u3 _ _ _;refine Zj e3 ?_;refine⟨_,rfl,.ref qa,"list",_,true,rfl,.lst h2,rfl,true,rfl,Zdb ⟨_,rfl,.ref p,"list",_,true,rfl,.lst h1,rfl,true,rfl,Zby ?_⟩⟩;show u4 _ _ _;refine Zj e4 ?_;refine⟨_,rfl,.ref qa,"tuple",_,false,rfl,.lst h2,rfl,false,rfl,Zby (Zby ?_)⟩;show u5 _ _ _;refine Zj e5 ?_;refine⟨_,rfl,p,_,rfl,.inl (SqL.of h1),_,rfl,qa,_,rfl,.inl (SqL.of h2),rfl,_,rfl,Zax (fun z=>absurd z (by rw[h3];simp)) (fun _=>?_)⟩;show u6 _ _ _;refine Zj e6 ?_;refine⟨_,rfl,qa,_,rfl,.inl (SqL.of h2),_,rfl,by lia,by lia,ZbK (lo:=0) (fun i σ H1=>∃(v2:Option V),σ =[some (.ref p),some (.ref qa),v2]/\H1=H) ⟨none,rfl,rfl⟩ ?_ ?_⟩
  ·rintro i σ H1 hi ⟨v2,rfl,rfl⟩;rw[Int.toNat_natCast] at hi;have hx:xs[i]?= some xs[i]:=List.getElem?_eq_getElem (by lia);have hy:ys[i]?= some ys[i]:=List.getElem?_eq_getElem (by lia);have ax:atI xs (0+(i:Int))=some xs[i]:=by rw[Int.zero_add];exact Zad hx
   have ay:atI ys (0+(i:Int))=some ys[i]:=by rw[Int.zero_add];exact Zad hy
   show u6_0 _ _ _;refine Zj e6_0 ?_;exact⟨_,rfl,_,rfl,.inl ⟨p,_,_,_,rfl,rfl,SqL.of h1,ax,_,rfl,_,rfl,.inl ⟨qa,_,_,_,rfl,rfl,SqL.of h2,ay,xs[i],ys[i],rfl,k i _ _ hx hy,true,rfl,Zby ⟨_,rfl,rfl⟩⟩⟩⟩
  ·rintro σ H1 ⟨v2,rfl,rfl⟩;show u7 _ _ _;exact Zj e7 q
 | @tup _ p qa xs ys h1 h2 h3 h4 k =>
  refine⟨_,rfl,.ref qa,"bool",_,false,rfl,.tup h2,rfl,false,rfl,Zby ?_⟩;show u1 _ _ _;refine Zj e1 ?_;refine⟨_,rfl,.ref qa,"int",_,false,rfl,.tup h2,rfl,false,rfl,Zby ?_⟩;show u2 _ _ _;refine Zj e2 ?_;refine⟨_,rfl,.ref qa,"str",_,false,rfl,.tup h2,rfl,false,rfl,Zby ?_⟩;show u3 _ _ _;refine Zj e3 ?_;refine⟨_,rfl,.ref qa,"list",_,false,rfl,.tup h2,rfl,false,rfl,Zby (Zby ?_)⟩;show u4 _ _ _;refine Zj e4 ?_;refine⟨_,rfl,.ref qa,"tuple",_,true,rfl,.tup h2,rfl,true,rfl,Zdb ⟨_,rfl,.ref p,"tuple",_,true,rfl,.tup h1,rfl,true,rfl,Zby ?_⟩⟩;show u5 _ _ _;refine Zj e5 ?_;refine⟨_,rfl,p,_,rfl,.inr (SqT.of h1),_,rfl,qa,_,rfl,.inr (SqT.of h2),rfl,_,rfl,Zax (fun z=>absurd z (by rw[h3];simp)) (fun _=>?_)⟩;show u6 _ _ _;refine Zj e6 ?_;refine⟨_,rfl,qa,_,rfl,.inr (SqT.of h2),_,rfl,by lia,by lia,ZbK (lo:=0) (fun i σ H1=>∃(v2:Option V),σ =[some (.ref p),some (.ref qa),v2]/\H1=H) ⟨none,rfl,rfl⟩ ?_ ?_⟩
  ·rintro i σ H1 hi ⟨v2,rfl,rfl⟩;rw[Int.toNat_natCast] at hi;have hx:xs[i]?= some xs[i]:=List.getElem?_eq_getElem (by lia);have hy:ys[i]?= some ys[i]:=List.getElem?_eq_getElem (by lia);have ax:atI xs (0+(i:Int))=some xs[i]:=by rw[Int.zero_add];exact Zad hx
   have ay:atI ys (0+(i:Int))=some ys[i]:=by rw[Int.zero_add];exact Zad hy
   show u6_0 _ _ _;refine Zj e6_0 ?_;exact⟨_,rfl,_,rfl,.inr ⟨p,_,_,_,rfl,rfl,SqT.of h1,ax,_,rfl,_,rfl,.inr ⟨qa,_,_,_,rfl,rfl,SqT.of h2,ay,xs[i],ys[i],rfl,k i _ _ hx hy,true,rfl,Zby ⟨_,rfl,rfl⟩⟩⟩⟩
  ·rintro σ H1 ⟨v2,rfl,rfl⟩;show u7 _ _ _;exact Zj e7 q
theorem Zek:bootBuiltins "ValueError" = some (.type "ValueError"):=by decide +kernel
def Kp(H H':Hp):Prop := ∀b o,H b=some o->(∀x,o ≠ .ext x)->H' b=some o
theorem Kp.same{H H':Hp}(s:Zg H H'):Kp H H':=fun b o h _=>s b o h
theorem Kp.trans{H H1 H2:Hp}(a:Kp H H1)(b:Kp H1 H2):Kp H H2:=fun c o h n=>b c o (a c o h n) n
theorem Kp.ext{H H1:Hp}{e:Addr}{x:Heap->Prop}{o:HO}(a:Kp H H1)(h:H1 e=some (.ext x)):Kp H (upd H1 e o):=fun b u q n=>by
 have q1:=a b u q n;have:b≠e:=fun z=>by
  rw[z,h] at q1;exact n x (Option.some.inj q1).symm
 rw[Zu this];exact q1
theorem Kp.tk{H H':Hp}(k:Kp H H'):TK H H':=fun b xs e=>k b _ e fun _ z=>nomatch z
theorem BkA.kp{H H':Hp}{b:Addr}{bk:List (Str×Ex)}(h:BkA H b bk)(k:Kp H H'):BkA H' b bk:=by
 obtain⟨o,ws,h1,h2,h3⟩:=h;exact⟨o,ws,k _ _ h1 (fun _ z=>(nomatch z)),h2,Plc.tk k.tk h3⟩
theorem CnD.kp{H H':Hp}{d:Addr}{bk:List (Str×Ex)}{ks:List Str}(h:CnD H d bk ks)(k:Kp H H'):CnD H' d bk ks:=by
 obtain⟨kvs,h1,h2⟩:=h;exact⟨kvs,k _ _ h1 (fun _ z=>(nomatch z)),h2⟩
theorem JtD.same{H H1 H2:Hp}{t pl f l nl:Addr}{r:Ly}(h:JtD H H1 t pl f l nl r)(s:Zg H1 H2):JtD H H2 t pl f l nl r:=by
 obtain⟨a1,a2,a3,a4,b1,b2,b3,b4,b5,b6,c1,c2,c3,c4,zs,ms,c5,cl,c6,c7⟩:=h;exact⟨a1,a2,a3,a4,b1,b2,b3,b4,b5,b6,s _ _ c1,c2.same s,s _ _ c3,s _ _ c4,zs,ms,s _ _ c5,cl,c6.keep s.tk,c7⟩
def ZfG:Sp:=fun vs H Q _=>∃(b p:Addr)(bk:List (Str×Ex))(e:Ex),vs=[.ref b,.ref p]/\BkA H b bk/\BkG bk 48/\RepE H p e/\sz e<=200/\Ft bk 48 e /\
 (64<cP (bkN bk) 48 e->∀tp H',Kp H H'->H' tp=some (.tup [.non,.bl true])->Q (.ref tp) H') /\
 (cP (bkN bk) 48 e<=64->∀tp t pl f l nl H',Zg H H'->JtD H H' t pl f l nl (lay (bkN bk) 48 e 0)->H' tp=some (.tup [.ref t,.non])->Q (.ref tp) H')
set_option maxHeartbeats 4000000 in
theorem ZgO(B:∀x∈ZcE,mg x=none)(xc:XC K mg X_GroveError X_TooMany X_BadForm X_NoBook X_NoName X_Ring X_TooBig X_TwiceNamed)(g_joints:HasX P w K mg base "joints" ["book","expr"] 146 (Zeq 48 X_TooMany)) (F:Fun K "_law_asked" "_law_asked" ZaJ f fd):FnOk P w K mg base CX0 147 f fd ["_law_book_here","_law_expr"] ZfG:=by
 refine F.ok Za3 (fun vs H Q E h=>?_) (fun cdv A outer s H vs Q E hr h=>?_)
 ·obtain⟨b,p,bk,e,rfl,_⟩:=h;rfl
 obtain⟨b,p,bk,e,rfl,hB,hG,hR,hs,hF,q1,q2⟩:=h;refine Zm ((Zc ZaJ).drop 3) (Zk (ZC (Z0 (Za (pv 2) (Za (pv 3) Zf))))) (fun u3 h3 e3=>?_);refine Zm ((Zc ZaJ).drop 2) (Zd (ZkF rfl rfl (fun E pins E₁ hT hp=>(Zk (Zx (i:=2) Za3.nd rfl (Or.inl rfl) (Zkn g_joints hT hr rfl (Za (pv 0) (Za (pv 1) Zf))))))
   (Zks (fun e=>(Z0 (Za (Zbw (v:=.ref X_BadForm) rfl xc.n_BadForm rfl) (Za (Zbw (v:=.ref X_NoBook) rfl xc.n_NoBook rfl) (Za (Zbw (v:=.ref X_NoName) rfl xc.n_NoName rfl) (Za (Zbw (v:=.ref X_Ring) rfl xc.n_Ring rfl) (Za (Zbw (v:=.ref X_TooBig) rfl xc.n_TooBig rfl) (Za (Zbw (v:=.ref X_TwiceNamed) rfl xc.n_TwiceNamed rfl) Zf))))))))
   (Zl6 (i:=4) (rest:=[]) (fun e=>(Zbw (v:=.ref X_TooMany) rfl xc.n_TooMany rfl)) Za3.nd rfl rfl (fun e=>(Zk (Zx (i:=3) Za3.nd rfl (Or.inl rfl) (ZcM (Zz (ZgL (K:=K) rfl) rfl (B "isinstance" (by decide)) ZS (Za (pv 4) (Za (Zbw (v:=.ref X_GroveError) rfl xc.n_GroveError rfl) Zf))) (ZbY (Zz (ZgN (K:=K) rfl) rfl (B "isinstance" (by decide)) ZS (Za (pv 4) (Za (ZcX rfl (B "ValueError" (by decide)) Zek) Zf))))))))))) h3) (fun u2 h2 e2=>?_)
 refine Zm ((Zc ZaJ).drop 1) (Zd (Zx (i:=3) Za3.nd rfl (Or.inl rfl) Zhe) h2) (fun u1 h1 e1=>?_);refine Zm ((Zc ZaJ).drop 0) (Zd (Zx (i:=2) Za3.nd rfl (Or.inl rfl) Zhe) h1) (fun u0 h0 e0=>?_);refine⟨u0,h0,?_⟩;refine Zj e0 ?_;show u1 _ _ _;refine Zj e1 ?_;show u2 _ _ _;refine Zj e2 ?_;refine⟨fun σ' C d H'=>σ'=[some (.ref b),some (.ref p),some .non,some .non,none]/\Zg H H'/\C=.ref X_TooMany/\64<cP (bkN bk) 48 e,?_,?_⟩
 ·refine⟨_,rfl,_,rfl,b,p,bk,e,rfl,hB,hG,hR,hs,hF,fun hc H' s1=>⟨rfl,s1,rfl,hc⟩,fun hc t pl f l nl H1 s1 hJ=>?_⟩;show u3 _ _ _;refine Zj e3 ?_;refine⟨_,rfl,_,rfl,(by show 2<=sizeLine;decide),fun tp htp=>?_⟩;have s2:Zg H1 (upd H1 tp (.tup [.ref t,.non])):=Zg.new htp;exact q2 hc tp t pl f l nl _ (s1.trans s2) (hJ.same s2) Zb
 rintro σ' C d H' e' oe ⟨rfl,sm,rfl,hcase⟩ he hc hd hf;have k0:Kp H (upd H' e' (Known e' oe)):=(Kp.same sm).ext he;have e3':(upd H' e' (Known e' oe)) e'=some (Known e' oe):=Zb;generalize upd H' e' (Known e' oe)=H1 at k0 e3' ⊢;have mem1:∀{C D:Addr}{b:Bool},PySem.W.mroIn K C (.ref D)=some b->∀E ∈ [D],PySem.W.mroIn K C (.ref E)=some b:=fun h E hE=>by
  rw[List.mem_singleton.mp hE];exact h
 refine⟨(by show 6<=sizeLine;decide),fun tc htc=>?_⟩;have s2:Zg H1 (upd H1 tc (.tup [.ref X_BadForm,.ref X_NoBook,.ref X_NoName,.ref X_Ring,.ref X_TooBig,.ref X_TwiceNamed])):=Zg.new htc;have x2:upd H1 tc (.tup [.ref X_BadForm,.ref X_NoBook,.ref X_NoName,.ref X_Ring,.ref X_TooBig,.ref X_TwiceNamed]) tc=some (.tup [.ref X_BadForm,.ref X_NoBook,.ref X_NoName,.ref X_Ring,.ref X_TooBig,.ref X_TwiceNamed]):=Zb;generalize upd H1 tc (.tup [.ref X_BadForm,.ref X_NoBook,.ref X_NoName,.ref X_Ring,.ref X_TooBig,.ref X_TwiceNamed])=H2 at s2 x2 ⊢;refine⟨[X_BadForm,X_NoBook,X_NoName,X_Ring,X_TooBig,X_TwiceNamed],X_TooMany,.many (SqT.of x2) ?_,hc,?_,s2 _ _ e3',?_⟩
 ·intro D hD;rcases List.mem_cons.mp hD with rfl|hD
  ·exact xc.c_BadForm
  rcases List.mem_cons.mp hD with rfl|hD
  ·exact xc.c_NoBook
  rcases List.mem_cons.mp hD with rfl|hD
  ·exact xc.c_NoName
  rcases List.mem_cons.mp hD with rfl|hD
  ·exact xc.c_Ring
  rcases List.mem_cons.mp hD with rfl|hD
  ·exact xc.c_TooBig
  rw[List.mem_singleton.mp hD];exact xc.c_TwiceNamed
 ·intro D hD;rcases List.mem_cons.mp hD with rfl|hD
  ·exact xc.m_TooMany_BadForm
  rcases List.mem_cons.mp hD with rfl|hD
  ·exact xc.m_TooMany_NoBook
  rcases List.mem_cons.mp hD with rfl|hD
  ·exact xc.m_TooMany_NoName
  rcases List.mem_cons.mp hD with rfl|hD
  ·exact xc.m_TooMany_Ring
  rcases List.mem_cons.mp hD with rfl|hD
  ·exact xc.m_TooMany_TooBig
  rw[List.mem_singleton.mp hD];exact xc.m_TooMany_TwiceNamed
 refine⟨[X_TooMany],X_TooMany,fun _=>true,.one xc.c_TooMany,hc,mem1 xc.m_TooMany_TooMany,rfl,s2 _ _ e3',?_⟩;refine⟨_,rfl,e',oe,X_TooMany,X_GroveError,rfl,s2 _ _ e3',hc,xc.ne_TooMany,xc.isG,xc.tyG,xc.m_TooMany_GroveError,true,rfl,Zdb ?_⟩;refine⟨_,rfl,e',oe,X_TooMany,"ValueError",rfl,s2 _ _ e3',hc,rfl,xc.mV_TooMany,?_⟩;show u3 _ _ _;refine Zj e3 ?_;refine⟨_,rfl,_,rfl,(by show 2<=sizeLine;decide),fun tp htp=>?_⟩;have s3:Zg H2 (upd H2 tp (.tup [.non,.bl true])):=Zg.new htp;exact q1 hcase tp _ (k0.trans (Kp.same (s2.trans s3))) Zb
theorem Zgl{N:Str->Ex}{d:Nat}{b:Bool}{k:Int}{x:Str×Ex}:∀(l:List Ex)(s:Ly),x∈(l.foldl (fun s p=>seS b s (lay N d p (k+(s.pl.length:Int)))) s).pl->x∈s.pl\/∃p∈l,∃k',x∈(lay N d p k').pl
 | [],s,h=>.inl h
 | p::l,s,h=>by
  rw[List.foldl_cons] at h;rcases Zgl l _ h with h|⟨p',h1,h2⟩
  ·rw[ZjV] at h;rcases List.mem_append.mp h with h|h
   ·exact .inl h
   ·exact .inr ⟨p,List.mem_cons_self ..,_,h⟩
  ·exact .inr ⟨p',List.mem_cons_of_mem _ h1,h2⟩
theorem Zej{U:Str->Prop}{N:Str->Ex}(hU:∀n,U n->sz (N n)<=200/\dp (N n)<=13):∀{d:Nat}{e:Ex}{k:Int},Fit U N d e->sz e<=200->dp e<=13->∀x∈(lay N d e k).pl,sz x.2<=200/\dp x.2<=13
 | 0,_,_,h,_,_,_,_=>h.elim
 | _+1,.nil,_,_,_,_,_,hx=>nomatch hx
 | _+1,.tag t i,_,_,h1,h2,x,hx=>by
  have h1:sz i+1<=200:=h1;have h2:dp i+1<=13:=h2;have hx:x ∈ [(t,i)]:=hx;rw[List.mem_singleton.mp hx];exact⟨by show sz i<=200;lia,by show dp i<=13;lia⟩
 | d+1,.name n,_,h,_,_,x,hx=>Zej hU (d:=d) h.2 (hU n h.1).1 (hU n h.1).2 x hx
 | d+1,.several b ps,k,h,h1,h2,x,hx=>by
  have h1:szs ps+1<=200:=h1;have h2:dps ps+1<=13:=h2;rcases Zgl (toL ps) (ly0 b) hx with hx|⟨p,hp,k',hx⟩
  ·exact nomatch hx
  ·obtain⟨m1,m2,m3⟩:=ZaY hp;exact Zej hU (d:=d) (h.2 p hp) (by lia) (by lia) x hx
 | d+1,.rep m p,k,h,h1,h2,x,hx=>by
  have h1:sz p+1<=200:=h1;have h2:dp p+1<=13:=h2;exact Zej hU (d:=d) (e:=p) h (by lia) (by lia) x hx
theorem Zhg{H:Hp}{d:Nat}{p q:Addr}{l:List Int}(h1:H p=some (.lst (l.map V.int)))(h2:H q=some (.lst (l.map V.int)))(hl:l.length<=90000):Ak H (d+2) (.ref p) (.ref q) :=
 .lst h1 h2 rfl (by rw[List.length_map];exact hl) fun i x y hx hy=>by
  rw[hx] at hy;cases hy;rw[List.getElem?_map] at hx;obtain⟨z,_,rfl⟩:=Option.map_eq_some_iff.mp hx;exact .int
theorem Zir{H:Hp}{d:Nat}{p q:Addr}{zs zs':List V}{ms:List Pr}(h1:H p=some (.lst zs))(h2:H q=some (.lst zs'))(g1:PL H zs ms)(g2:PL H zs' ms)(hl:zs.length<=90000):Ak H (d+3) (.ref p) (.ref q) :=
 .lst h1 h2 (by rw[g1.length,g2.length]) hl fun i x y hx hy=>by
  obtain⟨a,m,e1,rfl,e3⟩:=g1.get i x hx;obtain⟨b,m',f1,rfl,f3⟩:=g2.get i y hy;rw[e1] at f1;cases f1;exact Ak.two e3 f3 .int .int
theorem Zg2{H:Hp}{p q:Addr}{l:List (Str×Ex)}(h1:PlD H p l)(h2:PlD H q l)(hl:l.length<=90000)(hb:∀x∈l,sz x.2<=200/\dp x.2<=13):Ak H 31 (.ref p) (.ref q):=by
 obtain⟨vs,a1,a2⟩:=h1;obtain⟨ws,b1,b2⟩:=h2;have c1:vs.length=l.length:=Paired.length a2;have c2:ws.length=l.length:=Paired.length b2;refine .lst a1 b1 (by lia) (by lia) fun i x y hx hy=>?_;obtain⟨z,hz,t,qq,rfl,e1,e2⟩:=Zcc a2 hx;obtain⟨z',hz',t',qq',rfl,f1,f2⟩:=Zcc b2 hy;rw[hz] at hz';cases hz';obtain⟨s1,s2⟩:=hb z (List.mem_of_getElem? hz);exact Ak.two (d:=29) e1 f1 .str ((ZiX s1 e2 f2).up (by lia))
theorem Zkc{H0 H:Hp}{t pl f l nl t':Addr}{r:Ly}(h:JtD H0 H t pl f l nl r)(g:DuD H t' r)(h1:r.pl.length<=64)(h2:r.fi.length<=64)(h3:r.la.length<=64)(hb:∀x∈r.pl,sz x.2<=200/\dp x.2<=13):Ak H 32 (.ref t) (.ref t'):=by
 obtain⟨_,_,_,_,_,_,_,_,_,_,c1,c2,c3,c4,zs,ms,c5,cl,c6,c7,c8⟩:=h;obtain⟨pl',f',l',nl',d1,d2,d3,d4,zs',ms',d5,d6,d7,d8⟩:=g;have hm:ms=ms':=List.Perm.eq_of_pairwise (fun x y _ _ h1 h2=>(Srd.Zh0.tri x y h2 h1)) c8 d8 (c7.trans d7.symm);subst hm;refine Ak.tup (d:=31) c1 d1 rfl (by show 5<=90000;decide) fun i x y hx hy=>?_
 match i,hx,hy with
 | 0,hx,hy=>cases hx;cases hy;exact Zg2 c2 d2 (by lia) hb
 | 1,hx,hy=>cases hx;cases hy;exact .bl
 | 2,hx,hy=>cases hx;cases hy;exact Zhg c3 d3 (by lia)
 | 3,hx,hy=>cases hx;cases hy;exact Zhg c4 d4 (by lia)
 | 4,hx,hy=>cases hx;cases hy;exact Zir c5 d5 c6 d6 (by lia)
 | i+5,hx,_=>simp at hx
structure Tl(H H3:Hp)(t l0 pl f l nl:Addr)(b:Bool)(n:Nat):Prop where
 sm:Zg H H3
 tt:H3 t=some (.tup [.ref pl,.bl b,.ref f,.ref l,.ref nl])
 hl:H3 l0=some (.lst (([0,2,3,4]:List Int).map V.int))
 n0:l0 ∉ [pl,f,l,nl]
 ls:∀a ∈ [pl,f,l,nl],H a=none/\∃xs,H3 a=some (.lst xs)/\xs.length<=n
theorem Tl.put{H H3:Hp}{t l0 pl f l nl:Addr}{b:Bool}{n:Nat}(h:Tl H H3 t l0 pl f l nl b n){a:Addr}{xs:List V}{v:V}(ha:a ∈ [pl,f,l,nl])(hx:H3 a=some (.lst xs)):Tl H (upd H3 a (.lst (xs ++ [v]))) t l0 pl f l nl b (n+1):=by
 obtain⟨na,ys,hy,hn⟩:=h.ls a ha;rw[hx] at hy;cases hy;refine⟨fun c o hc=>?_,?_,?_,h.n0,fun c hc=>⟨(h.ls c hc).1,?_⟩⟩
 ·rw[Zu (Zq hc na)];exact h.sm _ _ hc
 ·rw[Zu (fun z=>by rw[<- z,h.tt] at hx;cases hx)];exact h.tt
 ·rw[Zu (fun z=>h.n0 (by rw[z];exact ha))];exact h.hl
 ·by_cases e:c=a
  ·rw[e,Zb];exact⟨_,rfl,by rw[List.length_append];show xs.length+1<=n+1;lia⟩
  ·rw[Zu e];obtain⟨_,ys,h1,h2⟩:=h.ls c hc;exact⟨ys,h1,by lia⟩
def Zfj:Sp:=fun vs H Q _=>∃(b p:Addr)(bk:List (Str×Ex))(e:Ex),vs=[.ref b,.ref p,.int (cP (bkN bk) 48 e:Nat)]/\BkA H b bk/\BkH bk/\RepE H p e/\sz e<=200/\dp e<=13/\Ft bk 48 e/\∀H',Kp H H'->Q (.bl true) H'
set_option maxHeartbeats 4000000 in
theorem Zgr(B:∀x∈ZcE,mg x=none)(g_l_asked:Has P w K mg base "_law_asked" ["_law_book_here","_law_expr"] 147 ZfG) (g_l_alike:Has P w K mg base "_law_alike" ["_law_told","_law_due_here"] 32 (Zee 32)) (g_l_due:Has P w K mg base "_law_due" ["_law_book_here","_law_expr"] 98 ZjU) (F:Fun K "_law_holds" "_law_holds" Zay f fd):FnOk P w K mg base CX0 148 f fd ["_law_book_here","_law_expr","_law_many"] Zfj:=by
 refine F.ok ZbQ (fun vs H Q E h=>?_) (fun cdv A outer s H vs Q E hr h=>?_)
 ·obtain⟨b,p,bk,e,rfl,_⟩:=h;rfl
 obtain⟨b,p,bk,e,rfl,hB,hH,hR,hs,hd,hF,q⟩:=h;have hG:=hH.good;have hpl:=ZbJ (bkN bk) 48 e 0;have hri:=Zbc (bkN bk) 48 e 0;have hU:∀n,n∈bk.map (·.1)->sz (bkN bk n)<=200/\dp (bkN bk n)<=13:=fun n hn=>by
  obtain⟨x,hx,rfl⟩:=List.mem_map.mp hn;obtain⟨rk,m,g,_,_,hg8,hr'⟩:=hH.rk;have:=(hr' x hx).2.1;have:=hH.sz x hx;rw[ZcR hH.nd hx];lia
 have hmem:=Zej hU (k:=0) hF hs hd;refine Zm ((Zc Zay).drop 4) (Zk (ZC Zbg)) (fun u4 h4 e4=>?_);refine Zm ((Zaq ((Zc Zay).getD 3 (.Pass ⟨0,0,0,0⟩))).drop 0) (Zk (Zbu (ZhZ PySem.F.plainAttrs_list PySem.F.slot_list_append PySem.F.type_list_append Zct (Zr Zv (pv 3) (pv 5) (fun _ _=>rfl)) (Za (pv 2) Zf)))) (fun u3_0 h3_0 e3_0=>?_);refine Zm ((Zc Zay).drop 3) (Zd (ZaZ PassesOwn.never rfl (Zbq (Zas (Za Ze (Za Ze (Za Ze (Za Ze Zf)))))) (ZL (i:=5) ZbQ.nd rfl (Or.inl rfl))
   h3_0) h4) (fun u3 h3 e3=>?_)
 refine Zm ((Zc Zay).drop 2) (Zd (Zah (PW.pt (Zj7 (ZD ZjY (pv 4) Zhe (ZV _)) (Zh7 (ZeG (ZaG (Zaa g_l_alike hr rfl (Za (pv 3) (Za (Zaa g_l_due hr rfl (Za (pv 0) (Za (pv 1) Zf))) Zf))) (fun _=>rfl))))))
   (Zk (ZC Zbg))
   Zy) h3) (fun u2 h2 e2=>?_)
 refine Zm ((Zc Zay).drop 1) (Zd (Zah (ZD ZgM (pv 2) Ze (ZV _))
   (Zk (ZC (Za7 Zld (pv 4) Zbg (ZV _))))
   Zy) h2) (fun u1 h1 e1=>?_)
 refine Zm ((Zc Zay).drop 0) (Zd (ZcO (Zaa g_l_asked hr rfl (Za (pv 0) (Za (pv 1) Zf))) (Zdj rfl (Zaj (ZL (i:=3) ZbQ.nd rfl (Or.inl rfl)) (Zaj (ZL (i:=4) ZbQ.nd rfl (Or.inl rfl)) Zb4)))) h1) (fun u0 h0 e0=>?_);refine⟨u0,h0,?_⟩;refine Zj e0 ?_;refine⟨_,rfl,_,rfl,b,p,bk,e,rfl,hB,hG,hR,hs,hF,fun hc tp H1 k1 x1=>?_,fun hc tp t pl f l nl H1 s1 hJ x1=>?_⟩
 ·refine⟨tp,_,rfl,SqT.of x1,rfl,_,_,rfl,_,_,rfl,rfl,?_⟩;show u1 _ _ _;refine Zj e1 ?_;refine⟨_,rfl,_,_,rfl,rfl,_,rfl,Zax (fun z=>?_) (fun z=>absurd (decide_eq_true (by lia)) z)⟩;exact⟨_,rfl,true,true,rfl,rfl,q H1 k1⟩
 ·refine⟨tp,_,rfl,SqT.of x1,rfl,_,_,rfl,_,_,rfl,rfl,?_⟩;show u1 _ _ _;refine Zj e1 ?_;refine⟨_,rfl,_,_,rfl,rfl,_,rfl,Zax (fun z=>absurd (of_decide_eq_true z) (by lia)) (fun z=>?_)⟩;show u2 _ _ _;refine Zj e2 ?_;have y1:=Zaw hri.1;have y2:=Zaw hri.2;refine⟨_,rfl,rfl,_,rfl,Zby ?_⟩;refine⟨_,rfl,_,rfl,_,rfl,b,p,bk,e,rfl,hB.kp (Kp.same s1),hG,hR.mono s1.tk,hs,hF,hc,fun t2 H2 s2 hD=>?_⟩;have hAk:=Zkc (hJ.same s2) hD (by lia) (by lia) (by lia) hmem;refine⟨_,_,rfl,hAk,true,rfl,Zby ?_⟩;show u3 _ _ _;refine Zj e3 ?_;have hJ2:=hJ.same s2;obtain⟨a1,a2,a3,a4,b1,b2,b3,b4,b5,b6,c1,⟨vp,c2,c2'⟩,c3,c4,zs,ms,c5,cl,c6,c7⟩:=hJ2;have hvp:vp.length=(lay (bkN bk) 48 e 0).pl.length:=Paired.length c2';refine⟨(by show 4<=sizeLine;decide),fun l0 hl0=>?_⟩;have s3:Zg H2 (upd H2 l0 (.lst (([0,2,3,4]:List Int).map V.int))):=Zg.new hl0;have x3:upd H2 l0 (.lst (([0,2,3,4]:List Int).map V.int)) l0=some (.lst (([0,2,3,4]:List Int).map V.int)):=Zb;have T0:Tl H (upd H2 l0 (.lst (([0,2,3,4]:List Int).map V.int))) t l0 pl f l nl (lay (bkN bk) 48 e 0).fr 5000:=by
   refine⟨(s1.trans s2).trans s3,s3 _ _ c1,x3,fun z=>?_,fun a ha=>?_⟩
   ·rcases List.mem_cons.mp z with z|z
    ·rw[z,c2] at hl0;cases hl0
    rcases List.mem_cons.mp z with z|z
    ·rw[z,c3] at hl0;cases hl0
    rcases List.mem_cons.mp z with z|z
    ·rw[z,c4] at hl0;cases hl0
    rw[List.mem_singleton.mp z,c5] at hl0;cases hl0
   ·rcases List.mem_cons.mp ha with rfl|ha
    ·exact⟨a1,_,s3 _ _ c2,by lia⟩
    rcases List.mem_cons.mp ha with rfl|ha
    ·exact⟨a2,_,s3 _ _ c3,by rw[List.length_map];lia⟩
    rcases List.mem_cons.mp ha with rfl|ha
    ·exact⟨a3,_,s3 _ _ c4,by rw[List.length_map];lia⟩
    rw[List.mem_singleton.mp ha];exact⟨a4,_,s3 _ _ c5,cl⟩
  have kB:∀{c:Addr}{xs:List V}{n:Nat}{H3:Hp},n<=6000->Tl H H3 t l0 pl f l nl (lay (bkN bk) 48 e 0).fr n->c ∈ [pl,f,l,nl]->∃xs,H3 c=some (.lst xs)/\xs.length<sizeLine:=fun hn T hc=>by
   obtain⟨_,xs,h1,h2⟩:=T.ls _ hc;exact⟨xs,h1,Z4 (by lia)⟩
  refine⟨l0,rfl,⟨_,SqL.of x3⟩,Zci (K:=K) (a:=l0) (xs:=([0,2,3,4]:List Int).map V.int) (fun i σ H3=>∃v5:Option V,σ =[some (.ref b),some (.ref p),some (.int (cP (bkN bk) 48 e:Nat)),some (.ref t),some .non,v5]/\Tl H H3 t l0 pl f l nl (lay (bkN bk) 48 e 0).fr (5000+i))
   ⟨none,rfl,T0⟩ ?_ ?_ ?_⟩
  ·rintro i σ H3 _ ⟨v5,_,T⟩;exact SqL.of T.hl
  ·rintro i x σ H3 hx ⟨v5,rfl,T⟩;show u3_0 _ _ _;refine Zj e3_0 ?_
   match i,hx with
   | 0,hx =>
    cases hx;obtain⟨xs,h1,h2⟩:=kB (xs:=[]) (by lia) T (c:=pl) (by simp);exact⟨_,rfl,_,rfl,t,_,0,_,rfl,rfl,SqT.of T.tt,rfl,.inl ⟨rfl,_,SqL.of h1⟩,_,rfl,pl,_,_,rfl,rfl,h1,h2,_,rfl,T.put (by simp) h1⟩
   | 1,hx =>
    cases hx;obtain⟨xs,h1,h2⟩:=kB (xs:=[]) (by lia) T (c:=f) (by simp);exact⟨_,rfl,_,rfl,t,_,2,_,rfl,rfl,SqT.of T.tt,rfl,.inl ⟨rfl,_,SqL.of h1⟩,_,rfl,f,_,_,rfl,rfl,h1,h2,_,rfl,T.put (by simp) h1⟩
   | 2,hx =>
    cases hx;obtain⟨xs,h1,h2⟩:=kB (xs:=[]) (by lia) T (c:=l) (by simp);exact⟨_,rfl,_,rfl,t,_,3,_,rfl,rfl,SqT.of T.tt,rfl,.inl ⟨rfl,_,SqL.of h1⟩,_,rfl,l,_,_,rfl,rfl,h1,h2,_,rfl,T.put (by simp) h1⟩
   | 3,hx =>
    cases hx;obtain⟨xs,h1,h2⟩:=kB (xs:=[]) (by lia) T (c:=nl) (by simp);exact⟨_,rfl,_,rfl,t,_,4,_,rfl,rfl,SqT.of T.tt,rfl,.inl ⟨rfl,_,SqL.of h1⟩,_,rfl,nl,_,_,rfl,rfl,h1,h2,_,rfl,T.put (by simp) h1⟩
   | i+4,hx=>simp at hx
  ·rintro σ H3 ⟨v5,rfl,T⟩;show u4 _ _ _;exact Zj e4 (q H3 (Kp.same T.sm))
theorem ZjP{X:Cx}:SlR X (fun x lo hi H Q=>∃a xs,x=.ref a/\SqT X.K H a xs/\∀p H',Zg H H'->SqT X.K H' p (Zd9 xs lo hi)->Q (.ref p) H'):=by
 intro pins s σ H x v vl vu lo hi sl Q I rx hs pl pu h;obtain⟨a,xs,rfl,hx,q⟩:=h;refine ZjD pins s σ H (.ref a) v vl vu lo hi sl Q I rx hs pl pu ⟨a,xs,rfl,hx,fun c=>q a H (Zg.refl H) ?_,fun p hp=>q p _ (Zg.new hp) (SqT.of Zb)⟩;unfold Zd9;rw[c.1,c.2,List.drop_zero,Nat.sub_zero,List.take_length];exact hx
theorem Zf7{K:PySem.W.Frag}{H H':Hp}{a:Addr}{xs:List V}(s:Zg H H')(h:SqT K H a xs):SqT K H' a xs:=by
 rcases h with(h|⟨o,h⟩)|h
 ·exact .inl (.inl (s _ _ h))
 ·exact .inl (.inr ⟨o,s _ _ h⟩)
 ·exact .inr h
theorem Zk0{hs:List Int}(h:2<=hs.length):∃c0 c1 r,hs=c0::c1::r:=by
 match hs,h with
 | c0::c1::r,_=>exact⟨c0,c1,r,rfl⟩
theorem BkA.sq{K:PySem.W.Frag}{H:Hp}{b:Addr}{bk:List (Str×Ex)}(h:BkA H b bk):∃ws,SqT K H b ws/\Paired (Plc H) ws bk:=by
 obtain⟨o,ws,h1,_,h3⟩:=h;exact⟨ws,.inl (.inr ⟨o,h1⟩),h3⟩
def Zgs(e0:Ex)(n:Str):Ex:=.rep 1 (.several false (.cons (.several true (.cons e0 (.cons (.tag "z" .nil) .nil))) (.cons (.name n) .nil)))
theorem Zjz{e0:Ex}{n:Str}(h:sz e0<=190):sz (Zgs e0 n)<=200:=by
 show(((sz e0+((1+1)+0))+1)+(1+0))+1+1<=200;lia
theorem Zki{e0:Ex}{n:Str}(h:dp e0<=8):dp (Zgs e0 n)<=13:=by
 show max (max (dp e0) (max (0+1) 0)+1) (max 0 0)+1+1<=13;lia
theorem Zit{bk:List (Str×Ex)}{e0:Ex}{n:Str}(h:Ft bk 40 e0)(hn:n∈bk.map (·.1))(h1:Ft bk 40 (bkN bk n)):Ft bk 48 (Zgs e0 n):=by
 show Fit _ _ 47 (.several false (.cons (.several true (.cons e0 (.cons (.tag "z" .nil) .nil))) (.cons (.name n) .nil)));refine⟨fun z=>(nomatch z),fun p hp=>?_⟩
 have hp:p ∈ [Ex.several true (.cons e0 (.cons (.tag "z" .nil) .nil)),.name n]:=hp;rcases List.mem_cons.mp hp with rfl|hp
 ·refine⟨fun z=>(nomatch z),fun p hp=>?_⟩
  have hp:p ∈ [e0,.tag "z" .nil]:=hp;rcases List.mem_cons.mp hp with rfl|hp
  ·exact h.le (by decide)
  ·rw[List.mem_singleton.mp hp];exact trivial
 ·rw[List.mem_singleton.mp hp];exact⟨hn,h1.le (by decide)⟩
set_option maxHeartbeats 8000000 in
theorem ZkN(B:∀x∈ZcE,mg x=none)(g_l_book:Has P w K mg base "_law_book" ["_law_script","_law_state"] 12 (Zg8 K)) (g_l_great_book:Has P w K mg base "_law_great_book" ["_law_script"] 1 (Zfb K)) (g_l_greatest_book:Has P w K mg base "_law_greatest_book" ["_law_cell"] 1 ZcG) (g_l_counts:Has P w K mg base "_law_counts" ["_law_book_here"] 16 Zea) (g_l_holds:Has P w K mg base "_law_holds" ["_law_book_here","_law_expr","_law_many"] 148 Zfj) (g_l_count:Has P w K mg base "_law_count" ["_law_names","_law_expr"] 15 (Zcq 14)) (F:Fun K "law" "law" Zbn f fd):FnOk P w K mg base CX0 149 f fd ["_law_script"] (Fg.Ziv K):=by
 refine F.ok Zb0 (fun vs H Q E h=>?_) (fun cdv A outer s H vs Q E hr h=>?_)
 ·obtain⟨a,ns,rfl,_⟩:=h;rfl
 obtain⟨a,ns,rfl,hS,h63,q⟩:=h;have hu1:(A.deeper (PyProof.Rows.envOfC (Str.ofString "law") (Zh Zbn) s.heap.objs.size f cdv)).units+1<cLine:=by have:=hr.un;lia
 refine Zm ((Zc Zbn).drop 8) (Zk (ZC (Zaa g_l_holds hr rfl (Za (pv 2) (Za (pv 6) (Za (Zaa g_l_count hr rfl (Za (pv 3) (Za (pv 6) Zf))) Zf)))))) (fun u8 h8 e8=>?_);refine ZjQ ((Zc Zbn).drop 7) (Zg9 (Zg7 (i:=6) Zb0.nd rfl (Or.inl rfl) (Zae (Zi Z2 (Zi (Zae (Zi Z2 (Zi (Zae (Zi (Zae (Zi Z2 (Zi (Zae (Zi (PEi.of (Zr Zv (Zr Zv (pv 2) Ze (fun _ _=>rfl)) Ze (fun _ _=>rfl))) (Zi (Zae (Zi Z2 (Zi Z2 (Zi (Zae (Zi Z2 ZM)) ZM)))) ZM))) ZM))) (Zi (Zae (Zi Z2 (Zi (PEi.of (Zr Zv (Zr Zv (pv 2) (Zlp Zja Ze) (fun _ _=>rfl)) Ze (fun _ _=>rfl))) ZM))) ZM))) ZM))) ZM)))) h8) (fun u7 h7 e7=>?_);refine Zm ((Zaq ((Zc Zbn).getD 6 (.Pass ⟨0,0,0,0⟩))).drop 0) (Zk (Zah (ZeG (ZaG (Zaa g_l_holds hr rfl (Za (pv 2) (Za (pv 5) (Za (ZcB hu1 (pv 3) (pv 4) (fun _ _=>rfl)) Zf)))) (fun _=>rfl))) (Zk (ZC Zbg)) Zy)) (fun u6_0 h6_0 e6_0=>?_);refine Zm ((Zc Zbn).drop 6) (Zex (ZaZ PassesOwn.never rfl (ZbX (ZF Zkd (pv 2) (Zbt K27.ZjP (pv 2) Zbv (ZbC Ze)))) (Zdj rfl (Zaj (ZL (i:=4) Zb0.nd rfl (Or.inl rfl)) (Zaj (ZL (i:=5) Zb0.nd rfl (Or.inl rfl)) Zb4))) h6_0) h7) (fun u6 h6 e6=>?_);refine Zm ((Zc Zbn).drop 5) (Zd (Zx (i:=3) Zb0.nd rfl (Or.inl rfl) (Zaa g_l_counts hr rfl (Za (pv 2) Zf))) h6) (fun u5 h5 e5=>?_);refine Zm ((Zc Zbn).drop 4) (Zd (Zah (PW.pt (ZcQ (ZD ZgM (ZF Zal (Zr ZW (pv 1) Ze (fun _ _=>rfl)) Ze) Ze (ZV _)) (Zb7 (ZD ZaN (ZF Zal (ZF ZaM (Zr ZW (pv 1) Ze (fun _ _=>rfl)) Ze) Ze) Ze (ZV _))))) (Zk (Zx (i:=2) Zb0.nd rfl (Or.inl rfl) (ZiI (pv 2)))) Zy) h5) (fun u4 h4 e4=>?_);refine Zm ((Zc Zbn).drop 3) (Zd (Zah (ZD ZaN (ZF Zal (Zr ZW (pv 1) Ze (fun _ _=>rfl)) Ze) Ze (ZV _)) (Zk (Zx (i:=2) Zb0.nd rfl (Or.inl rfl) (Zaa g_l_greatest_book hr rfl (Za (Zr ZW (pv 1) Ze (fun _ _=>rfl)) Zf)))) Zy) h4) (fun u3 h3 e3=>?_);refine Zm ((Zc Zbn).drop 2) (Zd (Zah (ZD ZaN (ZF Zal (Zr ZW (pv 1) Ze (fun _ _=>rfl)) Ze) Ze (ZV _)) (Zk (Zx (i:=2) Zb0.nd rfl (Or.inl rfl) (Zaa g_l_great_book hr rfl (Za (pv 0) Zf)))) Zy) h3) (fun u2 h2 e2=>?_);refine Zm ((Zc Zbn).drop 1) (Zd (Zx (i:=2) Zb0.nd rfl (Or.inl rfl) (Zaa g_l_book hr rfl (Za (pv 0) (Za (PEi.to (Zba (Zi Zbh (Zi Zbh ZM)))) Zf)))) h2) (fun u1 h1 e1=>?_);refine Zm ((Zc Zbn).drop 0) (Zd (Zx (i:=1) Zb0.nd rfl (Or.inl rfl) (ZF ZbE (Zbt Zd4 (pv 0) Zbv (ZbC Ze)) (PEi.to (Zba (Zi Zbh (Zi Zbh ZM)))))) h1) (fun u0 h0 e0=>?_);refine⟨u0,h0,?_⟩;refine Zj e0 ?_;refine⟨_,rfl,_,rfl,a,_,rfl,hS,fun l1 hl1=>?_⟩;have c2:Zd9 (ns.map V.int) none (some 2)=(ns.take 2).map V.int:=by
  rw[show Zd9 (ns.map V.int) none (some 2)=(ns.map V.int).take 2 from Zc5 _ 2,List.map_take]
 rw[c2];have s1:Zg H (upd H l1 (.lst ((ns.take 2).map V.int))):=Zg.new hl1;have x1:upd H l1 (.lst ((ns.take 2).map V.int)) l1=some (.lst ((ns.take 2).map V.int)):=Zb;generalize upd H l1 (.lst ((ns.take 2).map V.int))=H1 at s1 x1 ⊢;refine⟨(by show 2<=sizeLine;decide),fun l2 hl2=>?_⟩;have s2:Zg H1 (upd H1 l2 (.lst [.int 0,.int 0])):=Zg.new hl2;have x2:upd H1 l2 (.lst [.int 0,.int 0]) l2=some (.lst [.int 0,.int 0]):=Zb;generalize upd H1 l2 (.lst [.int 0,.int 0])=H2 at s2 x2 ⊢;refine⟨l1,l2,_,_,rfl,rfl,s2 _ _ x1,x2,Z9 (by rw[List.length_map,List.length_take];show _+2<=_;lia),fun hd hhd=>?_⟩;obtain⟨c0,c1,cr,hcs⟩:=Zk0 (hs:=ns.take 2 ++ [0,0]) (by rw[List.length_append];show 2<=_+2;lia);have hv:(ns.take 2).map V.int ++ [.int 0,.int 0]=(.int c0 :: .int c1::cr.map V.int):=by
  have:=congrArg (List.map V.int) hcs;rw[List.map_append] at this;exact this
 rw[hv];have s3:Zg H2 (upd H2 hd (.lst (.int c0 :: .int c1::cr.map V.int))):=Zg.new hhd;have x3:upd H2 hd (.lst (.int c0 :: .int c1::cr.map V.int)) hd=some (.lst (.int c0 :: .int c1::cr.map V.int)):=Zb;generalize upd H2 hd (.lst (.int c0 :: .int c1::cr.map V.int))=H3 at s3 x3 ⊢;have s03:=(s1.trans s2).trans s3;have rest5:∀(b:Addr)(bk:List (Str×Ex))(H4:Hp),Zg H3 H4->BkA H4 b bk->BkH bk->u5 { nx:=fun _ H'=>Q .non H',rt:=Q } [some (.ref a),some (.ref hd),some (.ref b),none,none,none,none] H4:=by
  intro b bk H4 s4 hB hH;refine Zj e5 ?_;refine⟨_,rfl,b,bk,rfl,hB,hH,fun d ks H5 s5 hC hall=>?_⟩;have hB5:=hB.kp (Kp.same s5);obtain⟨ws,hSq,hP⟩:=hB5.sq (K:=K);have hwl:ws.length=bk.length:=Paired.length hP;have hl1:=hH.l1;have hl8:=hH.l8;obtain⟨rk,m,g,_,_,hg8,hrk⟩:=hH.rk;have hwne:ws ≠ []:=fun z=>by rw[z] at hwl;simp at hwl;lia
  show u6 _ _ _;refine Zj e6 ?_;have c1':Zd9 ws none (some 1)=ws.take 1:=Zc5 _ 1;refine⟨_,rfl,_,rfl,_,rfl,b,ws,rfl,hSq,fun p6 H6 s6 hp6=>?_⟩;rw[c1'] at hp6;have hB6:=hB5.kp (Kp.same s6);refine⟨b,p6,ws,ws.take 1,rfl,rfl,Zf7 s6 hSq,hp6,hwne,Z9 (by rw[List.length_take];lia),fun z=>absurd (congrArg List.length z) (by rw[List.length_take];show ¬ _=0;lia),fun _ p7 hp7=>?_⟩;have s7:Zg H6 (upd H6 p7 (.tup (ws++ws.take 1))):=Zg.new hp7;have x7:upd H6 p7 (.tup (ws++ws.take 1)) p7=some (.tup (ws++ws.take 1)):=Zb;generalize upd H6 p7 (.tup (ws++ws.take 1))=H7 at s7 x7 ⊢;have s57:=s6.trans s7;have hB7:=hB5.kp (Kp.same s57);have hC7:=hC.same s57;have hP7:Paired (Plc H7) (ws++ws.take 1) (bk++bk.take 1):=Paired.app (Plc.tk s57.tk hP) (Plc.tk s57.tk (ZdD 1 hP));refine⟨p7,rfl,⟨_,SqT.of x7⟩,Zb6 (K:=K) (a:=p7) (xs:=ws++ws.take 1) (fun i σ H8=>∃(v4 v5:Option V),σ =[some (.ref a),some (.ref hd),some (.ref b),some (.ref d),v4,v5,none]/\Kp H7 H8)
   ⟨none,none,rfl,Kp.same (Zg.refl H7)⟩ ?_ ?_ ?_⟩
  ·rintro i σ H8 _ ⟨v4,v5,_,k8⟩;exact SqT.of (k8.tk _ _ x7)
  ·rintro i x σ H8 hx ⟨v4,v5,rfl,k8⟩;obtain⟨y,hy1,tt,qq,rfl,f1,f2⟩:=Zcc hP7 hx;have hmem:y∈bk:=by
    rcases List.mem_append.mp (List.mem_of_getElem? hy1) with h|h
    ·exact h
    ·exact List.mem_of_mem_take h
   have hU:y.1∈bk.map (·.1):=List.mem_map.mpr ⟨y,hmem,rfl⟩;refine⟨tt,_,rfl,SqT.of (k8.tk _ _ f1),rfl,_,_,rfl,_,_,rfl,rfl,?_⟩;show u6_0 _ _ _;refine Zj e6_0 ?_;obtain⟨kvs,g1,g2,g3,g4⟩:=hC7.kp k8;have hv:=(g4 y.1 (hall y.1 hU)).2;rw[ZcR hH.nd hmem] at hv;have hsz:=hH.sz y hmem;have hdp:=(hrk y hmem).2.1;refine⟨_,rfl,_,rfl,_,rfl,_,rfl,d,_,rfl,by rw[<- hv];exact Zev.k (k:=.inr y.1) g1,b,qq,bk,y.2,rfl,hB7.kp k8,hH,f2.mono k8.tk,by lia,by lia,(hH.fit y hmem).le (by decide),fun H9 k9=>⟨true,rfl,Zby ⟨_,_,rfl,k8.trans k9⟩⟩⟩
  rintro σ H8 ⟨v4,v5,rfl,k8⟩;have hB8:=hB7.kp k8;have hC8:=hC7.kp k8;obtain⟨ws,hSq8,hP8⟩:=hB8.sq (K:=K);have hwl:ws.length=bk.length:=Paired.length hP8;have h0:ws[0]?= some ws[0]:=List.getElem?_eq_getElem (by lia);have hz:ws[ws.length-1]?= some (ws[ws.length-1]'(by lia)):=List.getElem?_eq_getElem (by lia);obtain⟨y0,hy0,t0,q0,et0,f1,f2⟩:=Zcc hP8 h0;obtain⟨yz,hyz,tz,qz,etz,k1,k2⟩:=Zcc hP8 hz;have hm0:=List.mem_of_getElem? hy0;have hmz:=List.mem_of_getElem? hyz;have a0:atI ws 0=some (.ref t0):=by rw[<- et0];exact Zad (j:=0) h0
  have az:atI ws (-1)=some (.ref tz):=by
   have hlast:ws=ws.take (ws.length-1) ++ [ws[ws.length-1]'(by lia)]:=by
    have:=List.take_succ_eq_append_getElem (l:=ws) (i:=ws.length-1) (by lia);rw[show ws.length-1+1=ws.length by lia,List.take_length] at this;exact this
   rw[<- etz];exact(congrArg (fun l=>atI l (-1)) hlast).trans (Ziu _ _)
  show u7 _ _ _;refine Zj e7 ?_;refine⟨_,rfl,b,ws,0,_,rfl,rfl,hSq8,a0,t0,_,1,_,rfl,rfl,SqT.of f1,rfl,?_⟩;refine⟨(by show 1<=sizeLine;decide),fun p1 hp1=>?_⟩;have t1:Zg H8 (upd H8 p1 (.tup [.str "nil"])):=Zg.new hp1;have w1:upd H8 p1 (.tup [.str "nil"]) p1=some (.tup [.str "nil"]):=Zb;generalize upd H8 p1 (.tup [.str "nil"])=G1 at t1 w1 ⊢;refine⟨(by show 3<=sizeLine;decide),fun p2 hp2=>?_⟩;have t2:Zg G1 (upd G1 p2 (.tup [.str "tag",.str "z",.ref p1])):=Zg.new hp2;have w2:upd G1 p2 (.tup [.str "tag",.str "z",.ref p1]) p2=some (.tup [.str "tag",.str "z",.ref p1]):=Zb;generalize upd G1 p2 (.tup [.str "tag",.str "z",.ref p1])=G2 at t2 w2 ⊢;refine⟨(by show 2<=sizeLine;decide),fun p3 hp3=>?_⟩;have t3:Zg G2 (upd G2 p3 (.tup [.ref q0,.ref p2])):=Zg.new hp3;have w3:upd G2 p3 (.tup [.ref q0,.ref p2]) p3=some (.tup [.ref q0,.ref p2]):=Zb;generalize upd G2 p3 (.tup [.ref q0,.ref p2])=G3 at t3 w3 ⊢;refine⟨(by show 2<=sizeLine;decide),fun p4 hp4=>?_⟩;have t4:Zg G3 (upd G3 p4 (.tup [.str "turn",.ref p3])):=Zg.new hp4;have w4:upd G3 p4 (.tup [.str "turn",.ref p3]) p4=some (.tup [.str "turn",.ref p3]):=Zb;generalize upd G3 p4 (.tup [.str "turn",.ref p3])=G4 at t4 w4 ⊢;have t84:=((t1.trans t2).trans t3).trans t4;refine⟨_,rfl,_,rfl,b,ws,-1,_,rfl,rfl,Zf7 t84 hSq8,az,tz,_,0,_,rfl,rfl,SqT.of (t84 _ _ k1),rfl,?_⟩;refine⟨(by show 2<=sizeLine;decide),fun p5 hp5=>?_⟩;have t5:Zg G4 (upd G4 p5 (.tup [.str "name",.str yz.1])):=Zg.new hp5;have w5:upd G4 p5 (.tup [.str "name",.str yz.1]) p5=some (.tup [.str "name",.str yz.1]):=Zb;generalize upd G4 p5 (.tup [.str "name",.str yz.1])=G5 at t5 w5 ⊢;refine⟨(by show 2<=sizeLine;decide),fun p6 hp6=>?_⟩;have t6:Zg G5 (upd G5 p6 (.tup [.ref p4,.ref p5])):=Zg.new hp6;have w6:upd G5 p6 (.tup [.ref p4,.ref p5]) p6=some (.tup [.ref p4,.ref p5]):=Zb;generalize upd G5 p6 (.tup [.ref p4,.ref p5])=G6 at t6 w6 ⊢;refine⟨(by show 2<=sizeLine;decide),fun p7' hp7'=>?_⟩;have t7:Zg G6 (upd G6 p7' (.tup [.str "or",.ref p6])):=Zg.new hp7';have w7:upd G6 p7' (.tup [.str "or",.ref p6]) p7'=some (.tup [.str "or",.ref p6]):=Zb;generalize upd G6 p7' (.tup [.str "or",.ref p6])=G7 at t7 w7 ⊢;refine⟨(by show 2<=sizeLine;decide),fun p8 hp8=>?_⟩;have t8:Zg G7 (upd G7 p8 (.tup [.str "some",.ref p7'])):=Zg.new hp8;have w8:upd G7 p8 (.tup [.str "some",.ref p7']) p8=some (.tup [.str "some",.ref p7']):=Zb;generalize upd G7 p8 (.tup [.str "some",.ref p7'])=G8 at t8 w8 ⊢;have v7:=w7;have t78:=t8;have t68:=t7.trans t78;have t58:=t6.trans t68;have t48:=t5.trans t58;have t38:=t4.trans t48;have t28:=t3.trans t38;have t18:=t2.trans t28;have t08:=t1.trans t18;have hR:RepE G8 p8 (Zgs y0.2 yz.1):=.rep (m:=1) w8 (.several (b:=false) (t78 _ _ w7) (t68 _ _ w6) (.cons (.several (b:=true) (t48 _ _ w4) (t38 _ _ w3) (.cons (f2.mono t08.tk) (.cons (.tag (t28 _ _ w2) (.nil (t18 _ _ w1))) .nil))) (.cons (.name (t58 _ _ w5)) .nil)));have hUz:yz.1∈bk.map (·.1):=List.mem_map.mpr ⟨yz,hmz,rfl⟩;have hsz:=Zjz (n:=yz.1) (hH.sz y0 hm0);have hdp:=Zki (n:=yz.1) (Nat.le_trans (hrk y0 hm0).2.1 hg8);have hft:=Zit (hH.fit y0 hm0) hUz (by rw[ZcR hH.nd hmz];exact hH.fit yz hmz);show u8 _ _ _;refine Zj e8 ?_;refine⟨_,rfl,_,rfl,_,rfl,_,rfl,d,p8,bk,ks,Zgs y0.2 yz.1,rfl,hC8.same t08,hR,hsz,by lia,?_,hft,fun H9 s9=>?_⟩
  ·refine List.all_eq_true.mpr fun n hn=>decide_eq_true (hall n ?_);have hn:n∈(nmo y0.2++([] ++ []))++([yz.1] ++ []):=hn;rcases List.mem_append.mp hn with hn|hn
   ·rcases List.mem_append.mp hn with hn|hn
    ·exact((hrk y0 hm0).2.2 n hn).1
    ·exact nomatch hn
   ·rw[List.mem_singleton.mp hn];exact hUz
  ·exact⟨b,p8,bk,Zgs y0.2 yz.1,rfl,hB8.kp (Kp.same (t08.trans s9)),hH,hR.mono s9.tk,hsz,hdp,hft,fun H10 _=>q H10⟩
 have rest4:∀(b:Addr)(bk:List (Str×Ex))(H4:Hp),Zg H3 H4->BkA H4 b bk->BkH bk->u4 { nx:=fun _ H'=>Q .non H',rt:=Q } [some (.ref a),some (.ref hd),some (.ref b),none,none,none,none] H4:=by
  intro b bk H4 s4 hB hH;refine Zj e4 ?_;refine⟨_,rfl,hd,_,0,_,rfl,rfl,SqL.of (s4 _ _ x3),at0,_,_,rfl,rfl,(by show(0:Int)<3;decide),_,_,rfl,rfl,_,rfl,Zax (fun _=>?_) (fun _=>Zby (rest5 b bk H4 s4 hB hH))⟩;refine⟨_,rfl,hd,_,1,_,rfl,rfl,SqL.of (s4 _ _ x3),(Zad (j:=1) rfl),_,_,rfl,rfl,⟨by decide,by decide⟩,_,_,rfl,rfl,(by show(0:Int)<2;decide),rfl,_,rfl,Zax (fun _=>?_) (fun _=>rest5 b bk H4 s4 hB hH)⟩;obtain⟨ws,hSq,hP⟩:=hB.sq (K:=K);refine⟨_,rfl,b,ws,rfl,hSq,fun p5 o hp5 ho=>?_⟩;have s5:Zg H4 (upd H4 p5 (.frz o (.tup ws.reverse))):=Zg.new hp5;exact rest5 p5 bk.reverse _ (s4.trans s5) ⟨o,ws.reverse,Zb,ho,ZdS (Plc.tk s5.tk hP)⟩ (hH.perm (List.reverse_perm bk))
 have rest3:∀(b:Addr)(bk:List (Str×Ex))(H4:Hp),Zg H3 H4->BkA H4 b bk->BkH bk->u3 { nx:=fun _ H'=>Q .non H',rt:=Q } [some (.ref a),some (.ref hd),some (.ref b),none,none,none,none] H4:=by
  intro b bk H4 s4 hB hH;refine Zj e3 ?_;refine⟨_,rfl,hd,_,0,_,rfl,rfl,SqL.of (s4 _ _ x3),at0,_,_,rfl,rfl,(by show(0:Int)<9;decide),rfl,_,rfl,Zax (fun _=>?_) (fun _=>rest4 b bk H4 s4 hB hH)⟩;exact⟨_,rfl,hd,_,1,_,rfl,rfl,SqL.of (s4 _ _ x3),(Zad (j:=1) rfl),c1,rfl,fun b' bk' H5 s5 hB' hH'=>rest4 b' bk' H5 (s4.trans s5) hB' hH'⟩
 show u1 _ _ _;refine Zj e1 ?_;refine⟨_,rfl,(by show 2<=sizeLine;decide),fun st hst=>?_⟩;have s4:Zg H3 (upd H3 st (.lst [.int 4,.int 0])):=Zg.new hst;have x4:upd H3 st (.lst [.int 4,.int 0]) st=some (.lst [.int 4,.int 0]):=Zb;generalize upd H3 st (.lst [.int 4,.int 0])=H4 at s4 x4 ⊢;have s04:=s03.trans s4;have hne:=SqL.apart (s03.seq hS) hst;refine⟨a,ns,st,4,0,rfl,⟨s04.seq hS,h63,hne,x4,by decide,by decide⟩,fun b bk H5 b5 hB hH=>?_⟩;have s5:Zg H3 H5:=fun c o hc=>b5 c o (Zq hc hst) (s4 _ _ hc);show u2 _ _ _;refine Zj e2 ?_;refine⟨_,rfl,hd,_,0,_,rfl,rfl,SqL.of (s5 _ _ x3),at0,_,_,rfl,rfl,(by show(0:Int)<3;decide),rfl,_,rfl,Zax (fun _=>?_) (fun _=>rest3 b bk H5 s5 hB hH)⟩;exact⟨_,rfl,a,ns,rfl,(s03.trans s5).seq hS,h63,fun b' bk' H6 s6 hB' hH'=>rest3 b' bk' H6 (s5.trans s6) hB' hH'⟩
end
theorem Zk2{l:PySem.W.OpenLaw}{w:World}{K:PySem.W.Frag}{h:Heap}{mg:Str->Option Value}{fa f1 f2 f3 f4 f5 f6 f7 f8 f9 f10 f11 f12 f13 f14 f15 f16 f17 f18 f19 f20 f21 f22 f23 f24 f25 f26:Addr}(X:K.In h)(G:h.Ns mainGlobals mg)(hfa:mg "law" = some (.ref fa))
  {od1 an1 od2 an2 od3 an3 od4 an4 od5 an5 od6 an6 od7 an7 od8 an8 od9 an9 od10 an10 od11 an11 od12 an12 od13 an13 od14 an14 od15 an15 od16 an16 od17 an17 od18 an18 od19 an19 od20 an20 od21 an21 od22 an22 od23 an23 od24 an24 od25 an25 od26 an26:Option Addr} {sl1 sl2 sl3 sl4 sl5 sl6 sl7 sl8 sl9 sl10 sl11 sl12 sl13 sl14 sl15 sl16 sl17 sl18 sl19 sl20 sl21 sl22 sl23 sl24 sl25 sl26:Array (Option Value)} {oc1 kV1 dc1 pm1 cd1 ct1 oc2 kV2 dc2 pm2 cd2 ct2 oc3 kV3 dc3 pm3 cd3 ct3 oc4 kV4 dc4 pm4 cd4 ct4 oc5 kV5 dc5 pm5 cd5 ct5 oc6 kV6 dc6 pm6 cd6 ct6 oc7 kV7 dc7 pm7 cd7 ct7 oc8 kV8 dc8 pm8 cd8 ct8 oc9 kV9 dc9 pm9 cd9 ct9 oc10 kV10 dc10 pm10 cd10 ct10 oc11 kV11 dc11 pm11 cd11 ct11 oc12 kV12 dc12 pm12 cd12 ct12 oc13 kV13 dc13 pm13 cd13 ct13 oc14 kV14 dc14 pm14 cd14 ct14 oc15 kV15 dc15 pm15 cd15 ct15 oc16 kV16 dc16 pm16 cd16 ct16 oc17 kV17 dc17 pm17 cd17 ct17 oc18 kV18 dc18 pm18 cd18 ct18 oc19 kV19 dc19 pm19 cd19 ct19 oc20 kV20 dc20 pm20 cd20 ct20 oc21 kV21 dc21 pm21 cd21 ct21 oc22 kV22 dc22 pm22 cd22 ct22 oc23 kV23 dc23 pm23 cd23 ct23 oc24 kV24 dc24 pm24 cd24 ct24 oc25 kV25 dc25 pm25 cd25 ct25 oc26 kV26 dc26 pm26 cd26 ct26:Value}
  {X_GroveError X_TooMany X_BadForm X_NoBook X_NoName X_Ring X_TooBig X_TwiceNamed:Addr}
  (xn_GroveError:PySem.W.nsIn K mainGlobals "GroveError" = some (some (.ref X_GroveError)))
  (xn_TooMany:PySem.W.nsIn K mainGlobals "TooMany" = some (some (.ref X_TooMany)))
  (xn_BadForm:PySem.W.nsIn K mainGlobals "BadForm" = some (some (.ref X_BadForm)))
  (xn_NoBook:PySem.W.nsIn K mainGlobals "NoBook" = some (some (.ref X_NoBook)))
  (xn_NoName:PySem.W.nsIn K mainGlobals "NoName" = some (some (.ref X_NoName)))
  (xn_Ring:PySem.W.nsIn K mainGlobals "Ring" = some (some (.ref X_Ring)))
  (xn_TooBig:PySem.W.nsIn K mainGlobals "TooBig" = some (some (.ref X_TooBig)))
  (xn_TwiceNamed:PySem.W.nsIn K mainGlobals "TwiceNamed" = some (some (.ref X_TwiceNamed)))
  {g0 goc:Value} {gdd god:Option Addr} {gcd:ClassData} {gsl gsl':Array (Option Value)} {ges:Array DictEntry} {gep:Nat} (xg1:K.lookup X_GroveError=some ⟨g0,gdd,.cls gcd,gsl⟩) (xg2:K.lookup gcd.ns=some ⟨goc,god,.dict ges gep,gsl'⟩) (xg3:keysOk ges=true) (xg4:PySem.W.nsIn K gcd.ns "__init__" = some none)
  (xb1:PySem.W.specialIn K (.ref X_GroveError) "__getattribute__" = some (some (.builtin "type.__getattribute__"))) (xb2:PySem.W.readsIn K X_GroveError (.type "type")=true) (xb3:PySem.W.findCls K (.ref X_GroveError) (.type "type") "__init__" = some (.val (.builtin "ValueError.__init__"))) (xb4:PySem.W.isClsIn K X_GroveError=true) (xb5:PySem.W.typeIn K (.ref X_GroveError)=some (.type "type"))
  (d1_GroveError:PySem.W.isClsIn K X_GroveError=true) (d2_GroveError:PySem.W.mroIn K X_GroveError (.type "BaseException")=some true) (d3_GroveError:PySem.W.instIn K (.ref X_GroveError) (.type "tuple")=some false)
  (d1_TooMany:PySem.W.isClsIn K X_TooMany=true) (d2_TooMany:PySem.W.mroIn K X_TooMany (.type "BaseException")=some true) (d3_TooMany:PySem.W.instIn K (.ref X_TooMany) (.type "tuple")=some false)
  (d1_BadForm:PySem.W.isClsIn K X_BadForm=true) (d2_BadForm:PySem.W.mroIn K X_BadForm (.type "BaseException")=some true) (d3_BadForm:PySem.W.instIn K (.ref X_BadForm) (.type "tuple")=some false)
  (d1_NoBook:PySem.W.isClsIn K X_NoBook=true) (d2_NoBook:PySem.W.mroIn K X_NoBook (.type "BaseException")=some true) (d3_NoBook:PySem.W.instIn K (.ref X_NoBook) (.type "tuple")=some false)
  (d1_NoName:PySem.W.isClsIn K X_NoName=true) (d2_NoName:PySem.W.mroIn K X_NoName (.type "BaseException")=some true) (d3_NoName:PySem.W.instIn K (.ref X_NoName) (.type "tuple")=some false)
  (d1_Ring:PySem.W.isClsIn K X_Ring=true) (d2_Ring:PySem.W.mroIn K X_Ring (.type "BaseException")=some true) (d3_Ring:PySem.W.instIn K (.ref X_Ring) (.type "tuple")=some false)
  (d1_TooBig:PySem.W.isClsIn K X_TooBig=true) (d2_TooBig:PySem.W.mroIn K X_TooBig (.type "BaseException")=some true) (d3_TooBig:PySem.W.instIn K (.ref X_TooBig) (.type "tuple")=some false)
  (d1_TwiceNamed:PySem.W.isClsIn K X_TwiceNamed=true) (d2_TwiceNamed:PySem.W.mroIn K X_TwiceNamed (.type "BaseException")=some true) (d3_TwiceNamed:PySem.W.instIn K (.ref X_TwiceNamed) (.type "tuple")=some false)
  {nm_TooMany q_TooMany:Str} {N_TooMany:Addr} {bs_TooMany:List Value} {hdct_TooMany:Bool} {sn_TooMany:List Str} {sub_TooMany:List Value} {ab_TooMany:Bool} {col_TooMany:Option Bool} {dd_TooMany:Option Addr} {k0_TooMany k1_TooMany k2_TooMany k3_TooMany k5_TooMany:Option Value}
  (xl_TooMany:K.lookup X_TooMany=some (excClassObj nm_TooMany q_TooMany X_TooMany N_TooMany bs_TooMany (.ref X_GroveError::bmV) hdct_TooMany sn_TooMany sub_TooMany ab_TooMany col_TooMany dd_TooMany k0_TooMany k1_TooMany k2_TooMany k3_TooMany k5_TooMany "ValueError.__new__"))
  (xc_TooMany:PySem.W.specialIn K (.ref X_TooMany) "__call__" = some (some (.builtin "type.__call__"))) (xt_TooMany:PySem.W.instIn K (.ref X_TooMany) (.type "type")=some true) (xk_TooMany:PySem.W.keepIn K (.ref X_TooMany)=true) (xv_TooMany:PySem.W.mroIn K X_TooMany (.type "ValueError")=some true)
  (xe_TooMany:X_TooMany≠X_GroveError)
  (xi_TooMany:PySem.W.findIn K (.ref X_TooMany) "__init__" = some (some (.builtin "ValueError.__init__")))
  (m_TooMany_GroveError:PySem.W.mroIn K X_TooMany (.ref X_GroveError)=some true)
  (m_TooMany_TooMany:PySem.W.mroIn K X_TooMany (.ref X_TooMany)=some true)
  (m_TooMany_BadForm:PySem.W.mroIn K X_TooMany (.ref X_BadForm)=some false)
  (m_TooMany_NoBook:PySem.W.mroIn K X_TooMany (.ref X_NoBook)=some false)
  (m_TooMany_NoName:PySem.W.mroIn K X_TooMany (.ref X_NoName)=some false)
  (m_TooMany_Ring:PySem.W.mroIn K X_TooMany (.ref X_Ring)=some false)
  (m_TooMany_TooBig:PySem.W.mroIn K X_TooMany (.ref X_TooBig)=some false)
  (m_TooMany_TwiceNamed:PySem.W.mroIn K X_TooMany (.ref X_TwiceNamed)=some false)
  {C_Joining:Addr}
  (cn1:PySem.W.nsIn K mainGlobals "Joining" = some (some (.ref C_Joining))) (cp1:PySem.W.plainGet K C_Joining Str.empty=true) (ch1:PySem.W.hasDictIn K C_Joining=true) (cq1:PySem.W.plainOver K C_Joining=true) (cs1:PySem.W.findIn K (.ref C_Joining) "__setattr__" = some (some (.builtin "object.__setattr__"))) (cm1:PySem.W.makesIn K C_Joining=true) (ck1:PySem.W.keepIn K (.ref C_Joining)=true)
  (cx1_0:PySem.W.findIn K (.ref C_Joining) "names" = some none)
  (cx1_1:PySem.W.findIn K (.ref C_Joining) "counts" = some none)
  (cx1_2:PySem.W.findIn K (.ref C_Joining) "places" = some none)
  (cx1_3:PySem.W.findIn K (.ref C_Joining) "nexts" = some none)
  (a1:PySem.W.nsIn K mainGlobals "_law_next" = some (some (.ref f1))) (l1:K.lookup f1=some ⟨oc1,od1,.func (PySem.W.fnOf "_law_next" "_law_next" (ZZ ZbR) (Zc ZbR) (Zh ZbR) .none kV1 dc1 pm1 an1 cd1 ct1),sl1⟩) (c1:PySem.W.codeIn K cd1 "_law_next" = true) (k1:PySem.W.keepIn K (.ref f1)=true)
  (a2:PySem.W.nsIn K mainGlobals "_law_word" = some (some (.ref f2))) (l2:K.lookup f2=some ⟨oc2,od2,.func (PySem.W.fnOf "_law_word" "_law_word" (ZZ ZbS) (Zc ZbS) (Zh ZbS) .none kV2 dc2 pm2 an2 cd2 ct2),sl2⟩) (c2:PySem.W.codeIn K cd2 "_law_word" = true) (k2:PySem.W.keepIn K (.ref f2)=true)
  (a3:PySem.W.nsIn K mainGlobals "_law_pool" = some (some (.ref f3))) (l3:K.lookup f3=some ⟨oc3,od3,.func (PySem.W.fnOf "_law_pool" "_law_pool" (ZZ ZbP) (Zc ZbP) (Zh ZbP) .none kV3 dc3 pm3 an3 cd3 ct3),sl3⟩) (c3:PySem.W.codeIn K cd3 "_law_pool" = true) (k3:PySem.W.keepIn K (.ref f3)=true)
  (a4:PySem.W.nsIn K mainGlobals "_law_made" = some (some (.ref f4))) (l4:K.lookup f4=some ⟨oc4,od4,.func (PySem.W.fnOf "_law_made" "_law_made" (ZZ Zab) (Zc Zab) (Zh Zab) .none kV4 dc4 pm4 an4 cd4 ct4),sl4⟩) (c4:PySem.W.codeIn K cd4 "_law_made" = true) (k4:PySem.W.keepIn K (.ref f4)=true)
  (a5:PySem.W.nsIn K mainGlobals "_law_book" = some (some (.ref f5))) (l5:K.lookup f5=some ⟨oc5,od5,.func (PySem.W.fnOf "_law_book" "_law_book" (ZZ Zan) (Zc Zan) (Zh Zan) .none kV5 dc5 pm5 an5 cd5 ct5),sl5⟩) (c5:PySem.W.codeIn K cd5 "_law_book" = true) (k5:PySem.W.keepIn K (.ref f5)=true)
  (a6:PySem.W.nsIn K mainGlobals "_law_great_book" = some (some (.ref f6))) (l6:K.lookup f6=some ⟨oc6,od6,.func (PySem.W.fnOf "_law_great_book" "_law_great_book" (ZZ ZG) (Zc ZG) (Zh ZG) .none kV6 dc6 pm6 an6 cd6 ct6),sl6⟩) (c6:PySem.W.codeIn K cd6 "_law_great_book" = true) (k6:PySem.W.keepIn K (.ref f6)=true)
  (a7:PySem.W.nsIn K mainGlobals "_law_greatest_book" = some (some (.ref f7))) (l7:K.lookup f7=some ⟨oc7,od7,.func (PySem.W.fnOf "_law_greatest_book" "_law_greatest_book" (ZZ ZK) (Zc ZK) (Zh ZK) .none kV7 dc7 pm7 an7 cd7 ct7),sl7⟩) (c7:PySem.W.codeIn K cd7 "_law_greatest_book" = true) (k7:PySem.W.keepIn K (.ref f7)=true)
  (a8:PySem.W.nsIn K mainGlobals "_law_known" = some (some (.ref f8))) (l8:K.lookup f8=some ⟨oc8,od8,.func (PySem.W.fnOf "_law_known" "_law_known" (ZZ Zaz) (Zc Zaz) (Zh Zaz) .none kV8 dc8 pm8 an8 cd8 ct8),sl8⟩) (c8:PySem.W.codeIn K cd8 "_law_known" = true) (k8:PySem.W.keepIn K (.ref f8)=true)
  (a9:PySem.W.nsIn K mainGlobals "_law_count" = some (some (.ref f9))) (l9:K.lookup f9=some ⟨oc9,od9,.func (PySem.W.fnOf "_law_count" "_law_count" (ZZ Zap) (Zc Zap) (Zh Zap) .none kV9 dc9 pm9 an9 cd9 ct9),sl9⟩) (c9:PySem.W.codeIn K cd9 "_law_count" = true) (k9:PySem.W.keepIn K (.ref f9)=true)
  (a10:PySem.W.nsIn K mainGlobals "_law_counts" = some (some (.ref f10))) (l10:K.lookup f10=some ⟨oc10,od10,.func (PySem.W.fnOf "_law_counts" "_law_counts" (ZZ Zai) (Zc Zai) (Zh Zai) .none kV10 dc10 pm10 an10 cd10 ct10),sl10⟩) (c10:PySem.W.codeIn K cd10 "_law_counts" = true) (k10:PySem.W.keepIn K (.ref f10)=true)
  (a11:PySem.W.findIn K (.ref C_Joining) "__init__" = some (some (.ref f11))) (l11:K.lookup f11=some ⟨oc11,od11,.func (PySem.W.fnOf "__init__" "Joining.__init__" (ZZ Z7) (Zc Z7) (Zh Z7) .none kV11 dc11 pm11 an11 cd11 ct11),sl11⟩) (c11:PySem.W.codeIn K cd11 "Joining.__init__" = true) (k11:PySem.W.keepIn K (.ref f11)=true) (n11:PySem.W.isFn K (.ref f11)=true)
  (a12:PySem.W.nsIn K mainGlobals "parts_of" = some (some (.ref f12))) (l12:K.lookup f12=some ⟨oc12,od12,.func (PySem.W.fnOf "parts_of" "parts_of" (ZZ Za4) (Zc Za4) (Zh Za4) .none kV12 dc12 pm12 an12 cd12 ct12),sl12⟩) (c12:PySem.W.codeIn K cd12 "parts_of" = true) (k12:PySem.W.keepIn K (.ref f12)=true)
  (a13:PySem.W.findIn K (.ref C_Joining) "count_places" = some (some (.ref f13))) (l13:K.lookup f13=some ⟨oc13,od13,.func (PySem.W.fnOf "count_places" "Joining.count_places" (ZZ Zo) (Zc Zo) (Zh Zo) .none kV13 dc13 pm13 an13 cd13 ct13),sl13⟩) (c13:PySem.W.codeIn K cd13 "Joining.count_places" = true) (k13:PySem.W.keepIn K (.ref f13)=true) (n13:PySem.W.isFn K (.ref f13)=true)
  (a14:PySem.W.findIn K (.ref C_Joining) "link" = some (some (.ref f14))) (l14:K.lookup f14=some ⟨oc14,od14,.func (PySem.W.fnOf "link" "Joining.link" (ZZ Zak) (Zc Zak) (Zh Zak) .none kV14 dc14 pm14 an14 cd14 ct14),sl14⟩) (c14:PySem.W.codeIn K cd14 "Joining.link" = true) (k14:PySem.W.keepIn K (.ref f14)=true) (n14:PySem.W.isFn K (.ref f14)=true)
  (a15:PySem.W.findIn K (.ref C_Joining) "walk_turn" = some (some (.ref f15))) (l15:K.lookup f15=some ⟨oc15,od15,.func (PySem.W.fnOf "walk_turn" "Joining.walk_turn" (ZZ Zn) (Zc Zn) (Zh Zn) .none kV15 dc15 pm15 an15 cd15 ct15),sl15⟩) (c15:PySem.W.codeIn K cd15 "Joining.walk_turn" = true) (k15:PySem.W.keepIn K (.ref f15)=true) (n15:PySem.W.isFn K (.ref f15)=true)
  (a16:PySem.W.findIn K (.ref C_Joining) "walk_or" = some (some (.ref f16))) (l16:K.lookup f16=some ⟨oc16,od16,.func (PySem.W.fnOf "walk_or" "Joining.walk_or" (ZZ Zt) (Zc Zt) (Zh Zt) .none kV16 dc16 pm16 an16 cd16 ct16),sl16⟩) (c16:PySem.W.codeIn K cd16 "Joining.walk_or" = true) (k16:PySem.W.keepIn K (.ref f16)=true) (n16:PySem.W.isFn K (.ref f16)=true)
  (a17:PySem.W.findIn K (.ref C_Joining) "walk" = some (some (.ref f17))) (l17:K.lookup f17=some ⟨oc17,od17,.func (PySem.W.fnOf "walk" "Joining.walk" (ZZ Zw) (Zc Zw) (Zh Zw) .none kV17 dc17 pm17 an17 cd17 ct17),sl17⟩) (c17:PySem.W.codeIn K cd17 "Joining.walk" = true) (k17:PySem.W.keepIn K (.ref f17)=true) (n17:PySem.W.isFn K (.ref f17)=true)
  (a18:PySem.W.nsIn K mainGlobals "joints" = some (some (.ref f18))) (l18:K.lookup f18=some ⟨oc18,od18,.func (PySem.W.fnOf "joints" "joints" (ZZ ZaW) (Zc ZaW) (Zh ZaW) .none kV18 dc18 pm18 an18 cd18 ct18),sl18⟩) (c18:PySem.W.codeIn K cd18 "joints" = true) (k18:PySem.W.keepIn K (.ref f18)=true)
  (a19:PySem.W.nsIn K mainGlobals "_law_asked" = some (some (.ref f19))) (l19:K.lookup f19=some ⟨oc19,od19,.func (PySem.W.fnOf "_law_asked" "_law_asked" (ZZ ZaJ) (Zc ZaJ) (Zh ZaJ) .none kV19 dc19 pm19 an19 cd19 ct19),sl19⟩) (c19:PySem.W.codeIn K cd19 "_law_asked" = true) (k19:PySem.W.keepIn K (.ref f19)=true)
  (a20:PySem.W.nsIn K mainGlobals "_law_alike" = some (some (.ref f20))) (l20:K.lookup f20=some ⟨oc20,od20,.func (PySem.W.fnOf "_law_alike" "_law_alike" (ZZ Zaf) (Zc Zaf) (Zh Zaf) .none kV20 dc20 pm20 an20 cd20 ct20),sl20⟩) (c20:PySem.W.codeIn K cd20 "_law_alike" = true) (k20:PySem.W.keepIn K (.ref f20)=true)
  (a21:PySem.W.nsIn K mainGlobals "_law_linked" = some (some (.ref f21))) (l21:K.lookup f21=some ⟨oc21,od21,.func (PySem.W.fnOf "_law_linked" "_law_linked" (ZZ ZaS) (Zc ZaS) (Zh ZaS) .none kV21 dc21 pm21 an21 cd21 ct21),sl21⟩) (c21:PySem.W.codeIn K cd21 "_law_linked" = true) (k21:PySem.W.keepIn K (.ref f21)=true)
  (a22:PySem.W.nsIn K mainGlobals "_law_turned" = some (some (.ref f22))) (l22:K.lookup f22=some ⟨oc22,od22,.func (PySem.W.fnOf "_law_turned" "_law_turned" (ZZ Z8) (Zc Z8) (Zh Z8) .none kV22 dc22 pm22 an22 cd22 ct22),sl22⟩) (c22:PySem.W.codeIn K cd22 "_law_turned" = true) (k22:PySem.W.keepIn K (.ref f22)=true)
  (a23:PySem.W.nsIn K mainGlobals "_law_laid" = some (some (.ref f23))) (l23:K.lookup f23=some ⟨oc23,od23,.func (PySem.W.fnOf "_law_laid" "_law_laid" (ZZ Z3) (Zc Z3) (Zh Z3) .none kV23 dc23 pm23 an23 cd23 ct23),sl23⟩) (c23:PySem.W.codeIn K cd23 "_law_laid" = true) (k23:PySem.W.keepIn K (.ref f23)=true)
  (a24:PySem.W.nsIn K mainGlobals "_law_due" = some (some (.ref f24))) (l24:K.lookup f24=some ⟨oc24,od24,.func (PySem.W.fnOf "_law_due" "_law_due" (ZZ ZaO) (Zc ZaO) (Zh ZaO) .none kV24 dc24 pm24 an24 cd24 ct24),sl24⟩) (c24:PySem.W.codeIn K cd24 "_law_due" = true) (k24:PySem.W.keepIn K (.ref f24)=true)
  (a25:PySem.W.nsIn K mainGlobals "_law_holds" = some (some (.ref f25))) (l25:K.lookup f25=some ⟨oc25,od25,.func (PySem.W.fnOf "_law_holds" "_law_holds" (ZZ Zay) (Zc Zay) (Zh Zay) .none kV25 dc25 pm25 an25 cd25 ct25),sl25⟩) (c25:PySem.W.codeIn K cd25 "_law_holds" = true) (k25:PySem.W.keepIn K (.ref f25)=true)
  (a26:PySem.W.nsIn K mainGlobals "law" = some (some (.ref f26))) (l26:K.lookup f26=some ⟨oc26,od26,.func (PySem.W.fnOf "law" "law" (ZZ Zbn) (Zc Zbn) (Zh Zbn) .none kV26 dc26 pm26 an26 cd26 ct26),sl26⟩) (c26:PySem.W.codeIn K cd26 "law" = true) (k26:PySem.W.keepIn K (.ref f26)=true)
  {tk0:Tok} (y0:PySem.W.nsIn K mainGlobals "MOST_PLACES" = some (some (.int 64 tk0)))
  (z0:PySem.W.nsIn K mainGlobals "ValueError" = some none) (z1:PySem.W.nsIn K mainGlobals "bool" = some none) (z2:PySem.W.nsIn K mainGlobals "dict" = some none) (z3:PySem.W.nsIn K mainGlobals "int" = some none) (z4:PySem.W.nsIn K mainGlobals "isinstance" = some none) (z5:PySem.W.nsIn K mainGlobals "len" = some none) (z6:PySem.W.nsIn K mainGlobals "list" = some none) (z7:PySem.W.nsIn K mainGlobals "min" = some none) (z8:PySem.W.nsIn K mainGlobals "range" = some none) (z9:PySem.W.nsIn K mainGlobals "sorted" = some none) (z10:PySem.W.nsIn K mainGlobals "str" = some none) (z11:PySem.W.nsIn K mainGlobals "sum" = some none) (z12:PySem.W.nsIn K mainGlobals "tuple" = some none) :
  ∃fd:FuncData,(∀(s:Shared)(v:Value),BindsTo s fd ⟨[v],[]⟩ [("_law_script",v)])/\∀base:Heap,K.In base->base.Ns mainGlobals mg->FnOk l.prog w K mg base CX0 149 fa fd ["_law_script"] (Fg.Ziv K):=by
 have e:=hfa.symm.trans (PySem.W.mg_of X G a26);cases e;have B:∀x∈ZcE,mg x=none:=List.forall_mem_cons.mpr ⟨PySem.W.mg_none_of X G z0,List.forall_mem_cons.mpr ⟨PySem.W.mg_none_of X G z1,List.forall_mem_cons.mpr ⟨PySem.W.mg_none_of X G z2,List.forall_mem_cons.mpr ⟨PySem.W.mg_none_of X G z3,List.forall_mem_cons.mpr ⟨PySem.W.mg_none_of X G z4,List.forall_mem_cons.mpr ⟨PySem.W.mg_none_of X G z5,List.forall_mem_cons.mpr ⟨PySem.W.mg_none_of X G z6,List.forall_mem_cons.mpr ⟨PySem.W.mg_none_of X G z7,List.forall_mem_cons.mpr ⟨PySem.W.mg_none_of X G z8,List.forall_mem_cons.mpr ⟨PySem.W.mg_none_of X G z9,List.forall_mem_cons.mpr ⟨PySem.W.mg_none_of X G z10,List.forall_mem_cons.mpr ⟨PySem.W.mg_none_of X G z11,List.forall_mem_cons.mpr ⟨PySem.W.mg_none_of X G z12,List.forall_mem_nil _⟩⟩⟩⟩⟩⟩⟩⟩⟩⟩⟩⟩⟩;have Cc_MOST_PLACES:∃t:Tok,mg "MOST_PLACES" = some (.int 64 t):=⟨_,PySem.W.mg_of X G y0⟩;have F1:=Zat (st:=ZbR) l1 c1 k1;have b1:=F1.binds (ps:=["_law_script","_law_state"]) fun _ _ _ _ _ _ us hl=>by obtain⟨_,_,rfl⟩:=ZfD hl;rfl
 have F2:=Zat (st:=ZbS) l2 c2 k2;have b2:=F2.binds (ps:=["_law_cell","_law_letters"]) fun _ _ _ _ _ _ us hl=>by obtain⟨_,_,rfl⟩:=ZfD hl;rfl
 have F3:=Zat (st:=ZbP) l3 c3 k3;have b3:=F3.binds (ps:=["_law_cell","_law_letters","_law_many"]) fun _ _ _ _ _ _ us hl=>by obtain⟨_,_,_,rfl⟩:=Zlm hl;rfl
 have F4:=Zat (st:=Zab) l4 c4 k4;have b4:=F4.binds (ps:=["_law_script","_law_state","_law_room","_law_names"]) fun _ _ _ _ _ _ us hl=>by obtain⟨_,_,_,_,rfl⟩:=ZlF hl;rfl
 have F5:=Zat (st:=Zan) l5 c5 k5;have b5:=F5.binds (ps:=["_law_script","_law_state"]) fun _ _ _ _ _ _ us hl=>by obtain⟨_,_,rfl⟩:=ZfD hl;rfl
 have F6:=Zat (st:=ZG) l6 c6 k6;have b6:=F6.binds (ps:=["_law_script"]) fun _ _ _ _ _ _ us hl=>by obtain⟨_,rfl⟩:=ZkV hl;rfl
 have F7:=Zat (st:=ZK) l7 c7 k7;have b7:=F7.binds (ps:=["_law_cell"]) fun _ _ _ _ _ _ us hl=>by obtain⟨_,rfl⟩:=ZkV hl;rfl
 have F8:=Zat (st:=Zaz) l8 c8 k8;have b8:=F8.binds (ps:=["_law_counts_here","_law_expr"]) fun _ _ _ _ _ _ us hl=>by obtain⟨_,_,rfl⟩:=ZfD hl;rfl
 have F9:=Zat (st:=Zap) l9 c9 k9;have b9:=F9.binds (ps:=["_law_names","_law_expr"]) fun _ _ _ _ _ _ us hl=>by obtain⟨_,_,rfl⟩:=ZfD hl;rfl
 have F10:=Zat (st:=Zai) l10 c10 k10;have b10:=F10.binds (ps:=["_law_book_here"]) fun _ _ _ _ _ _ us hl=>by obtain⟨_,rfl⟩:=ZkV hl;rfl
 have F11:=Zat (st:=Z7) l11 c11 k11;have b11:=F11.binds (ps:=["self","names"]) fun _ _ _ _ _ _ us hl=>by obtain⟨_,_,rfl⟩:=ZfD hl;rfl
 have F12:=Zat (st:=Za4) l12 c12 k12;have b12:=F12.binds (ps:=["expr"]) fun _ _ _ _ _ _ us hl=>by obtain⟨_,rfl⟩:=ZkV hl;rfl
 have F13:=Zat (st:=Zo) l13 c13 k13;have b13:=F13.binds (ps:=["self","expr"]) fun _ _ _ _ _ _ us hl=>by obtain⟨_,_,rfl⟩:=ZfD hl;rfl
 have F14:=Zat (st:=Zak) l14 c14 k14;have b14:=F14.binds (ps:=["self","lasts","firsts"]) fun _ _ _ _ _ _ us hl=>by obtain⟨_,_,_,rfl⟩:=Zlm hl;rfl
 have F15:=Zat (st:=Zn) l15 c15 k15;have b15:=F15.binds (ps:=["self","parts"]) fun _ _ _ _ _ _ us hl=>by obtain⟨_,_,rfl⟩:=ZfD hl;rfl
 have F16:=Zat (st:=Zt) l16 c16 k16;have b16:=F16.binds (ps:=["self","parts"]) fun _ _ _ _ _ _ us hl=>by obtain⟨_,_,rfl⟩:=ZfD hl;rfl
 have F17:=Zat (st:=Zw) l17 c17 k17;have b17:=F17.binds (ps:=["self","expr"]) fun _ _ _ _ _ _ us hl=>by obtain⟨_,_,rfl⟩:=ZfD hl;rfl
 have F18:=Zat (st:=ZaW) l18 c18 k18;have b18:=F18.binds (ps:=["book","expr"]) fun _ _ _ _ _ _ us hl=>by obtain⟨_,_,rfl⟩:=ZfD hl;rfl
 have F19:=Zat (st:=ZaJ) l19 c19 k19;have b19:=F19.binds (ps:=["_law_book_here","_law_expr"]) fun _ _ _ _ _ _ us hl=>by obtain⟨_,_,rfl⟩:=ZfD hl;rfl
 have F20:=Zat (st:=Zaf) l20 c20 k20;have b20:=F20.binds (ps:=["_law_told","_law_due_here"]) fun _ _ _ _ _ _ us hl=>by obtain⟨_,_,rfl⟩:=ZfD hl;rfl
 have F21:=Zat (st:=ZaS) l21 c21 k21;have b21:=F21.binds (ps:=["_law_lasts","_law_begun","_law_linked_here"]) fun _ _ _ _ _ _ us hl=>by obtain⟨_,_,_,rfl⟩:=Zlm hl;rfl
 have F22:=Zat (st:=Z8) l22 c22 k22;have b22:=F22.binds (ps:=["_law_names","_law_parts","_law_places","_law_linked_here"]) fun _ _ _ _ _ _ us hl=>by obtain⟨_,_,_,_,rfl⟩:=ZlF hl;rfl
 have F23:=Zat (st:=Z3) l23 c23 k23;have b23:=F23.binds (ps:=["_law_names","_law_expr","_law_places","_law_linked_here"]) fun _ _ _ _ _ _ us hl=>by obtain⟨_,_,_,_,rfl⟩:=ZlF hl;rfl
 have F24:=Zat (st:=ZaO) l24 c24 k24;have b24:=F24.binds (ps:=["_law_book_here","_law_expr"]) fun _ _ _ _ _ _ us hl=>by obtain⟨_,_,rfl⟩:=ZfD hl;rfl
 have F25:=Zat (st:=Zay) l25 c25 k25;have b25:=F25.binds (ps:=["_law_book_here","_law_expr","_law_many"]) fun _ _ _ _ _ _ us hl=>by obtain⟨_,_,_,rfl⟩:=Zlm hl;rfl
 have F26:=Zat (st:=Zbn) l26 c26 k26;refine⟨PySem.W.fnOf "law" "law" (ZZ Zbn) (Zc Zbn) (Zh Zbn) .none kV26 dc26 pm26 an26 cd26 ct26,fun s v=>.of_eq rfl,fun base _ _=>?_⟩;have xc:XC K mg X_GroveError X_TooMany X_BadForm X_NoBook X_NoName X_Ring X_TooBig X_TwiceNamed:=⟨PySem.W.mg_of X G xn_GroveError,PySem.W.mg_of X G xn_TooMany,PySem.W.mg_of X G xn_BadForm,PySem.W.mg_of X G xn_NoBook,PySem.W.mg_of X G xn_NoName,PySem.W.mg_of X G xn_Ring,PySem.W.mg_of X G xn_TooBig,PySem.W.mg_of X G xn_TwiceNamed,⟨xb1,xb2,xb3⟩,xb4,xb5,⟨d1_GroveError,d2_GroveError,d3_GroveError⟩,⟨d1_TooMany,d2_TooMany,d3_TooMany⟩,⟨d1_BadForm,d2_BadForm,d3_BadForm⟩,⟨d1_NoBook,d2_NoBook,d3_NoBook⟩,⟨d1_NoName,d2_NoName,d3_NoName⟩,⟨d1_Ring,d2_Ring,d3_Ring⟩,⟨d1_TooBig,d2_TooBig,d3_TooBig⟩,⟨d1_TwiceNamed,d2_TwiceNamed,d3_TwiceNamed⟩,⟨⟨_,_,_,_,_,_,_,_,_,_,_,_,_,_,_,xl_TooMany⟩,⟨⟨_,_,_,_,_,_,_,_,_,xg1,xg2,xg3,xg4⟩⟩,xc_TooMany,xt_TooMany,xk_TooMany⟩,xi_TooMany,xv_TooMany,xe_TooMany,m_TooMany_GroveError,m_TooMany_TooMany,m_TooMany_BadForm,m_TooMany_NoBook,m_TooMany_NoName,m_TooMany_Ring,m_TooMany_TooBig,m_TooMany_TwiceNamed⟩;have c_Joining:K27.JoC K C_Joining:=⟨⟨cp1,ch1,cq1,cs1⟩,cx1_0,cx1_1,cx1_2,cx1_3⟩;have g_l_next:Has l.prog w K mg base "_law_next" ["_law_script","_law_state"] 1 (K27.Zgd K):=⟨⟨f1,_,ZhV B  F1,b1,k1,PySem.W.mg_of X G a1⟩⟩;have g_l_word:Has l.prog w K mg base "_law_word" ["_law_cell","_law_letters"] 1 (K27.ZlG):=⟨⟨f2,_,ZhW B  F2,b2,k2,PySem.W.mg_of X G a2⟩⟩;have g_l_pool:Has l.prog w K mg base "_law_pool" ["_law_cell","_law_letters","_law_many"] 2 (K27.Zh9):=⟨⟨f3,_,Zif B g_l_word F3,b3,k3,PySem.W.mg_of X G a3⟩⟩;have rm:∀n:Nat,Has l.prog w K mg base "_law_made" ["_law_script","_law_state","_law_room","_law_names"] (n+2) (K27.ZfL K n):=by
  intro n
  induction n with
  | zero=>exact⟨⟨f4,_,FnOk.none (fun vs H Q E z=>by obtain⟨a,ns,st,i,lf,room,nh,ot,al,tg,_,_,_,h1,h2,_⟩:=z;lia),b4,k4,PySem.W.mg_of X G a4⟩⟩
  | succ n ih=>exact⟨⟨f4,_,ZhJ n B g_l_next ih F4,b4,k4,PySem.W.mg_of X G a4⟩⟩
 have g_l_made:=rm 9;have g_l_book:Has l.prog w K mg base "_law_book" ["_law_script","_law_state"] 12 (K27.Zg8 K):=⟨⟨f5,_,Zhs B g_l_next g_l_pool g_l_made F5,b5,k5,PySem.W.mg_of X G a5⟩⟩;have g_l_great_book:Has l.prog w K mg base "_law_great_book" ["_law_script"] 1 (K27.Zfb K):=⟨⟨f6,_,Zdz B  F6,b6,k6,PySem.W.mg_of X G a6⟩⟩;have g_l_greatest_book:Has l.prog w K mg base "_law_greatest_book" ["_law_cell"] 1 (K27.ZcG):=⟨⟨f7,_,Zck B  F7,b7,k7,PySem.W.mg_of X G a7⟩⟩;have rk:∀d:Nat,Has l.prog w K mg base "_law_known" ["_law_counts_here","_law_expr"] (d+1) (K27.Zd6 d):=by
  intro d
  induction d with
  | zero=>exact⟨⟨f8,_,FnOk.none (fun vs H Q E z=>by obtain⟨dn,p,bk,ks,e,_,_,_,_,hd,_⟩:=z;exact Nat.not_lt_zero _ hd),b8,k8,PySem.W.mg_of X G a8⟩⟩
  | succ d ih=>exact⟨⟨f8,_,ZgA d B ih F8,b8,k8,PySem.W.mg_of X G a8⟩⟩
 have g_l_known:=rk 14;have rco:∀d:Nat,Has l.prog w K mg base "_law_count" ["_law_names","_law_expr"] (d+1) (K27.Zcq d):=by
  intro d
  induction d with
  | zero=>exact⟨⟨f9,_,FnOk.none (fun vs H Q E z=>by obtain⟨dn,p,bk,ks,e,_,_,_,_,hd,_⟩:=z;exact Nat.not_lt_zero _ hd),b9,k9,PySem.W.mg_of X G a9⟩⟩
  | succ d ih=>exact⟨⟨f9,_,ZgP d B ih F9,b9,k9,PySem.W.mg_of X G a9⟩⟩
 have g_l_count:=rco 14;have g_l_counts:Has l.prog w K mg base "_law_counts" ["_law_book_here"] 16 (K27.Zea):=⟨⟨f10,_,Zff B g_l_known g_l_count F10,b10,k10,PySem.W.mg_of X G a10⟩⟩;have g_Joining:HasC l.prog w K mg base C_Joining "Joining" ["self","names"] 1 (K27.Zfe C_Joining):=⟨⟨f11,_,Zb1 B c_Joining  F11,b11,⟨cm1,a11,n11,ck1⟩,PySem.W.mg_of X G cn1⟩⟩;have g_parts_of:Has l.prog w K mg base "parts_of" ["expr"] 1 (K27.ZdG):=⟨⟨f12,_,Zft B  F12,b12,k12,PySem.W.mg_of X G a12⟩⟩;have rc:∀d:Nat,HasM l.prog w K mg base C_Joining "count_places" ["self","expr"] (d+2) (K27.Zdr C_Joining 48 d):=by
  intro d
  induction d with
  | zero=>exact⟨⟨f13,_,FnOk.none (fun vs H Q E z=>by obtain⟨a,dx,dN,dc,pl,nx,bk,p,e,_,_,_,_,hf,_⟩:=z;exact hf),b13,⟨a13,n13,k13⟩⟩⟩
  | succ d ih=>exact⟨⟨f13,_,Zbp 48 d B c_Joining ih g_parts_of F13,b13,⟨a13,n13,k13⟩⟩⟩
 have g_Joining_count_places:=rc 48;have g_Joining_link:HasM l.prog w K mg base C_Joining "link" ["self","lasts","firsts"] 1 (K27.ZfY C_Joining):=⟨⟨f14,_,ZdE B c_Joining  F14,b14,⟨a14,n14,k14⟩⟩⟩;have rw:∀d:Nat,HasM l.prog w K mg base C_Joining "walk" ["self","expr"] (2*d+49) (K27.ZdV C_Joining 48 d):=by
  intro d
  induction d with
  | zero=>exact⟨⟨f17,_,FnOk.none (fun vs H Q E z=>by obtain⟨a,dx,dN,dc,pl,nx,bk,P,S,p,e,_,_,_,_,hf,_⟩:=z;exact hf),b17,⟨a17,n17,k17⟩⟩⟩
  | succ d ih =>
   have ht:HasM l.prog w K mg base C_Joining "walk_turn" ["self","parts"] (2*d+48+2) (K27.ZcI C_Joining 48 d true):=⟨⟨f15,_,ZbT 48 d (2*d+48) B c_Joining ih g_Joining_link F15,b15,⟨a15,n15,k15⟩⟩⟩;have ho:HasM l.prog w K mg base C_Joining "walk_or" ["self","parts"] (2*d+48+2) (K27.ZcI C_Joining 48 d false):=⟨⟨f16,_,Zcn 48 d (2*d+48) B c_Joining ih F16,b16,⟨a16,n16,k16⟩⟩⟩;exact⟨⟨f17,_,Zdm 48 d (2*d+48) (Nat.le_add_left _ _) B c_Joining g_Joining_count_places ih ht ho g_Joining_link F17,b17,⟨a17,n17,k17⟩⟩⟩
 have g_Joining_walk:=rw 48;have g_joints:HasX l.prog w K mg base "joints" ["book","expr"] 146 (K27.Zeq 48 X_TooMany):=⟨⟨f18,_,Zhi B Cc_MOST_PLACES c_Joining xc g_Joining g_Joining_count_places g_Joining_walk F18,b18,k18,PySem.W.mg_of X G a18⟩⟩;have g_l_asked:Has l.prog w K mg base "_law_asked" ["_law_book_here","_law_expr"] 147 (K27.ZfG):=⟨⟨f19,_,ZgO B xc g_joints F19,b19,k19,PySem.W.mg_of X G a19⟩⟩;have ra:∀d:Nat,Has l.prog w K mg base "_law_alike" ["_law_told","_law_due_here"] (d) (K27.Zee d):=by
  intro d
  induction d with
  | zero=>exact⟨⟨f20,_,FnOk.none (fun vs H Q E z=>by obtain⟨x,y,_,h,_⟩:=z;cases h),b20,k20,PySem.W.mg_of X G a20⟩⟩
  | succ d ih=>exact⟨⟨f20,_,Zgp d B ih F20,b20,k20,PySem.W.mg_of X G a20⟩⟩
 have g_l_alike:=ra 32;have g_l_linked:Has l.prog w K mg base "_law_linked" ["_law_lasts","_law_begun","_law_linked_here"] 1 (K27.Zc9):=⟨⟨f21,_,Zfl B  F21,b21,k21,PySem.W.mg_of X G a21⟩⟩;have rl:∀d:Nat,Has l.prog w K mg base "_law_laid" ["_law_names","_law_expr","_law_places","_law_linked_here"] (2*d+1) (K27.Ze5 d):=by
  intro d
  induction d with
  | zero=>exact⟨⟨f23,_,FnOk.none (fun vs H Q E z=>by obtain⟨dN,pl,nx,bk,P,S,p,e,_,_,_,_,hf,_⟩:=z;exact hf),b23,k23,PySem.W.mg_of X G a23⟩⟩
  | succ d ih =>
   have ht:Has l.prog w K mg base "_law_turned" ["_law_names","_law_parts","_law_places","_law_linked_here"] (2*d+2) (K27.Zer d):=⟨⟨f22,_,ZfI d (2*d) B ih g_l_linked F22,b22,k22,PySem.W.mg_of X G a22⟩⟩;exact⟨⟨f23,_,ZhM d (2*d) B ih ht g_l_linked F23,b23,k23,PySem.W.mg_of X G a23⟩⟩
 have g_l_laid:=rl 48;have g_l_due:Has l.prog w K mg base "_law_due" ["_law_book_here","_law_expr"] 98 (K27.ZjU):=⟨⟨f24,_,ZiY B g_l_laid F24,b24,k24,PySem.W.mg_of X G a24⟩⟩;have g_l_holds:Has l.prog w K mg base "_law_holds" ["_law_book_here","_law_expr","_law_many"] 148 (K27.Zfj):=⟨⟨f25,_,Zgr B g_l_asked g_l_alike g_l_due F25,b25,k25,PySem.W.mg_of X G a25⟩⟩;exact ZkN B g_l_book g_l_great_book g_l_greatest_book g_l_counts g_l_holds g_l_count F26
theorem walk{l:PySem.W.OpenLaw}{q:Program}{loose:List Str}{XP:(Str->Option Value)->Heap->Prop}{YP:World->Heap->Prop}{d:DefRec}{K:Params->PySem.W.Frag}(hn:l.most=some 63)(hdf:d.params.defaults=[])
  (hY:∀(w:World)(h:Heap),YP w h->(K w.params).In h)
  (F:∀(w:World)(mg:Str->Option Value)(fa:Addr)(h:Heap),(K w.params).In h->h.Ns mainGlobals mg->mg d.name=some (.ref fa) ->
   ∃fd:FuncData,(∀(s:Shared)(u:Value),BindsTo s fd ⟨[u],[]⟩ [("_law_script",u)])/\∀base:Heap,(K w.params).In base->base.Ns mainGlobals mg->FnOk l.prog w (K w.params) mg base CX0 149 fa fd ["_law_script"] (Fg.Ziv (K w.params))) :
  PySem.W.WalkO q loose XP YP l.row.toRowW d [] (fun f vs=>PySem.call f vs) :=
 L2.Zhn (n:=63) (k:=149) (x := "_law_script") (CX:=fun _=>CX0) (sp:=fun w=>Fg.Ziv (K w.params)) hn (by decide) hdf ⟨rfl,by decide,by decide,rfl⟩ hY F (fun _ _ a ns hl _ hS=>⟨a,ns,rfl,hS,hl,fun _=>rfl⟩) fun _ _ _ _ _ z=>z
end K27
namespace PySem.W.Fast
def tw7295766476943226279:=0
def tw14187652279184961935:=0
def tw1385639365480691751:=0
def tw11952076703347909340:=0
def tw970125702650588188:=0
def tw5196735295307415179:=0
def tw6474531346297246792:=0
def tw16805596455094517647:=0
def tw2539513981661092627:=0
def tw14246832635801248809:=0
def tw1924052423690660567:=0
def tw4034016608301106218:=0
def tw5885665607546492515:=0
def tw17910227042400099732:=0
def tw13590335291826161271:=0
def tw1816383036756349000:=0
def tw13435737110441721362:=0
def tw18060065288772562447:=0
def tw18195099994560653410:=0
def tw14767092430575092068:=0
def tw5141756117566583631:=0
def tw4471333449223602925:=0
def tw13152133157325424085:=0
def tw2248254268234526612:=0
def tw14763670237298135142:=0
def tw7431882723764403882:=0
def tw17965206525276373059:=0
def tw1222325298379053793:=0
def tw10204208618829620305:=0
def tw3075341177496767419:=0
def tw4243520209470430970:=0
def tw15310397814453982424:=0
def tw8290987123884766029:=0
def tw12013259937577170482:=0
def tw2686406799974190612:=0
def tw12411157280307840510:=0
def tw14375243206313915081:=0
def tw15536046804945363215:=0
def tw1236244365273442580:=0
def tw15864645158907384907:=0
def tw17023952742493510630:=0
def tw16594502104202701508:=0
def tw3404241290517503433:=0
def tw154832476122233847:=0
def tw1400424453342823166:=0
def tw4870408956805767331:=0
def tw4898975602748960882:=0
def tw5672764872217146:=0
def tw16784191876516262740:=0
def tw9663985930817458187:=0
def tw14088330004823097675:=0
def tw9502370496420955929:=0
def tw3943528903727854019:=0
def tw2046682335409912098:=0
def tw2832938666389705172:=0
def tw10828506049602770038:=0
def tw4721874885956287122:=0
def tw13681258168546836675:=0
def tw18269751024962360095:=0
def tw5935383290277596334:=0
def tw14834682750278856865:=0
def tw16309824012200070315:=0
def tw5650558546494621820:=0
def tw5348554287833826653:=0
def tw17715971031812989012:=0
def tw16083285872790439103:=0
def tw8635273565600132443:=0
def tw3043303739970599450:=0
def tw2309991250716870952:=0
def tw14188809262766612859:=0
def tw12426049412174667481:=0
def tw9382452417406996364:=0
def tw1313158704700425699:=0
def tw9943727973742456627:=0
def tw11062663301590256735:=0
def tw2207903020538277512:=0
def tw14768729534493860289:=0
def tw8186863953523501175:=0
def tw3781553248488674882:=0
def tw5705372712071269195:=0
def tw4801120085658625178:=0
def tw1113547969568188338:=0
def tw7675038935987526660:=0
def tw10073192979613967442:=0
def tw8200074993863604231:=0
def tw2788617860354439956:=0
def tw5498884955966560482:=0
def tw11964544871868611053:=0
def tw9290356969099233145:=0
def tw6391922331257403738:=0
def tw860023128934561368:=0
def tw18328870391200634175:=0
def tw7190479131541502561:=0
def tw15787445436902065442:=0
def tw17772173687351453151:=0
def tw17896616440950529242:=0
def tw5508195200071671289:=0
def tw18006362957281580765:=0
def tw10155932995160490733:=0
def tw4529158148720714754:=0
def tw7934525755314515072:=0
def tw3135634705867445047:=0
def tw1045211371917844704:=0
def tw18345347953887678984:=0
def tw8410814925512891487:=0
def tw10825340317087093975:=0
def tw12666501433223227143:=0
def tw6543471901400470843:=0
def tw12452614885157141159:=0
def tw7550831606263391706:=0
def tw14670308919655229002:=0
def tw7035461176456741031:=0
def tw7083563694422480994:=0
def tw8619238738880725325:=0
def tw12117329796485508409:=0
def tw2219174711459243506:=0
def tw1657767363820228086:=0
def tw7654214870446372329:=0
def tw6189428324693272498:=0
def tw10490938874408160343:=0
def tw5819666759816842827:=0
def tw13861545072542934724:=0
def tw6487151962793833257:=0
def tw12157351095281722294:=0
def tw2291649793459959221:=0
def tw11797389553840309258:=0
def tw9629184613866709516:=0
def tw2895260764048905638:=0
def tw13367251687568774056:=0
def tw8369708222910567005:=0
def tw10872933393746891940:=0
def tw6070234175775154273:=0
def tw3518563553023316604:=0
def tw3492690040524301632:=0
def tw8353388018438872116:=0
def tw8765365918740481854:=0
def tw16476461233862836831:=0
def tw9922777484739822748:=0
def tw17626602510533738478:=0
def tw388409303798258973:=0
def tw4965864857939003809:=0
def tw439657011579948285:=0
def tw9209000667287328158:=0
def tw8393585603063264718:=0
def tw8615536967322509275:=0
def tw4480100779592614949:=0
def tw10526356389272780942:=0
def tw15403491445079631147:=0
def tw728317484546242372:=0
def tw8188303824784178384:=0
def tw12943364898709375225:=0
def tw5044215673618521465:=0
def tw12821776127976620812:=0
def tw18399273582419923247:=0
def tw14438438175386750624:=0
def tw12512561152111291332:=0
def tw15325413884342105447:=0
def tw4683309444542415484:=0
def tw10828622663977832215:=0
def tw14568792230189919918:=0
def tw11179196135294521170:=0
def tw261792782170718638:=0
def tw10282615259220413360:=0
def tw8112897865660025208:=0
def tw16085358364230339993:=0
def tw12073345839452671265:=0
def tw9002036403050387417:=0
def tw7218184377998084652:=0
def tw13743990263179931155:=0
def tw286960434712252546:=0
def tw10652057153667014703:=0
def tw9148497813687556902:=0
def tw7892956690270412056:=0
def tw4994866326313294084:=0
def tw12353083832891765821:=0
def tw10006472292351993637:=0
def tw11943090697553172940:=0
def tw16501325907677043466:=0
def tw11087749947202444708:=0
def tw4396124601024816232:=0
def tw7192192034581638709:=0
def tw2378837268307179266:=0
def tw6413188650568698645:=0
def tw15716923960162072387:=0
def tw11868220579201698437:=0
def tw3447704281573166222:=0
def tw15146115130765644608:=0
def tw13265448985450452072:=0
def tw13410174254419020671:=0
def tw2862992996622862431:=0
def tw12772467483431479193:=0
def tw1619547815933706515:=0
def tw8827898756632573248:=0
def tw430780703743756865:=0
def tw6332194646753713632:=0
def tw8155248903812572857:=0
def tw5015629799289330430:=0
def tw3790905590405067130:=0
def tw3000261781396776922:=0
def tw10161552808248858461:=0
def tw2083615289241561947:=0
def tw4411265256871280360:=0
def tw4681707388597010936:=0
def tw514193968954783747:=0
def tw14049529770578668923:=0
def tw2268471442832470251:=0
def tw4152826591785256733:=0
def tw17762537156440893178:=0
def tw8219262087082779253:=0
def tw2860888826535988657:=0
def tw12077241092619192155:=0
def tw4672508047987572753:=0
def tw16901460223423882617:=0
def tw10474979562576644823:=0
def tw3931647453002515610:=0
def tw16138578768778296628:=0
def tw8755332390130722286:=0
def tw12516575429538875898:=0
def tw813928396700450669:=0
def tw17614460814946370553:=0
def tw12717570949982513178:=0
def tw839308154651605233:=0
def tw5213477433712970117:=0
def tw7300656838613835861:=0
def tw7611026449864820090:=0
def tw14024208692349729185:=0
def tw2868591054326669320:=0
def tw7571942998948488341:=0
def tw12246341445999431931:=0
def tw65665967772262915:=0
def tw7046197364639732143:=0
def tw9903866388382021285:=0
def tw3165597574253990379:=0
def tw17377663559815662568:=0
def tw9134149874234917803:=0
def tw11728642242002104408:=0
def tw158557550824351642:=0
def tw3620744783199836080:=0
def tw9883585895344255668:=0
def tw15997285054653242123:=0
def tw4750856800692935103:=0
def tw10169792506772218382:=0
def tw4238795614278731476:=0
def tw5399155453087458003:=0
def tw3957080527476724660:=0
def tw4418786555402231928:=0
def tw4183027239322871118:=0
def tw15474503708650476515:=0
def tw8086833955234665199:=0
def tw11856996810824731785:=0
def tw15652311819943065702:=0
def tw469755005775541244:=0
def tw11548122876515054219:=0
def tw14771131562687909338:=0
def tw13166955013698395472:=0
def tw197655839509103004:=0
def tw12752276502489645341:=0
def tw17197247736034435493:=0
def tw17361255821280719027:=0
def tw713948668341791093:=0
def tw12365992839465129824:=0
def tw7681045549547752607:=0
def tw15787448252111483790:=0
def tw12890164213227658625:=0
def tw17000763753219557673:=0
def tw15795597349785324135:=0
def tw9414209375626847579:=0
def tw8062964947642652386:=0
def tw2775351829444413690:=0
def tw9586720871604721146:=0
def tw7054863390501611968:=0
def tw15361609658323086780:=0
def tw3593881627742987772:=0
def tw1082190834070053338:=0
def tw8785782195976701350:=0
def tw14084473688952442540:=0
def tw6521643398571019343:=0
def tw16051063292218752089:=0
def tw5035242913003781339:=0
def tw11077581645072638211:=0
def tw13035380953245152611:=0
def tw10297123998954445076:=0
def tw6104812654509708979:=0
def tw4898369084070838612:=0
def tw4950920763369657840:=0
def tw14500794834496978803:=0
def tw2510844309011317085:=0
def tw16885834927307002866:=0
def tw17088505738571796625:=0
def tw14188264641259391103:=0
def tw12547362023716021390:=0
def tw17254014531436332152:=0
def tw12164852826660365891:=0
def tw9686864561530040505:=0
def tw17546572319391542926:=0
def tw2759565221578932440:=0
def tw8497659220646596422:=0
def tw12934189471193318351:=0
def tw3425402093337203471:=0
def tw10571904726158901162:=0
def tw14095303464901131995:=0
def tw11272116198918278280:=0
def tw6041854694594952617:=0
def tw8195845720212692:=0
def tw3756699462424762763:=0
def tw6744756655150467027:=0
def tw2886913588646956558:=0
def tw1633345998831447912:=0
def tw7565289858102829395:=0
def tw11485600609493957139:=0
def tw5104384235279078036:=0
def tw12525814396691188097:=0
def tw14911567294095457184:=0
def tw6382591747270250616:=0
def tw18260680655995058082:=0
def tw16733083593676054602:=0
def tw472461551977687243:=0
def tw16726603044597378586:=0
def tw14129717901397213777:=0
def tw9892692945437429651:=0
def tw11026975103964233342:=0
def tw18345997293454113724:=0
def tw3206402714125701187:=0
def tw11200425545763147415:=0
def tw4086215462453298801:=0
def tw5341675017592543012:=0
def tw16466487535131247466:=0
def tw1254437473947596057:=0
def tw269943182586098098:=0
def tw9553609156612645532:=0
def tw18428715515566355867:=0
def tw1464135220051909723:=0
def tw14425233723725519746:=0
def tw10738260334633576803:=0
def tw1541321279077751061:=0
def tw13541033287109151214:=0
def tw13425734914825193608:=0
def tw12777616204212280654:=0
def tw2338688307907785887:=0
def tw3269399775645586060:=0
def tw15858062929187994982:=0
def tw10045220697688193170:=0
def tw12263914836671176037:=0
def tw8116939319588234075:=0
def tw5407470363337960495:=0
def tw13091665867629617456:=0
def tw1359310194024271242:=0
def tw5649133529575330116:=0
def tw15599139148432967621:=0
def tw1016816610852261776:=0
def tw13118630840891511182:=0
def tw14251880119100280308:=0
def tw15458692583661065319:=0
def tw7543634437363175515:=0
def tw2859891968175136570:=0
def tw15535446835161082541:=0
def tw16038309648099794462:=0
def tw3440180814533192389:=0
def tw14850066471709841777:=0
def tw16623802253263309262:=0
def tw9924788537908249162:=0
end PySem.W.Fast
open PySem PySem.W PyProof.Rows
set_option maxRecDepth 100000 in
set_option maxHeartbeats 0 in
theorem PySem.Challenge.cw_formgrove_k27_joints_holds : PySem.Challenge.rw_formgrove_k27_joints.Holds := by
 w_on;o_law;k_head;(case hw=>w_witness2)
 k_fill
 refine K27.walk (l:=PySem.Challenge.rw_formgrove_k27_joints) rfl rfl (fun w h Y=>PySem.W.kIn_of Y) ?F
 case F =>
  intro w mg fa h KX G hmg;refine' K27.Zk2 KX G hmg ?xn_GroveError ?xn_TooMany ?xn_BadForm ?xn_NoBook ?xn_NoName ?xn_Ring ?xn_TooBig ?xn_TwiceNamed ?xg1 ?xg2 ?xg3 ?xg4 ?xb1 ?xb2 ?xb3 ?xb4 ?xb5 ?d1_GroveError ?d2_GroveError ?d3_GroveError ?d1_TooMany ?d2_TooMany ?d3_TooMany ?d1_BadForm ?d2_BadForm ?d3_BadForm ?d1_NoBook ?d2_NoBook ?d3_NoBook ?d1_NoName ?d2_NoName ?d3_NoName ?d1_Ring ?d2_Ring ?d3_Ring ?d1_TooBig ?d2_TooBig ?d3_TooBig ?d1_TwiceNamed ?d2_TwiceNamed ?d3_TwiceNamed ?xl_TooMany ?xc_TooMany ?xt_TooMany ?xk_TooMany ?xv_TooMany ?xe_TooMany ?xi_TooMany ?m_TooMany_GroveError ?m_TooMany_TooMany ?m_TooMany_BadForm ?m_TooMany_NoBook ?m_TooMany_NoName ?m_TooMany_Ring ?m_TooMany_TooBig ?m_TooMany_TwiceNamed ?cn1 ?cp1 ?ch1 ?cq1 ?cs1 ?cm1 ?ck1 ?cx1_0 ?cx1_1 ?cx1_2 ?cx1_3 ?a1 ?l1 ?c1 ?k1 ?a2 ?l2 ?c2 ?k2 ?a3 ?l3 ?c3 ?k3 ?a4 ?l4 ?c4 ?k4 ?a5 ?l5 ?c5 ?k5 ?a6 ?l6 ?c6 ?k6 ?a7 ?l7 ?c7 ?k7 ?a8 ?l8 ?c8 ?k8 ?a9 ?l9 ?c9 ?k9 ?a10 ?l10 ?c10 ?k10 ?a11 ?l11 ?c11 ?k11 ?n11 ?a12 ?l12 ?c12 ?k12 ?a13 ?l13 ?c13 ?k13 ?n13 ?a14 ?l14 ?c14 ?k14 ?n14 ?a15 ?l15 ?c15 ?k15 ?n15 ?a16 ?l16 ?c16 ?k16 ?n16 ?a17 ?l17 ?c17 ?k17 ?n17 ?a18 ?l18 ?c18 ?k18 ?a19 ?l19 ?c19 ?k19 ?a20 ?l20 ?c20 ?k20 ?a21 ?l21 ?c21 ?k21 ?a22 ?l22 ?c22 ?k22 ?a23 ?l23 ?c23 ?k23 ?a24 ?l24 ?c24 ?k24 ?a25 ?l25 ?c25 ?k25 ?a26 ?l26 ?c26 ?k26 ?y0 ?z0 ?z1 ?z2 ?z3 ?z4 ?z5 ?z6 ?z7 ?z8 ?z9 ?z10 ?z11 ?z12
  (case xn_GroveError=>k_is)
  (case xn_TooMany=>k_is)
  (case xn_BadForm=>k_is)
  (case xn_NoBook=>k_is)
  (case xn_NoName=>k_is)
  (case xn_Ring=>k_is)
  (case xn_TooBig=>k_is)
  (case xn_TwiceNamed=>k_is)
  (case xg1=>k_is)
  (case xg2=>k_is)
  (case xg3=>rfl)
  (case xg4=>k_is)
  (case xb1=>k_is)
  (case xb2=>k_is)
  (case xb3=>k_is)
  (case xb4=>k_is)
  (case xb5=>k_is)
  (case d1_GroveError=>k_is)
  (case d2_GroveError=>k_is)
  (case d3_GroveError=>k_is)
  (case d1_TooMany=>k_is)
  (case d2_TooMany=>k_is)
  (case d3_TooMany=>k_is)
  (case d1_BadForm=>k_is)
  (case d2_BadForm=>k_is)
  (case d3_BadForm=>k_is)
  (case d1_NoBook=>k_is)
  (case d2_NoBook=>k_is)
  (case d3_NoBook=>k_is)
  (case d1_NoName=>k_is)
  (case d2_NoName=>k_is)
  (case d3_NoName=>k_is)
  (case d1_Ring=>k_is)
  (case d2_Ring=>k_is)
  (case d3_Ring=>k_is)
  (case d1_TooBig=>k_is)
  (case d2_TooBig=>k_is)
  (case d3_TooBig=>k_is)
  (case d1_TwiceNamed=>k_is)
  (case d2_TwiceNamed=>k_is)
  (case d3_TwiceNamed=>k_is)
  (case xl_TooMany=>k_is)
  (case xc_TooMany=>k_is)
  (case xt_TooMany=>k_is)
  (case xk_TooMany=>k_is)
  (case xv_TooMany=>k_is)
  (case xe_TooMany=>decide)
  (case xi_TooMany=>k_is)
  (case m_TooMany_GroveError=>k_is)
  (case m_TooMany_TooMany=>k_is)
  (case m_TooMany_BadForm=>k_is)
  (case m_TooMany_NoBook=>k_is)
  (case m_TooMany_NoName=>k_is)
  (case m_TooMany_Ring=>k_is)
  (case m_TooMany_TooBig=>k_is)
  (case m_TooMany_TwiceNamed=>k_is)
  (case cn1=>k_is)
  (case cp1=>k_is)
  (case ch1=>k_is)
  (case cq1=>k_is)
  (case cs1=>k_is)
  (case cm1=>k_is)
  (case ck1=>k_is)
  (case cx1_0=>k_is)
  (case cx1_1=>k_is)
  (case cx1_2=>k_is)
  (case cx1_3=>k_is)
  (case a1=>k_is)
  (case l1=>k_is)
  (case c1=>k_is)
  (case k1=>k_is)
  (case a2=>k_is)
  (case l2=>k_is)
  (case c2=>k_is)
  (case k2=>k_is)
  (case a3=>k_is)
  (case l3=>k_is)
  (case c3=>k_is)
  (case k3=>k_is)
  (case a4=>k_is)
  (case l4=>k_is)
  (case c4=>k_is)
  (case k4=>k_is)
  (case a5=>k_is)
  (case l5=>k_is)
  (case c5=>k_is)
  (case k5=>k_is)
  (case a6=>k_is)
  (case l6=>k_is)
  (case c6=>k_is)
  (case k6=>k_is)
  (case a7=>k_is)
  (case l7=>k_is)
  (case c7=>k_is)
  (case k7=>k_is)
  (case a8=>k_is)
  (case l8=>k_is)
  (case c8=>k_is)
  (case k8=>k_is)
  (case a9=>k_is)
  (case l9=>k_is)
  (case c9=>k_is)
  (case k9=>k_is)
  (case a10=>k_is)
  (case l10=>k_is)
  (case c10=>k_is)
  (case k10=>k_is)
  (case a11=>k_is)
  (case l11=>k_is)
  (case c11=>k_is)
  (case k11=>k_is)
  (case n11=>k_is)
  (case a12=>k_is)
  (case l12=>k_is)
  (case c12=>k_is)
  (case k12=>k_is)
  (case a13=>k_is)
  (case l13=>k_is)
  (case c13=>k_is)
  (case k13=>k_is)
  (case n13=>k_is)
  (case a14=>k_is)
  (case l14=>k_is)
  (case c14=>k_is)
  (case k14=>k_is)
  (case n14=>k_is)
  (case a15=>k_is)
  (case l15=>k_is)
  (case c15=>k_is)
  (case k15=>k_is)
  (case n15=>k_is)
  (case a16=>k_is)
  (case l16=>k_is)
  (case c16=>k_is)
  (case k16=>k_is)
  (case n16=>k_is)
  (case a17=>k_is)
  (case l17=>k_is)
  (case c17=>k_is)
  (case k17=>k_is)
  (case n17=>k_is)
  (case a18=>k_is)
  (case l18=>k_is)
  (case c18=>k_is)
  (case k18=>k_is)
  (case a19=>k_is)
  (case l19=>k_is)
  (case c19=>k_is)
  (case k19=>k_is)
  (case a20=>k_is)
  (case l20=>k_is)
  (case c20=>k_is)
  (case k20=>k_is)
  (case a21=>k_is)
  (case l21=>k_is)
  (case c21=>k_is)
  (case k21=>k_is)
  (case a22=>k_is)
  (case l22=>k_is)
  (case c22=>k_is)
  (case k22=>k_is)
  (case a23=>k_is)
  (case l23=>k_is)
  (case c23=>k_is)
  (case k23=>k_is)
  (case a24=>k_is)
  (case l24=>k_is)
  (case c24=>k_is)
  (case k24=>k_is)
  (case a25=>k_is)
  (case l25=>k_is)
  (case c25=>k_is)
  (case k25=>k_is)
  (case a26=>k_is)
  (case l26=>k_is)
  (case c26=>k_is)
  (case k26=>k_is)
  (case y0=>k_is)
  (case z0=>k_is)
  (case z1=>k_is)
  (case z2=>k_is)
  (case z3=>k_is)
  (case z4=>k_is)
  (case z5=>k_is)
  (case z6=>k_is)
  (case z7=>k_is)
  (case z8=>k_is)
  (case z9=>k_is)
  (case z10=>k_is)
  (case z11=>k_is)
  (case z12=>k_is)
