import PyProof.Rows.All
import Wide.All
import OpenK.AllK
import Wide.FinOn
import Lean
import PyProof.EqAt
import PyProof.EqKinds
import PyProof.TupleCall
import PySem.Challenge.RW_formgrove_k18_least_groves
set_option Elab.async false
set_option linter.all false
set_option maxRecDepth 100000
namespace L2
open PySem PySem.Spec PyProof.Rows
abbrev Key:=Sum Int Str
def Zgn:Key->Value->Bool
 | .inl k,v=>Value.isInt k v
 | .inr x,v=>Value.isStrOf x v
def ZlS(w:World):Key->Int
 | .inl k=>hashInt k
 | .inr x=>hashStr w x
theorem Z9:∀{k:Key}{v:Value},Zgn k v=true->(∃i t,k=Sum.inl i/\v=Value.int i t)\/(∃x t,k=Sum.inr x/\v=Value.str x t)
 | .inl i,v,h=>by
  obtain⟨t,e⟩:=Value.isInt_shape (k:=i) (v:=v) h;exact .inl ⟨i,t,rfl,e⟩
 | .inr x,v,h=>by
  obtain⟨t,e⟩:=Value.isStrOf_shape (x:=x) (v:=v) h;exact .inr ⟨x,t,rfl,e⟩
theorem Zhm(i:Int)(t:Tok):Zgn (.inl i) (.int i t)=true:=by simp[Zgn,Value.isInt]
theorem Zhw(x:Str)(t:Tok):Zgn (.inr x) (.str x t)=true:=by simp[Zgn,Value.isStrOf]
theorem ZkV(a b:Int):decide ((Sum.inl a:Key)=Sum.inl b)=(a == b):=by
 by_cases e:a=b
 ·subst e;simp
 ·have h : ¬ (Sum.inl a:Key)=Sum.inl b:=fun q=>e (Sum.inl.inj q);rw[decide_eq_false h];exact(beq_eq_false_iff_ne.mpr e).symm
theorem ZkL(a b:Str):decide ((Sum.inr a:Key)=Sum.inr b)=decide (a=b):=by
 by_cases e:a=b
 ·subst e;simp
 ·have h : ¬ (Sum.inr a:Key)=Sum.inr b:=fun q=>e (Sum.inr.inj q);rw[decide_eq_false h,decide_eq_false e]
theorem Zkj(a:Int)(b:Str):decide ((Sum.inl a:Key)=Sum.inr b)=false:=decide_eq_false (fun q=>nomatch q)
theorem ZkP(a:Str)(b:Int):decide ((Sum.inr a:Key)=Sum.inl b)=false:=decide_eq_false (fun q=>nomatch q)
def ZaZ(prog:Program)(w:World):PySem.KeyKind prog w Key where
 is:=Zgn
 hash:=ZlS w
 inj:=fun v a b ha hb=>by
  rcases Z9 ha with⟨i,t,rfl,rfl⟩|⟨x,t,rfl,rfl⟩
  ·rcases Z9 hb with⟨j,u,rfl,e⟩|⟨y,u,rfl,e⟩
   ·injection e with e1 _;rw[e1]
   ·exact nomatch e
  ·rcases Z9 hb with⟨j,u,rfl,e⟩|⟨y,u,rfl,e⟩
   ·exact nomatch e
   ·injection e with e1 _;rw[e1]
 byValue:=fun k v h=>by
  rcases Z9 h with⟨i,t,rfl,rfl⟩|⟨x,t,rfl,rfl⟩ <;> rfl
 pyHash:=fun hv h=>by
  rcases Z9 hv with⟨i,t,rfl,rfl⟩|⟨x,t,rfl,rfl⟩
  ·exact wpAny_pyHash_int h
  ·exact wpAny_pyHash_str h
 eqBool:=fun hu hv h=>by
  rcases Z9 hu with⟨i,t,rfl,rfl⟩|⟨x,t,rfl,rfl⟩
  ·rcases Z9 hv with⟨j,u,rfl,rfl⟩|⟨y,u,rfl,rfl⟩
   ·rw[ZkV] at h;exact wpAny_eqBool_int h
   ·rw[Zkj] at h;exact SeqAt.EqAt.int_str i t y u _ _ _ _ h
  ·rcases Z9 hv with⟨j,u,rfl,rfl⟩|⟨y,u,rfl,rfl⟩
   ·rw[ZkP] at h;exact SeqAt.EqAt.str_int x t j u _ _ _ _ h
   ·rw[ZkL] at h;exact wpAny_eqBool_str h
 «strs» := fun k x t v h=>by
  rcases Z9 h with⟨i,u,rfl,e⟩|⟨y,u,rfl,e⟩
  ·exact nomatch e
  ·injection e with e1 _;subst e1;cases v <;> rfl
theorem Zfm(prog:Program)(w:World)(i:Int)(t:Tok):(ZaZ prog w).is (.inl i) (.int i t)=true:=Zhm i t
theorem Ze3(prog:Program)(w:World)(x:Str)(t:Tok):(ZaZ prog w).is (.inr x) (.str x t)=true:=Zhw x t
inductive V where
 | non|bl (b:Bool)|int (i:Int)|str (x:Str)|byt (b:Array UInt8)|flt (b:UInt64)|ref (a:Addr)|ty (n:String)
 deriving DecidableEq
def RelV:V->Value->Prop
 | .non,u=>u=Value.none
 | .bl b,u=>u=Value.bool b
 | .int i,u=>∃t,u=Value.int i t
 | .str x,u=>∃t,u=Value.str x t
 | .byt b,u=>∃t,u=Value.bytes b t
 | .flt b,u=>∃t,u=Value.float b t
 | .ref a,u=>u=Value.ref a
 | .ty n,u=>u=Value.type n
abbrev Vals:List V->List Value->Prop:=Paired RelV
theorem Vals.length{xs:List V}{us:List Value}(r:Vals xs us):xs.length=us.length:=Paired.length r
theorem Vals.get:∀{xs:List V}{us:List Value}{i:Nat}{x:V},Vals xs us->xs[i]?= some x->∃u,us[i]?= some u/\RelV x u
 | _,_,_,_,.nil,e=>by simp at e
 | _,_,0,_,.cons r _,e=>by simp at e;subst e;exact⟨_,rfl,r⟩
 | _,_,i+1,x,.cons _ t,e=>by
  obtain⟨u,h1,h2⟩:=Vals.get (i:=i) (x:=x) t (by simpa using e);exact⟨u,by simpa using h1,h2⟩
theorem Vals.set{x:V}{u:Value}(r:RelV x u):∀{xs:List V}{us:List Value}(i:Nat),Vals xs us->Vals (xs.set i x) (us.set i u)
 | _,_,_,.nil=>.nil
 | _,_,0,.cons _ t=>.cons r t
 | _,_,i+1,.cons q t=>.cons q (Vals.set r i t)
theorem Vals.append:∀{xs ys:List V}{us ws:List Value},Vals xs us->Vals ys ws->Vals (xs++ys) (us++ws)
 | _,_,_,_,.nil,s=>s
 | _,_,_,_,.cons r t,s=>.cons r (Vals.append t s)
theorem Vals.take:∀{xs:List V}{us:List Value}(n:Nat),Vals xs us->Vals (xs.take n) (us.take n)
 | _,_,0,_=>.nil
 | _,_,_+1,.nil=>.nil
 | _,_,n+1,.cons r t=>.cons r (Vals.take n t)
theorem Vals.drop:∀{xs:List V}{us:List Value}(n:Nat),Vals xs us->Vals (xs.drop n) (us.drop n)
 | _,_,0,r=>r
 | _,_,_+1,.nil=>.nil
 | _,_,n+1,.cons _ t=>Vals.drop n t
def Zll:Option V->Option Value->Prop
 | some v,some u=>RelV v u
 | none,none=>True
 | _,_=>False
def KV{κ : Type}:List (κ × V)->List (κ × Value)->Prop:=Paired fun(p : κ × V)(q : κ × Value)=>p.1=q.1/\RelV p.2 q.2
def kV:Key->V
 | .inl i=>.int i
 | .inr x=>.str x
inductive HO where
 | lst (xs:List V)
 | tup (xs:List V)
 | dK (kvs:List (Key×V))|dT (kvs:List (List Key×V))
 | set (S:Int->Bool) (n:Nat)
 | ins (C dx:Addr) (fs:List (Str×V))
 | own (x:Addr)
 | xd (fs:List (Str×V))
 | met (f x:Addr)
 | rng (lo hi:Int)
 | frz (o:Obj) (u:HO)
 | tbl (ps:Array Value)
 | ext (φ : Heap->Prop)
abbrev Hp:=Addr->Option HO
def upd(H:Hp)(a:Addr)(o:HO):Hp:=fun b=>if b=a then some o else H b
theorem Zb{H:Hp}{a:Addr}{o:HO}:upd H a o a=some o:=by unfold upd;rw[if_pos rfl]
theorem Zh{H:Hp}{a b:Addr}{o:HO}(h:b≠a):upd H a o b=H b:=by unfold upd;rw[if_neg h]
theorem ZdF{H:Hp}{a:Addr}{o u:HO}:upd (upd H a o) a u=upd H a u:=by
 funext b;unfold upd;split <;> rfl
theorem Zm{H:Hp}{a b:Addr}{o:HO}(h:H a=some o)(h':H b=none):a≠b:=by
 intro e;subst e;rw[h] at h';cases h'
section
variable(P:Program)(w:World)
def Zaw(H:Hp)(h:Heap)(a:Addr):HO->Prop
 | .lst xs=>xs.length<=sizeLine/\∃(its:List Value)(n:Nat),Vals xs its/\h.get? a=some { cls:=.type "list",data:=.seq its.toArray n }
 | .tup xs=>xs.length<=sizeLine/\∃its:List Value,Vals xs its/\IsTup h a its.toArray
 | .dK kvs=>kvs.length<=sizeLine/\(a == sysModules)=false/\∃vs,KV kvs vs/\h.DictOf (ZaZ P w) a vs
 | .dT kvs=>kvs.length<=sizeLine/\(a == sysModules)=false/\∃xs:List (List Key×Addr×Value),
   Paired (fun(p:List Key×V)(q:List Key×Addr×Value)=>p.1=q.1/\H q.2.1=some (.tup (p.1.map kV))/\RelV p.2 q.2.2) kvs xs /\
   ∃o es ep,h.get? a=some o/\o.ExactDict/\o.data=.dict es ep/\es.toList=xs.map (entryOfKey (tupleKind (ZaZ P w)))/\(xs.map (·.1)).Nodup
 | .set S n=>h.SetOf (intKind P w) a S n
 | .ins C dx fs=>H dx=some (.own a)/\fs.length<=1000/\dx≠a/\h.get? a=some (PySem.W.instObj C dx) /\
   ∃mA,h.Ns1 dx mA/\(∀f,Zll (fs.lookup f) (mA f))/\PySem.Within mA (fs.map (·.1))
 | .own _=>∃o,h.get? a=some o
 | .xd fs=>∃mA,h.Ns1 a mA/\∀f,Zll (fs.lookup f) (mA f)
 | .rng lo hi=>∃t u v,h.get? a=some { cls:=.type "range",data:=.fields #[.int lo t,.int hi u,.int 1 v] }
 | .frz o u=>h.get? a=some o/\Zaw H h a u
 | .tbl ps=>h.get? a=some { cls:=.none,data:=.fields ps }
 | .met f x=>h.get? a=some (PySem.W.methodObj (.ref f) (.ref x))
 | .ext φ=>φ h/\(∃o,h.get? a=some o)/\∀h1 h2:Heap,φ h1->(∀o,h1.get? a=some o->h2.get? a=some o) -> φ h2
def HOk(H:Hp)(h:Heap):Prop := ∀a o,H a=some o->Zaw P w H h a o
end
section
variable{P:Program}{w:World}{H H':Hp}{h h':Heap}{a:Addr}{o:HO}
theorem Zaw.lt(x:Zaw P w H h a o):a<h.objs.size:=by
 cases o with
 | lst xs=>obtain⟨_,_,_,_,e⟩:=x;exact Heap.lt_size e
 | tup xs=>obtain⟨_,_,_,p⟩:=x;exact p.lt
 | dK kvs=>obtain⟨_,_,_,_,o,_,_,e,_⟩:=x;exact Heap.lt_size e
 | dT kvs=>obtain⟨_,_,_,_,o,_,_,e,_⟩:=x;exact Heap.lt_size e
 | set S n=>obtain⟨o,_,_,_,e,_⟩:=x;exact Heap.lt_size e
 | ins C dx fs=>obtain⟨_,_,_,e,_⟩:=x;exact Heap.lt_size e
 | own y=>obtain⟨_,e⟩:=x;exact Heap.lt_size e
 | xd fs=>obtain⟨_,⟨_,_,_,e,_⟩,_⟩:=x;exact Heap.lt_size e
 | rng lo hi=>obtain⟨_,_,_,e⟩:=x;exact Heap.lt_size e
 | frz ob u=>obtain⟨e,_⟩:=x;exact Heap.lt_size e
 | tbl ps=>exact Heap.lt_size (show h.get? a=some _ from x)
 | met f y=>exact Heap.lt_size (show h.get? a=some _ from x)
 | ext φ=>obtain⟨_,⟨_,e⟩,_⟩:=x;exact Heap.lt_size e
theorem Paired.mapP{α β : Type}{F G : α -> β -> Prop}:∀{l₁ : List α}{l₂ : List β},Paired F l₁ l₂ -> (∀a b,F a b->G a b)->Paired G l₁ l₂
 | _,_,.nil,_=>.nil
 | _,_,.cons r t,f=>.cons (f _ _ r) (Paired.mapP t f)
theorem Zaw.stay(x:Zaw P w H h a o)(k:∀b u,(b=a\/H b=some (.own a))->h.get? b=some u->h'.get? b=some u)
  (ho:∀b,H b=some (.own a)->H' b=some (.own a)) (ht:∀b xs,H b=some (.tup xs)->H' b=some (.tup xs)):Zaw P w H' h' a o:=by
 induction o with
 | lst xs=>obtain⟨z,its,n,r,e⟩:=x;exact⟨z,its,n,r,k _ _ (.inl rfl) e⟩
 | tup xs=>obtain⟨z,its,r,ob,e,c⟩:=x;exact⟨z,its,r,ob,k _ _ (.inl rfl) e,c⟩
 | dK kvs=>obtain⟨z,y,vs,r,ob,es,ep,e,c⟩:=x;exact⟨z,y,vs,r,ob,es,ep,k _ _ (.inl rfl) e,c⟩
 | dT kvs =>
  obtain⟨z,y,xs,r,ob,es,ep,e,c⟩:=x;exact⟨z,y,xs,Paired.mapP r fun p q z=>⟨z.1,ht _ _ z.2.1,z.2.2⟩,ob,es,ep,k _ _ (.inl rfl) e,c⟩
 | set S n=>obtain⟨ob,es,ep,t,e,c⟩:=x;exact⟨ob,es,ep,t,k _ _ (.inl rfl) e,c⟩
 | ins C dx fs =>
  obtain⟨d,z,ne,e,mA,⟨od,es,ep,e2,c⟩,r⟩:=x;exact⟨ho _ d,z,ne,k _ _ (.inl rfl) e,mA,⟨od,es,ep,k _ _ (.inr d) e2,c⟩,r⟩
 | own y=>obtain⟨ob,e⟩:=x;exact⟨ob,k _ _ (.inl rfl) e⟩
 | xd fs=>obtain⟨mA,⟨od,es,ep,e,c⟩,r⟩:=x;exact⟨mA,⟨od,es,ep,k _ _ (.inl rfl) e,c⟩,r⟩
 | rng lo hi=>obtain⟨t,u,v,e⟩:=x;exact⟨t,u,v,k _ _ (.inl rfl) e⟩
 | frz ob u ih=>obtain⟨e,q⟩:=x;exact⟨k _ _ (.inl rfl) e,ih q⟩
 | tbl ps =>
  have e:h.get? a=some { cls:=.none,data:=.fields ps }:=x;show h'.get? a=some { cls:=.none,data:=.fields ps };exact k a _ (.inl rfl) e
 | met f y =>
  have e:h.get? a=some (PySem.W.methodObj (.ref f) (.ref y)):=x;show h'.get? a=some (PySem.W.methodObj (.ref f) (.ref y));exact k a _ (.inl rfl) e
 | ext φ=>obtain⟨p,⟨o,e⟩,st⟩:=x;exact⟨st _ _ p fun o q=>k _ _ (.inl rfl) q,⟨o,k _ _ (.inl rfl) e⟩,st⟩
theorem HOk.lt(x:HOk P w H h)(e:H a=some o):a<h.objs.size:=(x a o e).lt
theorem HOk.fresh(x:HOk P w H h)(e:h.objs.size<=a):H a=none:=by
 cases q:H a with
 | none=>rfl
 | some u=>exact absurd (Nat.lt_of_lt_of_le (x.lt q) e) (Nat.lt_irrefl _)
theorem HOk.kept(x:HOk P w H h)(k:∀b u,h.get? b=some u->h'.get? b=some u):HOk P w H h':=fun a o e =>
 (x a o e).stay (fun b u _ q=>k b u q) (fun _ q=>q) fun _ _ q=>q
theorem HOk.laid(x:HOk P w H h)(k:∀b u,h.get? b=some u->h'.get? b=some u)(hp:h.objs.size<=a)(new:Zaw P w (upd H a o) h' a o):HOk P w (upd H a o) h':=fun b u e=>by
 have hn:=x.fresh hp;by_cases hb:b=a
 ·subst hb;rw[Zb] at e;cases e;exact new
 ·rw[Zh hb] at e;exact(x b u e).stay (fun c v _ q=>k c v q) (fun c q=>by rw[Zh (Zm q hn)];exact q) fun c xs q=>by rw[Zh (Zm q hn)];exact q
end
def Rd(H:Hp)(a:Addr)(u:HO):Prop:=H a=some u\/∃o,H a=some (.frz o u)
theorem Rd.ok{P:Program}{w:World}{H:Hp}{h:Heap}{a:Addr}{u:HO}(r:Rd H a u)(x:HOk P w H h):Zaw P w H h a u:=by
 rcases r with r|⟨o,r⟩
 ·exact x a u r
 ·obtain⟨_,q⟩:=x a _ r;exact q
def Mut:Option HO->Prop
 | some (.lst _)=>True
 | some (.dK _)=>True
 | some (.dT _)=>True
 | some (.set _ _)=>True
 | some (.ins _ _ _)=>True
 | some (.ext _)=>True
 | _=>False
section
variable{P:Program}{w:World}{H:Hp}{h h':Heap}{x e:Addr}{o':HO}
theorem HOk.write(ok:HOk P w H h)(mu:Mut (H x))(he:e=x\/H e=some (.own x))(k:∀b u,b≠e->h.get? b=some u->h'.get? b=some u)(heo:∃u,h'.get? e=some u)
  (new:Zaw P w (upd H x o') h' x o'):HOk P w (upd H x o') h':=fun b u q=>by
 have nown:∀c y,H c=some (.own y)->c≠x:=fun c y r z=>by subst z;rw[r] at mu;exact mu
 have ntup:∀c xs,H c=some (.tup xs)->c≠x:=fun c xs r z=>by subst z;rw[r] at mu;exact mu
 by_cases hb:b=x
 ·subst hb;rw[Zb] at q;cases q;exact new
 ·rw[Zh hb] at q;by_cases hbe:b=e
  ·have q':H b=some (.own x):=by
    rcases he with z|z
    ·exact absurd (hbe.trans z) hb
    ·rw[hbe];exact z
   rw[q] at q';cases q';obtain⟨v,hv⟩:=heo;exact⟨v,by rw[hbe];exact hv⟩
  ·refine(ok b u q).stay (fun c v hc r=>k c v ?_ r) (fun c r=>by rw[Zh (nown c b r)];exact r) fun c xs r=>by rw[Zh (ntup c xs r)];exact r
   rcases hc with rfl|hc
   ·exact hbe
   ·rintro rfl;rcases he with z|z
    ·exact nown c b hc z
    ·rw[hc] at z;cases z;exact hb rfl
end
structure Un(fs ex:List Addr)(H H':Hp)(h h':Heap):Prop where
 keep:∀b o,h.get? b=some o->H b=none->b∉fs->b∉ex->h'.get? b=some o
 slot:∀b o,h.get? b=some o->H b=none->b∈fs->b∉ex->∃sl,h'.get? b=some { o with slots:=sl }
 free:∀b o,h.get? b=some o->H b=none->b∉ex->H' b=none
 there:∀b o,h.get? b=some o->b∉ex->∃o',h'.get? b=some o'
 tups:∀b xs,H b=some (.tup xs)->H' b=some (.tup xs)
 frzs:∀b o u,H b=some (.frz o u)->H' b=some (.frz o u)
 tbls:∀b ps,H b=some (.tbl ps)->∃more,H' b=some (.tbl (ps++more))
section
variable{fs fs' ex ex':List Addr}{H H1 H2:Hp}{h h1 h2 h':Heap}{a x e:Addr}{o:HO}
theorem Un.any(u:Un fs ex H H1 h h1){b:Addr}{ob:Obj}(q:h.get? b=some ob)(n:H b=none)(hx:b∉ex):∃sl,h1.get? b=some { ob with slots:=sl }:=by
 by_cases hb:b∈fs
 ·exact u.slot b ob q n hb hx
 ·exact⟨ob.slots,u.keep b ob q n hb hx⟩
theorem Un.kept(k:∀b u,h.get? b=some u->h'.get? b=some u):Un fs ex H H h h' :=
 ⟨fun b ob q _ _ _=>k b ob q,fun b ob q _ _ _=>⟨ob.slots,k b ob q⟩,fun _ _ _ n _=>n,fun b ob q _=>⟨ob,k b ob q⟩,fun _ _ q=>q,fun _ _ _ q=>q,fun _ ps q=>⟨#[],by rw[q];simp⟩⟩
theorem Un.refl:Un fs ex H H h h:=Un.kept fun _ _ q=>q
theorem Un.laid(k:∀b u,h.get? b=some u->h'.get? b=some u)(hp:h.objs.size<=a)(hn:H a=none):Un fs ex H (upd H a o) h h' where
 keep:=fun b u q _ _ _=>k b u q
 slot:=fun b u q _ _ _=>⟨u.slots,k b u q⟩
 free:=fun b u q n _=>by rw[Zh (Nat.ne_of_lt (Nat.lt_of_lt_of_le (Heap.lt_size q) hp))];exact n
 there:=fun b u q _=>⟨u,k b u q⟩
 tups:=fun b xs q=>by rw[Zh (Zm q hn)];exact q
 frzs:=fun b u xs q=>by rw[Zh (Zm q hn)];exact q
 tbls:=fun b ps q=>⟨#[],by rw[Zh (Zm q hn),q];simp⟩
theorem Un.write(mu:Mut (H x))(he:e=x\/H e=some (.own x))(k:∀b u,b≠e->h.get? b=some u->h'.get? b=some u)(heo:∃u,h'.get? e=some u):Un fs ex H (upd H x o) h h':=by
 have hx:∀b,H b=none->b≠x:=fun b n z=>by subst z;rw[n] at mu;exact mu
 have hb:∀b,H b=none->b≠e:=fun b n z=>by
  subst z;rcases he with r|r
  ·exact hx b n r
  ·rw[n] at r;cases r
 have hm:∀b u,H b=some u -> ¬ Mut (some u)->b≠x:=fun b u q nm z=>by subst z;rw[q] at mu;exact nm mu
 refine⟨fun b u q n _ _=>k b u (hb b n) q,fun b u q n _ _=>⟨u.slots,k b u (hb b n) q⟩,fun b u q n _=>by rw[Zh (hx b n)];exact n,fun b u q _=>?_,
  fun b xs q=>by rw[Zh (hm b _ q fun z=>z)];exact q,fun b u xs q=>by rw[Zh (hm b _ q fun z=>z)];exact q,fun b ps q=>⟨#[],by rw[Zh (hm b _ q fun z=>z),q];simp⟩⟩
 by_cases hbe:b=e
 ·subst hbe;exact heo
 ·exact⟨u,k b u hbe q⟩
end
def trk(h:Heap)(H:Hp):List Addr:=(List.range h.objs.size).filter fun a=>(H a).isSome
def Zh9(h:Heap)(H:Hp):Heap:=PySem.W.hideAll h (trk h H)
theorem ZhE(h:Heap)(H:Hp):(Zh9 h H).objs.size=h.objs.size:=PySem.W.hideAll_size _ _
theorem ZiV{h:Heap}{H:Hp}{b:Addr}{o:Obj}(e:h.get? b=some o)(n:H b=none):(Zh9 h H).get? b=some o :=
 PySem.W.hideAll_get _ e fun hm=>by
  have q:(H b).isSome=true:=(List.mem_filter.mp hm).2;rw[n] at q;simp at q
theorem ZjD{h:Heap}{H:Hp}{b:Addr}{o:Obj}(e:(Zh9 h H).get? b=some o):h.get? b=some o/\H b=none:=by
 have e':h.get? b=some o:=PySem.W.of_hideAll (trk h H) e;refine⟨e',?_⟩;cases q:H b with
 | none=>rfl
 | some x =>
  have hm:b∈trk h H:=List.mem_filter.mpr ⟨List.mem_range.mpr (Heap.lt_size e'),by simp[q]⟩;have z:(Zh9 h H).get? b=none:=PySem.W.hideAll_none (trk h H) hm;rw[z] at e;cases e
structure Mod(K:PySem.W.Frag)(mg:Str->Option Value)(base:Heap):Prop where
 kin:K.In base
 glob:base.Ns mainGlobals mg
 blt:∃mb,base.Ns builtinsNs mb/\∀x:Str,x ≠ "__name__" -> mb x=bootBuiltins x
 nolimit:base.NoLimit
/-- the context: a def's body (or a comprehension's block) running. base: fixed through the whole law;s₀,H₀: the entry;outer: the frames whose slots others may change (a def's callers);stack: all frames that run;
   ex: iterators that were made ahead of the entry and are walked here (a comprehension's);fn: the names whose cells were made at the entry (a def: all;a comprehension's block: its own);calm: not within an except suite;pn: pins that every state bears;xe: what is wanted of an exception that leaves the code -/
structure Cx where
 prog:Program
 w:World
 K:PySem.W.Frag
 mg:Str->Option Value
 base:Heap
 A:Around
 N:List Str
 s₀ : Shared
 H₀ : Hp
 env:Env
 outer:List Env
 stack:List Env
 ex:List Addr
 fn:Str->Bool
 calm:Bool
 pn:List (Addr×Obj)
 xe:Value->Shared->Prop
def frs(l:List Env):List Addr:=l.filterMap (·.frame)
abbrev Cx.fs(X:Cx):List Addr:=frs X.outer
def Vis(sc:Scope)(x:Str):Prop:=sc.names.lookup x=some .local\/sc.names.lookup x=some .cell\/sc.names.lookup x=some .free
def Loc(sc:Scope)(x:Str):Prop:=sc.names.lookup x=some .local\/sc.names.lookup x=some .cell
def Look(env:Env)(h:Heap)(m:Str->Option Value)(x:Str)(u:Value):Prop :=
 (env.kindOf x=some .local/\m x=some u)\/((env.kindOf x=some .cell\/env.kindOf x=some .free)/\∃c,env.cells.lookup x=some c/\h.IsCell c (some u))
structure Cx.Ok(X:Cx):Prop where
 mod:Mod X.K X.mg X.base
 kind:X.env.scope.kind=.function
 glob:X.env.globals=mainGlobals
 blt:X.env.builtins=builtinsNs
 above:X.s₀.heap.objs.size<=X.env.locals
 inj:∀x y c,X.env.cells.lookup x=some c->X.env.cells.lookup y=some c->x=y
 has:∀x,(X.env.kindOf x=some .cell\/X.env.kindOf x=some .free)->∃c,X.env.cells.lookup x=some c
 cab:∀x c,X.fn x=true->X.env.cells.lookup x=some c->X.s₀.heap.objs.size<=c
 hd:X.calm=true->X.A.handled=none
 frames:X.A.frames=some X.stack
 stk:X.stack=X.outer\/(X.stack=X.env::X.outer/\X.env.frame=some X.env.locals)
 exf:∀b∈X.ex,b≠X.env.locals/\∀x c,X.env.cells.lookup x=some c->c≠b
 bs:∀b o,X.base.get? b=some o->X.s₀.heap.get? b=some o/\X.H₀ b=none
 bsz:X.base.objs.size<=X.s₀.heap.objs.size
 noex:∀b o,X.base.get? b=some o->b∉X.ex
 exfs:∀b∈X.ex,b∉X.fs
 funs:X.s₀.heap.FunFrames X.base X.outer
 frf:∀b∈X.fs,X.H₀ b=none
structure Inv(X:Cx)(pins:List (Addr×Obj))(σ : List (Option V))(H:Hp)(s:Shared):Prop where
 ok:X.Ok
 os:s.os=X.s₀.os
 bare:AllBare s.gens
 base:Un X.fs X.ex X.H₀ H X.s₀.heap s.heap
 loc:∃m,s.heap.Ns X.env.locals m/\∀(i:Nat)(x:Str)(v:V),X.N[i]?= some x -> σ[i]?= some (some v)->Vis X.env.scope x->∃u,RelV v u/\Look X.env s.heap m x u
 cell:∀x c,X.env.cells.lookup x=some c->∃v,s.heap.IsCell c v
 free:H X.env.locals=none
 freeC:∀x c,X.env.cells.lookup x=some c->H c=none
 pin:∀p∈X.pn++pins,s.heap.get? p.1=some p.2/\H p.1=none/\p.1≠X.env.locals/\p.1∉X.fs/\∀v,p.2.data ≠ .cell v
 hok:HOk X.prog X.w H s.heap
 len : σ.length=X.N.length
section
variable{X:Cx}{pins:List (Addr×Obj)}{σ : List (Option V)}{H H':Hp}{s:Shared}{h':Heap}
theorem Cx.Ok.nofr(ok:X.Ok){b:Addr}{o:Obj}(e:X.base.get? b=some o):b∉X.fs:=fun hb=>by
 have:=(ok.funs.mem hb).1;rw[e] at this;cases this
theorem Inv.bs(I:Inv X pins σ H s):∀b o,X.base.get? b=some o->s.heap.get? b=some o/\H b=none:=fun b o e =>
 ⟨I.base.keep b o (I.ok.bs b o e).1 (I.ok.bs b o e).2 (I.ok.nofr e) (I.ok.noex b o e),I.base.free b o (I.ok.bs b o e).1 (I.ok.bs b o e).2 (I.ok.noex b o e)⟩
theorem Inv.bk(I:Inv X pins σ H s):∀b o,X.base.get? b=some o->s.heap.get? b=some o:=fun b o e=>(I.bs b o e).1
theorem Inv.mod(I:Inv X pins σ H s):Mod X.K X.mg X.base:=I.ok.mod
theorem Inv.kIn(I:Inv X pins σ H s):X.K.In s.heap:=I.ok.mod.kin.keeps I.bk
theorem Inv.nolimit(I:Inv X pins σ H s):s.heap.NoLimit:=I.ok.mod.nolimit.keeps I.bk
theorem Inv.lt(I:Inv X pins σ H s):X.env.locals<s.heap.objs.size:=let ⟨_,hn,_⟩:=I.loc;hn.lt
theorem Inv.sz(I:Inv X pins σ H s):X.s₀.heap.objs.size<=s.heap.objs.size:=Nat.le_trans I.ok.above (Nat.le_of_lt I.lt)
theorem Inv.nofs(I:Inv X pins σ H s){a:Addr}(h:s.heap.objs.size<=a):a∉X.fs:=fun hb=>by
 obtain⟨_,o,ho,_⟩:=I.ok.funs.mem hb;exact absurd (Nat.lt_of_lt_of_le (Heap.lt_size ho) (Nat.le_trans I.sz h)) (Nat.lt_irrefl _)
theorem Inv.cne(I:Inv X pins σ H s):∀x c,X.env.cells.lookup x=some c->c≠X.env.locals:=fun x c e z=>by
 obtain⟨v,o,ho,hd⟩:=I.cell x c e;obtain⟨m,⟨o',es,ep,ho',hd',_⟩,_⟩:=I.loc;rw[z,ho'] at ho;cases ho;rw[hd'] at hd;cases hd
theorem Inv.funs(I:Inv X pins σ H s):s.heap.FunFrames X.base X.outer:=by
 have all:∀(l:List Env),(∀b∈frs l,b∈X.fs)->X.s₀.heap.FunFrames X.base l->s.heap.FunFrames X.base l:=by
  intro l
  induction l with
  | nil=>intro _ _;trivial
  | cons env r ih =>
   intro hs hl;obtain⟨hk,⟨L,o,hf,hn,ho,hd⟩,hr⟩:=hl;have hL:L∈X.fs:=hs L (by unfold frs;rw[List.filterMap_cons,hf];exact List.mem_cons_self);obtain⟨sl,e⟩:=I.base.slot L o ho (I.ok.frf L hL) hL fun z=>I.ok.exfs L z hL;exact⟨hk,⟨L,_,hf,hn,e,hd⟩,ih (fun b hb=>hs b (by unfold frs;rw[List.filterMap_cons,hf];exact List.mem_cons_of_mem _ hb)) hr⟩
 exact all X.outer (fun _ hb=>hb) I.ok.funs
theorem Inv.stack(I:Inv X pins σ H s):s.heap.FunFrames X.base X.stack:=by
 rcases I.ok.stk with e|⟨e,hf⟩
 ·rw[e];exact I.funs
 ·rw[e];obtain⟨m,hn,_⟩:=I.loc;refine .cons (by rw[I.ok.kind];decide) hf hn ?_ I.funs;exact Heap.get?_none_of_le (Nat.le_trans I.ok.bsz I.ok.above)
theorem Inv.stkSub(I:Inv X pins σ H s):∀b∈frs X.stack,b∈X.env.locals::X.fs:=fun b hb=>by
 rcases I.ok.stk with e|⟨e,hf⟩
 ·rw[e] at hb;exact List.mem_cons_of_mem _ hb
 ·rw[e] at hb;unfold frs at hb;rw[List.filterMap_cons,hf] at hb;exact hb
theorem Inv.stkFree(I:Inv X pins σ H s):∀b∈frs X.stack,H b=none:=fun b hb=>by
 rcases List.mem_cons.mp (I.stkSub b hb) with e|hb
 ·rw[e];exact I.free
 ·obtain⟨_,o,ho,_⟩:=I.ok.funs.mem hb;exact I.base.free b o ho (I.ok.frf b hb) fun z=>I.ok.exfs b z hb
theorem Inv.step{g':Array GenState}{t':Nat}{d':Drawn}{ch:List Addr}(I:Inv X pins σ H s)
  (hch:∀b∈ch,(b∈X.ex\/X.s₀.heap.objs.size<=b)/\b≠X.env.locals/\(∀x c,X.env.cells.lookup x=some c->c≠b)/\∀p∈X.pn++pins,p.1≠b)
  (keep:∀b o,b≠X.env.locals->b∉X.fs->b∉ch->s.heap.get? b=some o->H b=none->h'.get? b=some o)
  (slot:∀b o,b≠X.env.locals->b∈X.fs->b∉ch->s.heap.get? b=some o->H b=none->∃sl,h'.get? b=some { o with slots:=sl }) (free:∀b o,b∉ch->s.heap.get? b=some o->H b=none->H' b=none)
  (there:∀b o,b∉ch->s.heap.get? b=some o->∃o',h'.get? b=some o')
  (tups:∀b xs,H b=some (.tup xs)->H' b=some (.tup xs)) (frzs:∀b o u,H b=some (.frz o u)->H' b=some (.frz o u)) (tbls:∀b ps,H b=some (.tbl ps)->∃more,H' b=some (.tbl (ps++more)))
  (ns:∀m,s.heap.Ns X.env.locals m->h'.Ns X.env.locals m) (hok:HOk X.prog X.w H' h') (hg:AllBare g') :
  Inv X pins σ H' { s with heap:=h',gens:=g',drawn:=d',toks:=t' }:=by
 have neL:∀b o,X.s₀.heap.get? b=some o->b≠X.env.locals:=fun b o e=>Nat.ne_of_lt (Nat.lt_of_lt_of_le (Heap.lt_size e) I.ok.above);have neC:∀b o,X.s₀.heap.get? b=some o->b∉X.ex->b∉ch:=fun b o e hx hb=>by
  rcases(hch b hb).1 with z|z
  ·exact hx z
  ·exact absurd (Nat.lt_of_lt_of_le (Heap.lt_size e) z) (Nat.lt_irrefl _)
 have cellK:∀x c,X.env.cells.lookup x=some c->∀v,s.heap.IsCell c v->h'.IsCell c v:=fun x c e v ⟨o,ho,hd⟩=>by
  have nch:c∉ch:=fun z=>(hch c z).2.2.1 x c e rfl;by_cases hc:c∈X.fs
  ·obtain⟨sl,q⟩:=slot c o (I.cne x c e) hc nch ho (I.freeC x c e);exact⟨_,q,hd⟩
  ·exact⟨o,keep c o (I.cne x c e) hc nch ho (I.freeC x c e),hd⟩
 refine⟨I.ok,I.os,hg,⟨fun b o e n hb hx=>?_,fun b o e n hb hx=>?_,fun b o e n hx=>?_,fun b o e hx=>?_,fun b xs e=>tups b xs (I.base.tups b xs e),fun b o xs e=>frzs b o xs (I.base.frzs b o xs e),fun b ps e=>?_⟩,?_,fun x c e=>?_,?_,fun x c e=>?_,fun p hp=>?_,hok,I.len⟩
 ·exact keep b o (neL b o e) hb (neC b o e hx) (I.base.keep b o e n hb hx) (I.base.free b o e n hx)
 ·obtain⟨sl,e1⟩:=I.base.slot b o e n hb hx;obtain⟨sl',e2⟩:=slot b _ (neL b o e) hb (neC b o e hx) e1 (I.base.free b o e n hx);exact⟨sl',e2⟩
 ·obtain⟨o',e1⟩:=I.base.there b o e hx;exact free b o' (neC b o e hx) e1 (I.base.free b o e n hx)
 ·obtain⟨o',e1⟩:=I.base.there b o e hx;exact there b o' (neC b o e hx) e1
 ·obtain⟨m1,e1⟩:=I.base.tbls b ps e;obtain⟨m2,e2⟩:=tbls b _ e1;exact⟨m1++m2,by rw[e2,Array.append_assoc]⟩
 ·obtain⟨m,hn,hl⟩:=I.loc;refine⟨m,ns m hn,fun i x v e1 e2 e3=>?_⟩;obtain⟨u,r,l⟩:=hl i x v e1 e2 e3;refine⟨u,r,?_⟩;rcases l with l|⟨k,c,e,z⟩
  ·exact .inl l
  ·exact .inr ⟨k,c,e,cellK x c e _ z⟩
 ·obtain⟨v,z⟩:=I.cell x c e;exact⟨v,cellK x c e v z⟩
 ·obtain⟨m,⟨o,_,_,ho,_⟩,_⟩:=I.loc;exact free _ o (fun z=>(hch _ z).2.1 rfl) ho I.free
 ·obtain⟨v,o,ho,hd⟩:=I.cell x c e;exact free c o (fun z=>(hch c z).2.2.1 x c e rfl) ho (I.freeC x c e)
 ·obtain⟨e,n,ne,nf,d⟩:=I.pin p hp;have nch:p.1∉ch:=fun z=>(hch p.1 z).2.2.2 p hp rfl;exact⟨keep p.1 p.2 ne nf nch e n,free p.1 p.2 nch e n,ne,nf,d⟩
theorem Inv.un{t':Nat}(I:Inv X pins σ H s)(u:Un X.fs [] H H' s.heap h')(hok:HOk X.prog X.w H' h'):Inv X pins σ H' { s with heap:=h',toks:=t' }:=by
 obtain⟨m,⟨o,es,ep,ho,r⟩,_⟩:=id I.loc;obtain⟨sl,hL⟩:=u.any ho I.free (by simp);exact I.step (g':=s.gens) (d':=s.drawn) (ch:=[]) (fun _ z=>nomatch z) (fun b o _ hb _ e n=>u.keep b o e n hb (by simp)) (fun b o _ hb _ e n=>u.slot b o e n hb (by simp)) (fun b o _ e n=>u.free b o e n (by simp)) (fun b o _ e=>u.there b o e (by simp)) u.tups u.frzs u.tbls (fun m' hm=>by
  obtain⟨o',es',ep',ho',r'⟩:=hm;rw[ho] at ho';cases ho';exact⟨_,es',ep',hL,r'⟩) hok I.bare
theorem Inv.call{g':Array GenState}{t':Nat}{d':Drawn}{ch:List Addr}(I:Inv X pins σ H s)(u:Un (frs X.stack) ch H H' s.heap h')(hok:HOk X.prog X.w H' h')(hg:AllBare g')
  (hch:∀b∈ch,(b∈X.ex\/X.s₀.heap.objs.size<=b)/\b≠X.env.locals/\(∀x c,X.env.cells.lookup x=some c->c≠b)/\∀p∈X.pn++pins,p.1≠b) :
  Inv X pins σ H' { s with heap:=h',gens:=g',drawn:=d',toks:=t' }:=by
 obtain⟨m,⟨o,es,ep,ho,r⟩,_⟩:=id I.loc;obtain⟨sl,hL⟩:=u.any ho I.free fun z=>(hch _ z).2.1 rfl;exact I.step (ch:=ch) hch (fun b o hL hb hc e n=>u.keep b o e n (fun z=>(List.mem_cons.mp (I.stkSub b z)).elim hL hb) hc) (fun b o _ _ hc e n=>u.any e n hc) (fun b o hc e n=>u.free b o e n hc) (fun b o hc e=>u.there b o e hc) u.tups u.frzs u.tbls (fun m' hm=>by
  obtain⟨o',es',ep',ho',r'⟩:=hm;rw[ho] at ho';cases ho';exact⟨_,es',ep',hL,r'⟩) hok hg
theorem Inv.turned{t':Nat}{it:Addr}(I:Inv X pins σ H s)(k:∀b o,b≠it->s.heap.get? b=some o->h'.get? b=some o)(hn:H it=none)(hL:it≠X.env.locals)
  (h1:it∈X.ex\/X.s₀.heap.objs.size<=it) (h2:∀x c,X.env.cells.lookup x=some c->c≠it) (h3:∀p∈X.pn++pins,p.1≠it):Inv X pins σ H { s with heap:=h',toks:=t' }:=by
 have nit:∀b u,H b=some u->b≠it:=fun b u e z=>by rw[z,hn] at e;cases e
 refine I.step (g':=s.gens) (d':=s.drawn) (ch:=[it]) (fun b hb=>?_) (fun b o _ _ hc e _=>k b o (fun z=>hc (by simp[z])) e) (fun b o _ _ hc e _=>⟨o.slots,k b o (fun z=>hc (by simp[z])) e⟩) (fun _ _ _ _ n=>n)
  (fun b o hc e=>⟨o,k b o (fun z=>hc (by simp[z])) e⟩) (fun _ _ e=>e) (fun _ _ _ e=>e) (fun b ps e=>⟨#[],by rw[e];simp⟩) (fun m hm=>?_) (fun b u e=>?_) I.bare
 ·have e:b=it:=by simpa using hb
  subst e;exact⟨h1,hL,h2,h3⟩
 ·obtain⟨o,es,ep,ho,r⟩:=hm;exact⟨o,es,ep,k _ o (Ne.symm hL) ho,r⟩
 ·refine(I.hok b u e).stay (fun c v hc q=>k c v ?_ q) (fun _ q=>q) fun _ _ q=>q;rcases hc with z|z
  ·rw[z];exact nit b u e
  ·exact nit c _ z
theorem Inv.tok(I:Inv X pins σ H s)(t:Nat):Inv X pins σ H { s with toks:=t }:=I.un (h':=s.heap) (t':=t) Un.refl I.hok
theorem Inv.kept{t':Nat}(I:Inv X pins σ H s)(k:∀b u,s.heap.get? b=some u->h'.get? b=some u):Inv X pins σ H { s with heap:=h',toks:=t' }:=I.un (Un.kept k) (I.hok.kept k)
theorem Inv.laid{a:Addr}{o:HO}{t':Nat}(I:Inv X pins σ H s)(k:∀b u,s.heap.get? b=some u->h'.get? b=some u)(hp:s.heap.objs.size<=a)(new:Zaw X.prog X.w (upd H a o) h' a o) :
  Inv X pins σ (upd H a o) { s with heap:=h',toks:=t' }:=I.un (Un.laid k hp (I.hok.fresh hp)) (I.hok.laid k hp new)
theorem Inv.write{x e:Addr}{o:HO}{t':Nat}(I:Inv X pins σ H s)(mu:Mut (H x))(he:e=x\/H e=some (.own x))(k:∀b u,b≠e->s.heap.get? b=some u->h'.get? b=some u)(heo:∃u,h'.get? e=some u)
  (new:Zaw X.prog X.w (upd H x o) h' x o):Inv X pins σ (upd H x o) { s with heap:=h',toks:=t' }:=I.un (Un.write mu he k heo) (I.hok.write mu he k heo new)
theorem Inv.pins_of{pins':List (Addr×Obj)}(I:Inv X pins σ H s)(h:∀p∈pins',s.heap.get? p.1=some p.2/\H p.1=none/\p.1≠X.env.locals/\p.1∉X.fs/\∀v,p.2.data ≠ .cell v):Inv X pins' σ H s :=
 ⟨I.ok,I.os,I.bare,I.base,I.loc,I.cell,I.free,I.freeC,fun p hp=>(List.mem_append.mp hp).elim (fun z=>I.pin p (List.mem_append_left _ z)) (h p),I.hok,I.len⟩
theorem Zd4{N:List Str}(hN:N.Nodup){i j:Nat}{x:Str}(a:N[i]?= some x)(b:N[j]?= some x):i=j:=by
 obtain⟨h1,e1⟩:=List.getElem?_eq_some_iff.mp a;obtain⟨h2,e2⟩:=List.getElem?_eq_some_iff.mp b;exact(List.getElem_inj hN).mp (e1.trans e2.symm)
theorem ZcD{M:Model}{A:Around}{E:Value->Shared->Prop}{i:Nat}{x:Str}{v:V}{u:Value}{Q:Unit->Shared->Prop}(I:Inv X pins σ H s)(hN:X.N.Nodup)(hi:X.N[i]?= some x)(hx:Loc X.env.scope x)(r:RelV v u)
  (h:∀s',Inv X pins (σ.set i (some v)) H s'->(∃a,Heap.SameBut a s.heap s'.heap/\(a=X.env.locals\/X.env.cells.lookup x=some a))->Q () s') (hf:X.fn x=true\/X.env.scope.names.lookup x=some .local:=by first|exact .inl rfl|exact .inr rfl|assumption):wpAny M A (storeName X.env x u) Q E s:=by
 obtain⟨m,hn,hl⟩:=id I.loc;have hcls:(X.env.scope.kind ==.class || (X.env.scope.kind ==.module&&X.env.locals != X.env.globals))=false:=by rw[I.ok.kind];rfl
 have hiσ : i < σ.length:=by rw[I.len];exact(List.getElem?_eq_some_iff.mp hi).1
 have cne:=I.cne;have tracked:∀{a:Addr}{h':Heap},(∃o,s.heap.get? a=some o/\H a=none)->Heap.SameBut a s.heap h'->HOk X.prog X.w H h':=fun{a h'} ha hs b ob e=>by
  obtain⟨_,_,hfree⟩:=ha;refine(I.hok b ob e).stay (fun c w' hc q=>(hs.2 c ?_).trans q) (fun _ q=>q) fun _ _ q=>q;rintro rfl;rcases hc with rfl|hc
  ·rw[hfree] at e;cases e
  ·rw[hfree] at hc;cases hc
 rcases hx with hk|hk
 ·refine wpAny_storeName_local hk hn (fun h' hn' hs=>?_) hcls;obtain⟨oL,_,_,hoL,_⟩:=id hn;refine h _ ⟨I.ok,I.os,I.bare,⟨fun b o e n hb hx=>?_,fun b o e n hb hx=>?_,I.base.free,fun b o e hx=>?_,I.base.tups,I.base.frzs,I.base.tbls⟩,⟨_,hn',fun j y v' e1 e2 e3=>?_⟩,fun y c e=>?_,I.free,I.freeC,fun p hp=>?_,tracked ⟨oL,hoL,I.free⟩ hs,by simpa using I.len⟩ ⟨_,hs,.inl rfl⟩
  ·exact(hs.2 b (Nat.ne_of_lt (Nat.lt_of_lt_of_le (Heap.lt_size e) I.ok.above))).trans (I.base.keep b o e n hb hx)
  ·obtain⟨sl,e1⟩:=I.base.slot b o e n hb hx;exact⟨sl,(hs.2 b (Nat.ne_of_lt (Nat.lt_of_lt_of_le (Heap.lt_size e) I.ok.above))).trans e1⟩
  ·obtain⟨o',e1⟩:=I.base.there b o e hx;exact⟨o',(hs.2 b (Nat.ne_of_lt (Nat.lt_of_lt_of_le (Heap.lt_size e) I.ok.above))).trans e1⟩
  ·by_cases hj:j=i
   ·subst hj;rw[hi] at e1;cases e1;rw[List.getElem?_set_self hiσ] at e2;cases e2;exact⟨u,r,.inl ⟨hk,by simp⟩⟩
   ·rw[List.getElem?_set_ne (Ne.symm hj)] at e2;obtain⟨u',r',q⟩:=hl j y v' e1 e2 e3;refine⟨u',r',?_⟩;rcases q with⟨k,e⟩|⟨k,c,e,z⟩
    ·refine .inl ⟨k,?_⟩;have:y≠x:=fun e=>hj (Zd4 hN e1 (e ▸ hi));simp[this,e]
    ·exact .inr ⟨k,c,e,z.sameBut hs (cne y c e)⟩
  ·obtain⟨w',z⟩:=I.cell y c e;exact⟨w',z.sameBut hs (cne y c e)⟩
  ·obtain⟨e,n,ne,nf,d⟩:=I.pin p hp;exact⟨(hs.2 p.1 ne).trans e,n,ne,nf,d⟩
 ·have hfn:X.fn x=true:=by
   rcases hf with z|z
   ·exact z
   ·rw[z] at hk;cases hk
  obtain⟨c,hc⟩:=I.ok.has x (.inl hk);obtain⟨w',z⟩:=I.cell x c hc;refine wpAny_storeName_cell I.ok.kind hk hc z (fun h' hc' hs=>?_);obtain⟨oc,hoc,hocd⟩:=id z;refine h { s with heap:=h' } ⟨I.ok,I.os,I.bare,⟨fun b o e n hb hx=>?_,fun b o e n hb hx=>?_,I.base.free,fun b o e hx=>?_,I.base.tups,I.base.frzs,I.base.tbls⟩,⟨m,hn.sameBut hs (Ne.symm (cne x c hc)),fun j y v' e1 e2 e3=>?_⟩,fun y c' e=>?_,I.free,I.freeC,fun p hp=>?_,tracked ⟨oc,hoc,I.freeC x c hc⟩ hs,by simpa using I.len⟩ ⟨c,hs,.inr hc⟩
  ·exact(hs.2 b (Nat.ne_of_lt (Nat.lt_of_lt_of_le (Heap.lt_size e) (I.ok.cab x c hfn hc)))).trans (I.base.keep b o e n hb hx)
  ·obtain⟨sl,e1⟩:=I.base.slot b o e n hb hx;exact⟨sl,(hs.2 b (Nat.ne_of_lt (Nat.lt_of_lt_of_le (Heap.lt_size e) (I.ok.cab x c hfn hc)))).trans e1⟩
  ·obtain⟨o',e1⟩:=I.base.there b o e hx;exact⟨o',(hs.2 b (Nat.ne_of_lt (Nat.lt_of_lt_of_le (Heap.lt_size e) (I.ok.cab x c hfn hc)))).trans e1⟩
  ·by_cases hj:j=i
   ·subst hj;rw[hi] at e1;cases e1;rw[List.getElem?_set_self hiσ] at e2;cases e2;exact⟨u,r,.inr ⟨.inl hk,c,hc,hc'⟩⟩
   ·rw[List.getElem?_set_ne (Ne.symm hj)] at e2;obtain⟨u',r',q⟩:=hl j y v' e1 e2 e3;refine⟨u',r',?_⟩;rcases q with q|⟨k,c',e,z'⟩
    ·exact .inl q
    ·refine .inr ⟨k,c',e,z'.sameBut hs ?_⟩;rintro rfl;exact hj (Zd4 hN e1 (I.ok.inj _ _ _ e hc ▸ hi))
  ·by_cases hcc:c'=c
   ·subst hcc;exact⟨_,hc'⟩
   ·obtain⟨w2,z2⟩:=I.cell y c' e;exact⟨w2,z2.sameBut hs hcc⟩
  ·obtain⟨e,n,ne,nf,d⟩:=I.pin p hp;refine⟨(hs.2 p.1 ?_).trans e,n,ne,nf,d⟩;intro q;rw[q,hoc] at e;have q':oc=p.2:=Option.some.inj e;exact d w' (by rw[<- q'];exact hocd)
theorem Zd0{M:Model}{A:Around}{E:Value->Shared->Prop}{i:Nat}{x:Str}{v:V}{u:Value}{Q:Unit->Shared->Prop}(I:Inv X pins σ H s)(hN:X.N.Nodup)(hi:X.N[i]?= some x)(hx:Loc X.env.scope x)(r:RelV v u)
  (h:∀s',Inv X pins (σ.set i (some v)) H s'->Q () s') (hf:X.fn x=true\/X.env.scope.names.lookup x=some .local:=by first|exact .inl rfl|exact .inr rfl|assumption):wpAny M A (storeName X.env x u) Q E s :=
 ZcD I hN hi hx r (fun s' I' _=>h s' I') hf
theorem Inv.call'{s':Shared}{ch:List Addr}(I:Inv X pins σ H s)(ho:s'.os=s.os)(u:Un (frs X.stack) ch H H' s.heap s'.heap)(hok:HOk X.prog X.w H' s'.heap)(hg:AllBare s'.gens)
  (hch:∀b∈ch,(b∈X.ex\/X.s₀.heap.objs.size<=b)/\b≠X.env.locals/\(∀x c,X.env.cells.lookup x=some c->c≠b)/\∀p∈X.pn++pins,p.1≠b):Inv X pins σ H' s':=by
 obtain⟨h',g',d',t',o'⟩:=s';have e:o'=s.os:=ho;subst e;exact I.call (g':=g') (t':=t') (d':=d') u hok hg hch
end
abbrev XK:=Value->Option Addr->Hp->Prop
abbrev St:=List (Option V)
abbrev VK:=V->Hp->Prop
abbrev TE:=St->Hp->VK->Prop
abbrev TT:=St->Hp->(Bool->Hp->Prop)->Prop
abbrev TA:=St->Hp->(List V->Hp->Prop)->Prop
structure Ends where
 nx:St->Hp->Prop
 rt:VK
 bk:St->Hp->Prop:=fun _ _=>False
 ct:St->Hp->Prop:=fun _ _=>False
abbrev TS:=Ends->St->Hp->Prop
def EP(X:Cx)(pins:List (Addr×Obj))(σ : St)(Q:VK)(u:Value)(s':Shared):Prop := ∃v H',Inv X pins σ H' s'/\RelV v u/\Q v H'
def TP(X:Cx)(pins:List (Addr×Obj))(σ : St)(Q:Bool->Hp->Prop)(b:Bool)(s':Shared):Prop := ∃H',Inv X pins σ H' s'/\Q b H'
def AP(X:Cx)(pins:List (Addr×Obj))(σ : St)(Q:List V->Hp->Prop)(us:List Value)(s':Shared):Prop := ∃vs H',Inv X pins σ H' s'/\Vals vs us/\Q vs H'
def SP(X:Cx)(pins:List (Addr×Obj))(D:Ends)(f:Flow)(s':Shared):Prop :=
 match f with
 | .next=>∃ σ' H',Inv X pins σ' H' s'/\D.nx σ' H'
 | .brk=>∃ σ' H',Inv X pins σ' H' s'/\D.bk σ' H'
 | .cont=>∃ σ' H',Inv X pins σ' H' s'/\D.ct σ' H'
 | .ret u=>∃v σ' H',Inv X pins σ' H' s'/\RelV v u/\D.rt v H'
def PE(X:Cx)(e:Expr)(t:TE):Prop :=
 ∀(pins:List (Addr×Obj))(s:Shared)(σ : St)(H:Hp)(Q:VK),Inv X pins σ H s->t σ H Q->wpAny (model X.prog X.w) X.A (eval e X.env) (EP X pins σ Q) X.xe s
def PT(X:Cx)(e:Expr)(t:TT):Prop :=
 ∀(pins:List (Addr×Obj))(s:Shared)(σ : St)(H:Hp)(Q:Bool->Hp->Prop),Inv X pins σ H s->t σ H Q->wpAny (model X.prog X.w) X.A (isTrue e X.env (eval e X.env)) (TP X pins σ Q) X.xe s
def PW(X:Cx)(e:Expr)(t:TT):Prop :=
 ∀(whole:Sem Value)(pins:List (Addr×Obj))(s:Shared)(σ : St)(H:Hp)(Q:Bool->Hp->Prop),Inv X pins σ H s->t σ H Q->wpAny (model X.prog X.w) X.A (isTrue e X.env whole) (TP X pins σ Q) X.xe s
theorem PW.pt{X:Cx}{e:Expr}{t:TT}(h:PW X e t):PT X e t:=h _
def PA(X:Cx)(es:List Expr)(t:TA):Prop :=
 ∀(pos:Pos)(pins:List (Addr×Obj))(s:Shared)(σ : St)(H:Hp)(Q:List V->Hp->Prop),Inv X pins σ H s->t σ H Q->wpAny (model X.prog X.w) X.A (spliced (backTo pos (starEach es X.env))) (AP X pins σ Q) X.xe s
def PS(X:Cx)(st:Stmt)(t:TS):Prop :=
 ∀(pins:List (Addr×Obj))(s:Shared)(σ : St)(H:Hp)(D:Ends),Inv X pins σ H s->t D σ H->wpAny (model X.prog X.w) X.A (exec st X.env) (SP X pins D) X.xe s
def PSs(X:Cx)(st:List Stmt)(t:TS):Prop :=
 ∀(pins:List (Addr×Obj))(s:Shared)(σ : St)(H:Hp)(D:Ends),Inv X pins σ H s->t D σ H->wpAny (model X.prog X.w) X.A (execs st X.env) (SP X pins D) X.xe s
theorem thn{α : Type}{t:Sem α}{Q Q' : α -> Shared->Prop}{M:Model}{A:Around}{E:Value->Shared->Prop}{s:Shared}(h:wpAny M A t Q E s)(hQ:∀a s,Q a s->Q' a s):wpAny M A t Q' E s:=wpAny_mono h hQ fun _ _ x=>x
section
variable{X:Cx}
def Zk0(i:Nat):TE:=fun σ H Q=>∃v,σ[i]?= some (some v)/\Q v H
def tC(v:V):TE:=fun _ H Q=>Q v H
theorem ZkA{i:Nat}{x:Str}{pos:Pos}(hN:X.N[i]?= some x)(hv:Vis X.env.scope x)(hd:(x == ("__debug__" : Str))=false:=by decide) (hcd:(x == ("__classdict__" : Str))=false:=by decide):PE X (.Name x pos) (Zk0 i):=by
 intro pins s σ H Q I h;obtain⟨v,e,h⟩:=h;obtain⟨m,hn,hl⟩:=I.loc;obtain⟨u,r,l⟩:=hl i x v hN e hv;have fin:EP X pins σ Q u s:=⟨v,H,I,r,h⟩;rcases l with⟨hk,hm⟩|⟨hk,c,hc,hcell⟩
 ·exact wpAny_Name (wpAny_loadName_local I.ok.kind hk hn hm fin) hd
 ·rcases hk with hk|hk
  ·exact wpAny_Name (wpAny_loadName_cell I.ok.kind hk hc hcell fin) hd
  ·exact wpAny_Name (wpAny_loadName_free I.ok.kind hk hc hcell fin hcd) hd
theorem Ze{i j pos}:PE X (.Constant (.int i) j pos) (tC (.int i)):=fun _ _ _ H _ I h=>wpAny_Constant_int ⟨.int i,H,I.tok _,⟨_,rfl⟩,h⟩
theorem ZcY{b j pos}:PE X (.Constant (.bool b) j pos) (tC (.bl b)):=fun _ _ _ H _ I h=>Constant_bool ⟨.bl b,H,I,rfl,h⟩
theorem ZZ{j pos}:PE X (.Constant .none j pos) (tC .non):=fun _ _ _ H _ I h=>Constant_none ⟨.non,H,I,rfl,h⟩
theorem Zcl{x j pos}:PE X (.Constant (.str x) j pos) (tC (.str x)):=fun _ _ _ H _ I h=>Calls.Constant_str ⟨.str x,H,I.tok _,⟨_,rfl⟩,h⟩
def Gl(X:Cx)(x:Str):Prop:=X.env.kindOf x=some .globalImplicit
theorem Zdz{E:Value->Shared->Prop}{pins:List (Addr×Obj)}{s:Shared}{σ : St}{H:Hp}{x:Str}{u:Value}{pos:Pos}{Q:Value->Shared->Prop}(I:Inv X pins σ H s)(hg:Gl X x)(hm:X.mg x=some u)(h:Q u s)
  (hd:(x == ("__debug__" : Str))=false:=by decide):wpAny (model X.prog X.w) X.A (eval (.Name x pos) X.env) Q E s :=
 Calls.Name_function_global I.ok.kind hg (Calls.loadGlobal_global (by rw[I.ok.glob];exact I.mod.glob.keeps I.bk) hm h) hd
theorem ZbQ{E:Value->Shared->Prop}{pins:List (Addr×Obj)}{s:Shared}{σ : St}{H:Hp}{x:Str}{u:Value}{pos:Pos}{Q:Value->Shared->Prop}(I:Inv X pins σ H s)(hg:Gl X x)(hm:X.mg x=none)(hv:bootBuiltins x=some u)(h:Q u s)
  (hn:x ≠ "__name__" := by decide) (hd:(x == ("__debug__" : Str))=false:=by decide):wpAny (model X.prog X.w) X.A (eval (.Name x pos) X.env) Q E s:=by
 obtain⟨mb,h1,h2⟩:=I.mod.blt;exact Calls.Name_function_global I.ok.kind hg (Calls.loadGlobal_builtin (by rw[I.ok.glob];exact I.mod.glob.keeps I.bk) hm (by rw[I.ok.blt];exact h1.keeps I.bk) ((h2 x hn).trans hv) h) hd
theorem Zb9{x:Str}{v:V}{u:Value}{pos:Pos}(hg:Gl X x)(hm:X.mg x=some u)(r:RelV v u)(hd:(x == ("__debug__" : Str))=false:=by decide):PE X (.Name x pos) (tC v) :=
 fun _ _ _ H _ I h=>Zdz I hg hm ⟨v,H,I,r,h⟩ hd
theorem Zjy{x:Str}{v:V}{u:Value}{pos:Pos}(hg:Gl X x)(hm:X.mg x=none)(hv:bootBuiltins x=some u)(r:RelV v u)(hn:x ≠ "__name__" := by decide) (hd:(x == ("__debug__" : Str))=false:=by decide):PE X (.Name x pos) (tC v) :=
 fun _ _ _ H _ I h=>ZbQ I hg hm hv ⟨v,H,I,r,h⟩ hn hd
variable{a b:Expr}{ta tb:TE}{pos:Pos}
variable{tA tB':TT}{rest:List Expr}
def Zmg(t u:TT):TT:=fun σ H Q=>t σ H fun c H1=>if c=true then u σ H1 Q else Q false H1
def tOr(t u:TT):TT:=fun σ H Q=>t σ H fun c H1=>if c=true then Q true H1 else u σ H1 Q
def Zmd(t:TT):TT:=fun σ H Q=>t σ H fun c H1=>Q (!c) H1
theorem ZbD(ha:PT X a tA):PW X (.BoolOp .And [a] pos) tA:=by
 intro wh pins s σ H Q I h;refine isTrue_and (thn (ha pins s σ H Q I h) fun c s1 e=>?_);cases c with
 | true=>exact isTrue_and_nil e
 | false=>exact e
theorem Zch(ha:PT X a tA):PW X (.BoolOp .Or [a] pos) tA:=by
 intro wh pins s σ H Q I h;refine isTrue_or (thn (ha pins s σ H Q I h) fun c s1 e=>?_);cases c with
 | false=>exact isTrue_or_nil e
 | true=>exact e
theorem ZcJ(ha:PT X a tA)(hb:PW X (.BoolOp .And (b::rest) pos) tB'):PW X (.BoolOp .And (a::b::rest) pos) (Zmg tA tB'):=by
 intro wh pins s σ H Q I h;refine isTrue_and (thn (ha pins s σ H _ I h) fun c s1 ⟨H1,I1,q1⟩=>?_);cases c with
 | true=>exact hb wh pins s1 σ H1 Q I1 q1
 | false=>exact⟨H1,I1,q1⟩
theorem Zdc(ha:PT X a tA)(hb:PW X (.BoolOp .Or (b::rest) pos) tB'):PW X (.BoolOp .Or (a::b::rest) pos) (tOr tA tB'):=by
 intro wh pins s σ H Q I h;refine isTrue_or (thn (ha pins s σ H _ I h) fun c s1 ⟨H1,I1,q1⟩=>?_);cases c with
 | true=>exact⟨H1,I1,q1⟩
 | false=>exact hb wh pins s1 σ H1 Q I1 q1
theorem ZbM(ha:PT X a tA):PT X (.UnaryOp .Not a pos) (Zmd tA):=by
 intro pins s σ H Q I h;exact isTrue_not (ha pins s σ H (fun c H1=>Q (!c) H1) I h)
def ZlA(ta tb:TE):TE:=fun σ H Q=>ta σ H fun x H1=>∃c,x=.bl c/\if c=true then tb σ H1 Q else Q (.bl false) H1
def Zlh(ta:TE):TE:=fun σ H Q=>ta σ H fun x H1=>∃c,x=.bl c/\Q (.bl (!c)) H1
theorem Zei{op}{t:TE}(h:PE X a t):PE X (.BoolOp op [a] pos) t:=fun pins s σ H Q I hw=>BoolOp_one (h pins s σ H Q I hw)
theorem ZeA(ha:PE X a ta)(hb:PE X (.BoolOp .And (b::rest) pos) tb):PE X (.BoolOp .And (a::b::rest) pos) (ZlA ta tb):=by
 intro pins s σ H Q I h;refine BoolOp_and (thn (ha pins s σ H _ I h) fun v s1 ⟨x,H1,I1,r1,q1⟩=>?_);obtain⟨c,rfl,q1⟩:=q1;cases r1;refine wpAny_truthy_bool ?_;cases c with
 | true=>exact hb pins s1 σ H1 Q I1 q1
 | false=>exact⟨.bl false,H1,I1,rfl,q1⟩
theorem Zks(ha:PE X a ta):PE X (.UnaryOp .Not a pos) (Zlh ta):=by
 intro pins s σ H Q I h;refine UnaryOp_ (thn (ha pins s σ H _ I h) fun v s1 ⟨x,H1,I1,r1,q1⟩=>?_);obtain⟨c,rfl,q1⟩:=q1;cases r1;exact not_of (wpAny_truthy_bool ⟨.bl (!c),H1,I1,rfl,q1⟩)
def tIf(t:TT)(ta tb:TE):TE:=fun σ H Q=>t σ H fun c H1=>if c=true then ta σ H1 Q else tb σ H1 Q
theorem ZiP{c:Expr}(hc:PT X c tA)(ha:PE X a ta)(hb:PE X b tb):PE X (.IfExp c a b pos) (tIf tA ta tb):=by
 intro pins s σ H Q I h;refine wpAny_IfExp (thn (hc pins s σ H _ I h) fun d s1 ⟨H1,I1,q1⟩=>?_);cases d with
 | true=>exact ha pins s1 σ H1 Q I1 q1
 | false=>exact hb pins s1 σ H1 Q I1 q1
end
def SqL(K:PySem.W.Frag)(H:Hp)(a:Addr)(xs:List V):Prop :=
 Rd H a (.lst xs) \/
  ∃(o:Obj)(its:Array Value)(n:Nat),K.lookup a=some o/\o.cls=.type "list" /\ o.dict=none/\o.data=.seq its n/\its.size<=sizeLine/\Vals xs its.toList
def SqT(K:PySem.W.Frag)(H:Hp)(a:Addr)(xs:List V):Prop :=
 Rd H a (.tup xs) \/
  ∃(o:Obj)(its:Array Value)(n:Nat),K.lookup a=some o/\o.cls=.type "tuple" /\ o.data=.seq its n/\its.size<=sizeLine/\Vals xs its.toList
def Zl9:Value->Option V
 | .none=>some .non
 | .bool b=>some (.bl b)
 | .int i _=>some (.int i)
 | .str x _=>some (.str x)
 | .bytes b _=>some (.byt b)
 | .float b _=>some (.flt b)
 | .ref a=>some (.ref a)
 | .type n=>some (.ty n)
 | _=>none
theorem RelV.abs{x:V}{u:Value}(r:RelV x u):Zl9 u=some x:=by
 cases x with
 | non=>cases r;rfl
 | bl _=>cases r;rfl
 | int _=>obtain⟨t,rfl⟩:=r;rfl
 | str _=>obtain⟨t,rfl⟩:=r;rfl
 | byt _=>obtain⟨t,rfl⟩:=r;rfl
 | flt _=>obtain⟨t,rfl⟩:=r;rfl
 | ref _=>cases r;rfl
 | ty _=>cases r;rfl
theorem RelV.inj{x y:V}{u:Value}(r:RelV x u)(q:RelV y u):x=y:=Option.some.inj (r.abs.symm.trans q.abs)
theorem Vals.inj:∀{xs ys:List V}{us:List Value},Vals xs us->Vals ys us->xs=ys
 | _,_,_,.nil,.nil=>rfl
 | _,_,_,.cons r t,.cons r' t'=>by rw[r.inj r',Vals.inj t t']
section
variable{X:Cx}{pins:List (Addr×Obj)}{σ : St}{H:Hp}{s:Shared}{a:Addr}{xs ys:List V}
theorem SqL.of{K:PySem.W.Frag}(h:H a=some (.lst xs)):SqL K H a xs:=.inl (.inl h)
theorem SqT.of{K:PySem.W.Frag}(h:H a=some (.tup xs)):SqT K H a xs:=.inl (.inl h)
theorem Inv.list(I:Inv X pins σ H s)(h:SqL X.K H a xs):∃its:List Value,Vals xs its/\PlainL s.heap a its.toArray/\xs.length<=sizeLine:=by
 rcases h with h|⟨o,its,n,hk,hc,hd,hs,hz,r⟩
 ·obtain⟨z,its,n,r,e⟩:=h.ok I.hok;exact⟨its,r,⟨_,n,e,rfl,rfl,rfl⟩,z⟩
 ·refine⟨its.toList,r,⟨o,n,I.kIn a o hk,hc,hd,by simpa using hs⟩,?_⟩;have e:=r.length;simp only[Array.length_toList] at e;lia
theorem Inv.tuple(I:Inv X pins σ H s)(h:SqT X.K H a xs):∃its:List Value,Vals xs its/\IsTup s.heap a its.toArray/\xs.length<=sizeLine:=by
 rcases h with h|⟨o,its,n,hk,hc,hs,hz,r⟩
 ·obtain⟨z,its,r,p⟩:=h.ok I.hok;exact⟨its,r,p,z⟩
 ·refine⟨its.toList,r,⟨o,I.kIn a o hk,hc,n,by simpa using hs⟩,?_⟩;have e:=r.length;simp only[Array.length_toList] at e;lia
theorem Inv.list_inj(I:Inv X pins σ H s)(h:SqL X.K H a xs)(h':SqL X.K H a ys):xs=ys:=by
 obtain⟨its,r,⟨o,n,e,_,_,d⟩,_⟩:=I.list h;obtain⟨its',r',⟨o',n',e',_,_,d'⟩,_⟩:=I.list h';rw[e] at e';cases e';rw[d] at d';injection d' with d1 _;have:its=its':=by simpa using congrArg Array.toList d1
 subst this;exact r.inj r'
theorem Inv.tuple_inj(I:Inv X pins σ H s)(h:SqT X.K H a xs)(h':SqT X.K H a ys):xs=ys:=by
 obtain⟨its,r,⟨o,e,_,n,d⟩,_⟩:=I.tuple h;obtain⟨its',r',⟨o',e',_,n',d'⟩,_⟩:=I.tuple h';rw[e] at e';cases e';rw[d] at d';injection d' with d1 _;have:its=its':=by simpa using congrArg Array.toList d1
 subst this;exact r.inj r'
end
abbrev Cx.wish(X:Cx)(E:Value->Shared->Prop):Cx:={ X with xe:=E }
abbrev Cx.nox(X:Cx):Cx:=X.wish fun _ _=>False
theorem Cx.Ok.wish{X:Cx}(ok:X.Ok)(E:Value->Shared->Prop):(X.wish E).Ok :=
 ⟨ok.mod,ok.kind,ok.glob,ok.blt,ok.above,ok.inj,ok.has,ok.cab,ok.hd,ok.frames,ok.stk,ok.exf,ok.bs,ok.bsz,ok.noex,ok.exfs,ok.funs,ok.frf⟩
theorem Cx.Ok.unwish{X:Cx}{E:Value->Shared->Prop}(ok:(X.wish E).Ok):X.Ok :=
 ⟨ok.mod,ok.kind,ok.glob,ok.blt,ok.above,ok.inj,ok.has,ok.cab,ok.hd,ok.frames,ok.stk,ok.exf,ok.bs,ok.bsz,ok.noex,ok.exfs,ok.funs,ok.frf⟩
section
variable{X:Cx}{pins:List (Addr×Obj)}{σ : St}{H:Hp}{s:Shared}{E:Value->Shared->Prop}
theorem Inv.wish(I:Inv X pins σ H s)(E:Value->Shared->Prop):Inv (X.wish E) pins σ H s:=⟨I.ok.wish E,I.os,I.bare,I.base,I.loc,I.cell,I.free,I.freeC,I.pin,I.hok,I.len⟩
theorem Inv.unwish(I:Inv (X.wish E) pins σ H s):Inv X pins σ H s:=⟨I.ok.unwish,I.os,I.bare,I.base,I.loc,I.cell,I.free,I.freeC,I.pin,I.hok,I.len⟩
theorem SP.unwish{D:Ends}{f:Flow}{s':Shared}(h:SP (X.wish E) pins D f s'):SP X pins D f s':=by
 cases f with
 | next=>obtain⟨σ',H',I,q⟩:=h;exact⟨σ',H',I.unwish,q⟩
 | brk=>obtain⟨σ',H',I,q⟩:=h;exact⟨σ',H',I.unwish,q⟩
 | cont=>obtain⟨σ',H',I,q⟩:=h;exact⟨σ',H',I.unwish,q⟩
 | ret u=>obtain⟨v,σ',H',I,r,q⟩:=h;exact⟨v,σ',H',I.unwish,r,q⟩
theorem PSs.nox{st:List Stmt}{t:TS}(h:PSs X.nox st t):PSs X st t:=fun pins s σ H D I hw =>
 wpAny_mono (h pins s σ H D (I.wish _) hw) (fun _ _ q=>q.unwish) fun _ _ z=>False.elim z
end
section
variable{X:Cx}{st:Stmt}{rest:List Stmt}{t u:TS}{e:Expr}{te:TE}{pos:Pos}
def Zly:TS:=fun D σ H=>D.nx σ H
def Zl2(t u:TS):TS:=fun D σ H=>t { D with nx:=u D } σ H
theorem ZG:PSs X [] Zly:=fun _ _ σ H _ I h=>wpAny_execs_nil ⟨σ,H,I,h⟩
theorem Zc(h1:PS X st t)(h2:PSs X rest u):PSs X (st::rest) (Zl2 t u):=by
 intro pins s σ H D I h;refine wpAny_execs_cons (thn (h1 pins s σ H { D with nx:=u D } I h) fun f s1 q=>?_);cases f with
 | next =>
  obtain⟨σ',H',I',q⟩:=q;exact h2 pins s1 σ' H' D I' q
 | ret v=>exact q
 | brk=>exact q
 | cont=>exact q
theorem Zf(h1:PS X st t):PSs X [st] t:=by
 intro pins s σ H D I h;refine wpAny_execs_cons (thn (h1 pins s σ H D I h) fun f s1 q=>?_);cases f with
 | next=>exact wpAny_execs_nil q
 | ret v=>exact q
 | brk=>exact q
 | cont=>exact q
theorem Inv.quiet{pins:List (Addr×Obj)}{σ : St}{H:Hp}{s:Shared}(I:Inv X pins σ H s):interactive X.env=false:=by simp[interactive,I.ok.kind]
def Zle(te:TE):TS:=fun D σ H=>te σ H fun _ H1=>D.nx σ H1
theorem Zad(he:PE X e te)(hs:swapsWith e none pos.line X.env=pure false:=by rfl):PS X (.Expr e pos) (Zle te):=by
 intro pins s σ H D I h;exact wpAny_Expr_any (thn (he pins s σ H _ I h) fun v s1 ⟨x,H1,I1,r1,q1⟩=>⟨σ,H1,I1,q1⟩) I.quiet hs
def Zl4(te:TE):TS:=fun D σ H=>te σ H D.rt
theorem ZR(he:PE X e te):PS X (.Return (some e) pos) (Zl4 te):=by
 intro pins s σ H D I h;exact wpAny_Return_some (thn (he pins s σ H _ I h) fun v s1 ⟨x,H1,I1,r1,q1⟩=>⟨x,σ,H1,I1,r1,q1⟩)
def ZlZ(c:TT)(t u:TS):TS:=fun D σ H=>c σ H fun b H1=>if b=true then t D σ H1 else u D σ H1
theorem Zas{c:Expr}{a b:List Stmt}{tc:TT}(hc:PT X c tc)(ha:PSs X a t)(hb:PSs X b u):PS X (.If c a b pos) (ZlZ tc t u):=by
 intro pins s σ H D I h;refine wpAny_If (thn (hc pins s σ H _ I h) fun d s1 ⟨H1,I1,q1⟩=>?_);cases d with
 | true=>exact ha pins s1 σ H1 D I1 q1
 | false=>exact hb pins s1 σ H1 D I1 q1
end
abbrev TG:=V->St->Hp->(St->Hp->Prop)->Prop
abbrev TGs:=List V->St->Hp->(St->Hp->Prop)->Prop
def PG(X:Cx)(target:Expr)(t:TG):Prop :=
 ∀(pins:List (Addr×Obj))(s:Shared)(σ : St)(H:Hp)(v:V)(u:Value)(Q:St->Hp->Prop),Inv X pins σ H s->RelV v u->t v σ H Q ->
  wpAny (model X.prog X.w) X.A (assign target X.env u) (fun _ s'=>∃ σ' H',Inv X pins σ' H' s'/\Q σ' H') X.xe s
def PGs(X:Cx)(ts:List Expr)(t:TGs):Prop :=
 ∀(pins:List (Addr×Obj))(s:Shared)(σ : St)(H:Hp)(vs:List V)(us:List Value)(Q:St->Hp->Prop),Inv X pins σ H s->Vals vs us->t vs σ H Q ->
  wpAny (model X.prog X.w) X.A (assignInOrder ((assignEach ts X.env).map (·.2)) us) (fun _ s'=>∃ σ' H',Inv X pins σ' H' s'/\Q σ' H') X.xe s
abbrev Zdg:=V->V->V->Hp->(Hp->Prop)->Prop
def ZlQ(X:Cx)(t:Zdg):Prop :=
 ∀(pins:List (Addr×Obj))(s:Shared)(σ : St)(H:Hp)(o i v:V)(ov iv u:Value)(Q:Hp->Prop),Inv X pins σ H s->RelV o ov->RelV i iv->RelV v u->t o i v H Q ->
  wpAny (model X.prog X.w) X.A (setItem ov iv u) (fun _ s'=>∃H',Inv X pins σ H' s'/\Q H') X.xe s
section
variable{X:Cx}{pos:Pos}
def Ze8(i:Nat):TG:=fun v σ H Q=>Q (σ.set i (some v)) H
theorem Zv{i:Nat}{x:Str}(hN:X.N.Nodup)(hi:X.N[i]?= some x)(hx:Loc X.env.scope x)(hf:X.fn x=true\/X.env.scope.names.lookup x=some .local:=by first|exact .inl rfl|exact .inr rfl|assumption):PG X (.Name x pos) (Ze8 i):=by
 intro pins s σ H v u Q I r h;exact wpAny_assign_Name (Zd0 I hN hi hx r (fun s' I'=>⟨_,H,I',h⟩) hf)
def ZlT:TGs:=fun vs σ H Q=>vs=[]/\Q σ H
def Zlu(t:TG)(u:TGs):TGs:=fun vs σ H Q=>∃v r,vs=v::r/\t v σ H fun σ' H'=>u r σ' H' Q
theorem ZdA:PGs X [] ZlT:=by
 intro pins s σ H vs us Q I r h;obtain⟨e,h⟩:=h;subst e;cases r;exact assignInOrder_nil ⟨σ,H,I,h⟩
theorem Zae{e:Expr}{es:List Expr}{t:TG}{u:TGs}(h1:PG X e t)(h2:PGs X es u)
  (hs:(assignEach (e::es) X.env).map (·.2)=assign e X.env::(assignEach es X.env).map (·.2):=by rfl):PGs X (e::es) (Zlu t u):=by
 intro pins s σ H vs us Q I r h;obtain⟨v,vr,e1,h⟩:=h;subst e1;cases r with
 | cons r rr =>
  rw[hs];refine assignInOrder_cons (thn (h1 pins s σ H _ _ _ I r h) fun _ s1 ⟨σ1,H1,I1,q1⟩=>?_);exact h2 pins s1 σ1 H1 _ _ Q I1 rr q1
def Zl5(K:PySem.W.Frag)(n:Nat)(t:TGs):TG:=fun v σ H Q=>∃a xs,v=.ref a/\SqT K H a xs/\xs.length=n/\t xs σ H Q
theorem ZfR{es:List Expr}{k:Nat}{t:TGs}{n:Nat}(hc:X.calm=true)(h:PGs X es t)
  (hn:(assignEach es X.env).length=n:=by rfl) (hst:(assignEach es X.env).findIdx? (·.1)=none:=by rfl):PG X (.Tuple es k pos) (Zl5 X.K n t):=by
 intro pins s σ H v u Q I r hw;obtain⟨a,xs,e1,hq,hl,hw⟩:=hw;subst e1;cases r;obtain⟨its,rv,ht,hz⟩:=I.tuple hq;refine assign_Tuple_tuple (I.ok.hd hc) ht (by simp[hn,<- hl,rv.length]) hst fun h' hx=>?_;have I1:Inv X pins σ H { s with heap:=h' }:=I.kept (t':=s.toks) fun b o e=>hx b o (Nat.ne_of_lt (Heap.lt_size e)) e;exact h pins _ σ H xs _ Q I1 (by simpa using rv) hw
def Zl0(to ti:TE)(t:Zdg):TG:=fun v σ H Q=>to σ H fun o H1=>ti σ H1 fun i H2=>t o i v H2 fun H3=>Q σ H3
theorem Zds{o i:Expr}{to ti:TE}{t:Zdg}(ho:PE X o to)(hi:PE X i ti)(hs:ZlQ X t)
  (ha:∀v,assign (.Subscript o i pos) X.env v=(do
   let ov <- holding [v] (eval o X.env)
   let iv <- holding [v,ov] (eval i X.env)
   standAt pos
   holding [v,ov,iv] (setItem ov iv v)
   release [v,ov,iv] []):=by intro _;rfl):PG X (.Subscript o i pos) (Zl0 to ti t):=by
 intro pins s σ H v u Q I r h;rw[ha];refine wpAny_bind (wpAny_holding (thn (ho pins s σ H _ I h) fun ov s1 ⟨x,H1,I1,r1,q1⟩=>?_));refine wpAny_bind (wpAny_holding (thn (hi pins s1 σ H1 _ I1 q1) fun iv s2 ⟨y,H2,I2,r2,q2⟩=>?_));refine wpAny_bind (wpAny_standAt (wpAny_bind (wpAny_holding (thn (hs pins s2 σ H2 x y v ov iv u _ I2 r1 r2 r q2) fun _ s3 ⟨H3,I3,q3⟩=>?_))));exact wpAny_release ⟨σ,H3,I3,q3⟩
def Zk5(te:TE)(g:TG):TS:=fun D σ H=>te σ H fun x H1=>g x σ H1 D.nx
theorem Zc2{tg e:Expr}{te:TE}{g:TG}(he:PE X e te)(hg:PG X tg g)(hs:swapsWithSole [tg] e pos.line X.env=pure false:=by rfl)(hw:swappedStores [tg] e X.env=pure none:=by rfl)
  (h1:(assignEach [tg] X.env).map (·.2)=[assign tg X.env]:=by rfl):PS X (.Assign [tg] e pos) (Zk5 te g):=by
 intro pins s σ H D I h;refine wpAny_Assign_stores (thn (he pins s σ H _ I h) fun v s1 ⟨x,H1,I1,r1,q1⟩=>?_) hs hw;rw[h1];exact thn (hg pins s1 σ H1 x v _ I1 r1 q1) fun _ s2 q=>q
theorem Zo{i:Nat}{x:Str}{e:Expr}{te:TE}{pos':Pos}(hN:X.N.Nodup)(hi:X.N[i]?= some x)(hx:Loc X.env.scope x)(he:PE X e te)(hs:swapsWith e (some (.Name x pos')) pos.line X.env=pure false:=by rfl)(hf:X.fn x=true\/X.env.scope.names.lookup x=some .local:=by first|exact .inl rfl|exact .inr rfl|assumption) :
  PS X (.Assign [.Name x pos'] e pos) (Zk5 te (Ze8 i)):=by
 intro pins s σ H D I h;refine wpAny_Assign_Name (thn (he pins s σ H _ I h) fun v s1 ⟨y,H1,I1,r1,q1⟩=>?_) hs;exact Zd0 I1 hN hi hx r1 (fun s2 I2=>⟨_,H1,I2,q1⟩) hf
def ZkG(c:TT)(tb:TS):TS:=fun D σ H=>∃W:Nat->St->Hp->Prop,(∃m,W m σ H)/\∀m σ H,W m σ H ->
 c σ H fun b H1=>if b=true then ∃N:St->Hp->Prop,(∀ σ' H',N σ' H'->∃m',m'<m/\W m' σ' H')/\tb { D with nx:=N,ct:=N,bk:=D.nx } σ H1 else D.nx σ H1
theorem Zcv{c:Expr}{body:List Stmt}{tc:TT}{tb:TS}(hp:PassesOwn (model X.prog X.w) X.A X.env X.xe)(hc:PT X c tc)(hb:PSs X body tb):PS X (.While c body [] pos) (ZkG tc tb):=by
 intro pins s σ H D I h;obtain⟨W,⟨m0,w0⟩,turn⟩:=h;refine wpAny_While (codeAny_whileLoop (fun n s'=>∃ σ' H',Inv X pins σ' H' s'/\W n σ' H') ?_ m0 ⟨σ,H,I,w0⟩);rintro n s1 ⟨σ1,H1,I1,w1⟩;refine wpAny_passesOwn hp (thn (hc pins s1 σ1 H1 _ I1 (turn n σ1 H1 w1)) fun b s2 ⟨H2,I2,q2⟩=>?_);cases b with
 | true =>
  obtain⟨N,hN,q2⟩:=q2;rw[if_pos rfl];refine wpAny_passesOwn hp (thn (hb pins s2 σ1 H2 _ I2 q2) fun f s3 q3=>?_);cases f with
  | next =>
   obtain⟨σ3,H3,I3,n3⟩:=q3;obtain⟨m',hm,w3⟩:=hN σ3 H3 n3;exact⟨m',hm,σ3,H3,I3,w3⟩
  | cont =>
   obtain⟨σ3,H3,I3,n3⟩:=q3;obtain⟨m',hm,w3⟩:=hN σ3 H3 n3;exact⟨m',hm,σ3,H3,I3,w3⟩
  | brk=>exact q3
  | ret v=>exact q3
 | false =>
  rw[if_neg Bool.false_ne_true];exact wpAny_execs_nil ⟨σ1,H2,I2,q2⟩
end
structure It where
 go:Nat->Hp->Prop
 yld:Nat->Hp->V->Hp->Prop
 stop:Nat->Hp->Prop
def Za0(X:Cx)(pins:List (Addr×Obj))(H:Hp)(b:Addr):Prop :=
 H b=none/\b≠X.env.locals/\b∉X.fs/\(b∈X.ex\/X.s₀.heap.objs.size<=b)/\(∀x c,X.env.cells.lookup x=some c->c≠b)/\∀p∈X.pn++pins,p.1≠b
theorem Inv.fpOk{X:Cx}{pins:List (Addr×Obj)}{σ : St}{H H':Hp}{s:Shared}{b:Addr}(I:Inv X pins σ H s)(hb:s.heap.objs.size<=b)(hn:H' b=none):Za0 X pins H' b:=by
 refine⟨hn,Nat.ne_of_gt (Nat.lt_of_lt_of_le I.lt hb),I.nofs hb,.inr (Nat.le_trans I.sz hb),fun x c e z=>?_,fun p hp z=>?_⟩
 ·obtain⟨v,q⟩:=I.cell x c e;exact absurd (Nat.lt_of_lt_of_le q.lt (by rw[z];exact hb)) (Nat.lt_irrefl _)
 ·exact absurd (Nat.lt_of_lt_of_le (Heap.lt_size (I.pin p hp).1) (by rw[z];exact hb)) (Nat.lt_irrefl _)
structure Turn(P:Program)(w:World)(K:PySem.W.Frag)(tg:Expr)(J:It)(fp:List Addr)(it:Addr)(tn:Nat->Heap->Prop):Prop where
 mem:it∈fp
 obj:∀i h,tn i h->∀b∈fp,∃o,h.get? b=some o/\∀v,o.data ≠ .cell v
 keep:∀i h h',tn i h->(∀b∈fp,∀o,h.get? b=some o->h'.get? b=some o)->tn i h'
 item:∀(X:Cx),X.prog=P->X.w=w->X.K=K->X.calm=true->∀(i:Nat)(pins:List (Addr×Obj))(s:Shared)(σ : St)(H:Hp)(E:Value->Shared->Prop),Inv X pins σ H s->(∀b∈fp,Za0 X pins H b)->tn i s.heap->J.go i H ->
  wpAny (model P w) X.A (pyNext (.ref it)) (fun r s1=>∃u,r=some u /\
   wpAny (model P w) X.A (letOwnedTupleGo tg (.ref it) u) (fun _ s2=>∃x H',Inv X pins σ H' s2/\RelV x u/\J.yld i H x H'/\tn (i+1) s2.heap/\∀b∈fp,H' b=none) E s1) E s
 done:∀(X:Cx),X.prog=P->X.w=w->X.K=K->X.calm=true->∀(i:Nat)(pins:List (Addr×Obj))(s:Shared)(σ : St)(H:Hp)(E:Value->Shared->Prop),Inv X pins σ H s->(∀b∈fp,Za0 X pins H b)->tn i s.heap->J.stop i H ->
  wpAny (model P w) X.A (pyNext (.ref it)) (fun r s1=>r=none/\Inv X pins σ H s1) E s
 self:∀(A:Around)(i:Nat)(s:Shared)(Q:Value->Shared->Prop)(E:Value->Shared->Prop),tn i s.heap->Q (.ref it) s->wpAny (model P w) A (pyIter (.ref it)) Q E s
abbrev TI:=St->Hp->(It->Hp->Prop)->Prop
def PIE(X:Cx)(pins:List (Addr×Obj))(σ : St)(tg:Expr)(R:It->Hp->Prop)(itv:Value)(s2:Shared):Prop :=
 ∃(it:Addr)(fp:List Addr)(tn:Nat->Heap->Prop)(J:It)(H':Hp),itv=.ref it/\Inv X pins σ H' s2/\Turn X.prog X.w X.K tg J fp it tn/\tn 0 s2.heap/\(∀b∈fp,Za0 X pins H' b)/\R J H'
def PI(X:Cx)(tg iter:Expr)(wi:TI):Prop :=
 ∀(pins:List (Addr×Obj))(s:Shared)(σ : St)(H:Hp)(R:It->Hp->Prop),Inv X pins σ H s->wi σ H R ->
  wpAny (model X.prog X.w) X.A (eval iter X.env) (fun v s1=>wpAny (model X.prog X.w) X.A (pyIter v) (PIE X pins σ tg R) X.xe s1) X.xe s
theorem Zj1{M:Model}{A:Around}{E:Value->Shared->Prop}{s:Shared}{tg:Expr}{it:Addr}{u:Value}{o:Obj}{n:String}{vs:Array Value}{Q:Unit->Shared->Prop}(ho:s.heap.get? it=some o)(hc:o.cls=.type n)(hd:o.data=.fields vs)
    (hn:["enumerate","zip","dict_itemiterator","dict_reverseitemiterator","odict_iterator","itertools.zip_longest","itertools.pairwise"].contains n=false) (hQ:Q () s):wpAny M A (letOwnedTupleGo tg (.ref it) u) Q E s:=by
  unfold letOwnedTupleGo;cases tg <;> first
    | exact wpAny_pure hQ
    | (cases u <;> first
        | exact wpAny_pure hQ
        | (refine wpAny_bind (wpAny_load ho ?_)
           rw[hc,hd];show wpAny M A (if(["enumerate","zip","dict_itemiterator","dict_reverseitemiterator","odict_iterator","itertools.zip_longest","itertools.pairwise"].contains n&&vs[0]? == some (rawInt _))=true then _ else _) Q E s
           rw[if_neg (by intro h;rw[hn,Bool.false_and] at h;cases h)];exact wpAny_pure hQ))
def Itl(K:PySem.W.Frag)(a:Addr):It :=
 ⟨fun i H=>∃xs x,SqL K H a xs/\xs[i]?= some x,fun i H x H'=>H'=H/\∀xs,SqL K H a xs->xs[i]?= some x,fun i H=>∃xs,SqL K H a xs/\xs.length<=i⟩
def Itt(K:PySem.W.Frag)(a:Addr):It :=
 ⟨fun i H=>∃xs x,SqT K H a xs/\xs[i]?= some x,fun i H x H'=>H'=H/\∀xs,SqT K H a xs->xs[i]?= some x,fun i H=>∃xs,SqT K H a xs/\xs.length<=i⟩
def Itr(lo:Int)(n:Nat):It:=⟨fun i _=>i<n,fun i H x H'=>H'=H/\x=.int (lo+i),fun i _=>n<=i⟩
theorem Zhv{P:Program}{w:World}{K:PySem.W.Frag}{tg:Expr}(a it:Addr):Turn P w K tg (Itl K a) [it] it (fun i h=>h.IsListIter it a i) where
 mem:=by simp
 obj:=fun i h st b hb=>by
  have e:b=it:=by simpa using hb
  subst e;obtain⟨o,e,c,d⟩:=st;exact⟨o,e,fun v z=>by rw[d] at z;cases z⟩
 keep:=fun i h h' st k=>st.at fun o e=>k it (by simp) o e
 item:=by
  intro X hP hw hK hc i pins s σ H E I hf st hg;subst hP hw hK;obtain⟨xs,x,hq,hx⟩:=hg;obtain⟨its,rv,p,hz⟩:=I.list hq;obtain⟨u,hu,ru⟩:=rv.get hx;obtain⟨f0,f1,f2,f3,f4,f5⟩:=hf it (by simp);refine wpAny_pyNext_list_item st p.isList (x:=u) (by simpa using hu) fun h' st' sb=>?_;have I1:Inv X pins σ H { s with heap:=h' }:=I.turned (t':=s.toks) (fun b o hb e=>(sb.2 b hb).trans e) f0 f1 f3 f4 f5;obtain⟨o,e,c,d⟩:=id st';exact⟨u,rfl,Zj1 (s:={ s with heap:=h' }) e c d (by decide) ⟨x,H,I1,ru,⟨rfl,fun ys hy=>by rw[I.list_inj hy hq];exact hx⟩,st',fun b hb=>(hf b hb).1⟩⟩
 done:=by
  intro X hP hw hK hc i pins s σ H E I hf st hg;subst hP hw hK;obtain⟨xs,hq,hx⟩:=hg;obtain⟨its,rv,p,hz⟩:=I.list hq;obtain⟨f0,f1,f2,f3,f4,f5⟩:=hf it (by simp);have hl:=rv.length;exact wpAny_pyNext_list_end (I.ok.hd hc) st p.isList (by simp;lia) fun h' eb=>⟨rfl,I.turned (t':=s.toks) (fun b o hb e=>eb b o hb e) f0 f1 f3 f4 f5⟩
 self:=fun _ _ _ _ _ st h=>wpAny_pyIter_listiter st h
theorem Zge{P:Program}{w:World}{K:PySem.W.Frag}{tg:Expr}(a it:Addr):Turn P w K tg (Itt K a) [it] it (fun i h=>h.IsTupleIter it a i) where
 mem:=by simp
 obj:=fun i h st b hb=>by
  have e:b=it:=by simpa using hb
  subst e;obtain⟨o,e,c,d⟩:=st;exact⟨o,e,fun v z=>by rw[d] at z;cases z⟩
 keep:=fun i h h' st k=>st.at fun o e=>k it (by simp) o e
 item:=by
  intro X hP hw hK hc i pins s σ H E I hf st hg;subst hP hw hK;obtain⟨xs,x,hq,hx⟩:=hg;obtain⟨its,rv,p,hz⟩:=I.tuple hq;obtain⟨u,hu,ru⟩:=rv.get hx;obtain⟨f0,f1,f2,f3,f4,f5⟩:=hf it (by simp);refine wpAny_pyNext_tuple_item st (show s.heap.IsTuple a its.toArray from p) (x:=u) (by simpa using hu) fun h' st' sb=>?_;have I1:Inv X pins σ H { s with heap:=h' }:=I.turned (t':=s.toks) (fun b o hb e=>(sb.2 b hb).trans e) f0 f1 f3 f4 f5;obtain⟨o,e,c,d⟩:=id st';exact⟨u,rfl,Zj1 (s:={ s with heap:=h' }) e c d (by decide) ⟨x,H,I1,ru,⟨rfl,fun ys hy=>by rw[I.tuple_inj hy hq];exact hx⟩,st',fun b hb=>(hf b hb).1⟩⟩
 done:=by
  intro X hP hw hK hc i pins s σ H E I hf st hg;subst hP hw hK;obtain⟨xs,hq,hx⟩:=hg;obtain⟨its,rv,p,hz⟩:=I.tuple hq;obtain⟨f0,f1,f2,f3,f4,f5⟩:=hf it (by simp);have hl:=rv.length;exact wpAny_pyNext_tuple_end (I.ok.hd hc) st (show s.heap.IsTuple a its.toArray from p) (by simp;lia) fun h' eb=>⟨rfl,I.turned (t':=s.toks) (fun b o hb e=>eb b o hb e) f0 f1 f3 f4 f5⟩
 self:=fun _ _ _ _ _ st h=>wpAny_pyIter_tupleiter st h
theorem ZgG{P:Program}{w:World}{K:PySem.W.Frag}{tg:Expr}(it:Addr)(lo:Int)(n:Nat):Turn P w K tg (Itr lo n) [it] it (fun i h=>IsRangeIter h it (lo+(i:Nat)*1) ((n:Int)-(i:Nat)) 1) where
 mem:=by simp
 obj:=fun i h st b hb=>by
  have e:b=it:=by simpa using hb
  subst e;exact⟨_,st,fun v z=>by
   have z':Data.fields _=Data.cell v:=z;cases z'⟩
 keep:=fun i h h' st k=>k it (by simp) _ st
 item:=by
  intro X hP hw hK hc i pins s σ H E I hf st hg;subst hP hw hK;obtain⟨f0,f1,f2,f3,f4,f5⟩:=hf it (by simp);have W:=Walks.range (prog:=X.prog) (w:=X.w) (I.ok.hd hc) it lo 1 n;refine W.item i s _ _ hg st fun v h' tk hv st' kk=>?_;obtain⟨t,rfl⟩:=hv;have I1:Inv X pins σ H { s with heap:=h',toks:=tk }:=I.turned (fun b o hb e=>kk b o (by simpa using hb) e) f0 f1 f3 f4 f5;refine⟨_,rfl,Zj1 (s:={ s with heap:=h',toks:=tk }) (n := "range_iterator") st' rfl rfl (by decide) ⟨.int (lo+i),H,I1,⟨t,?_⟩,⟨rfl,rfl⟩,st',fun b hb=>(hf b hb).1⟩⟩;rw[Int.mul_one]
 done:=by
  intro X hP hw hK hc i pins s σ H E I hf st hg;subst hP hw hK;obtain⟨f0,f1,f2,f3,f4,f5⟩:=hf it (by simp);exact wpAny_pyNext_range_end (I.ok.hd hc) st (by have:n<=i:=hg;lia) fun h' eb=>⟨rfl,I.turned (t':=s.toks) (fun b o hb e=>eb b o hb e) f0 f1 f3 f4 f5⟩
 self:=fun _ _ _ _ _ st h=>wpAny_pyIter_rangeiter st h
section
variable{X:Cx}{tg:Expr}
def ZlC(K:PySem.W.Frag)(tl:TE):TI:=fun σ H R=>tl σ H fun x H1=>∃a,x=.ref a/\(∃xs,SqL K H1 a xs)/\R (Itl K a) H1
def ZlX(K:PySem.W.Frag)(tl:TE):TI:=fun σ H R=>tl σ H fun x H1=>∃a,x=.ref a/\(∃xs,SqT K H1 a xs)/\R (Itt K a) H1
theorem ZcM{l:Expr}{tl:TE}(hl:PE X l tl):PI X tg l (ZlC X.K tl):=by
 intro pins s σ H R I h;refine thn (hl pins s σ H _ I h) fun v s1 ⟨x,H1,I1,r1,q1⟩=>?_;obtain⟨a,e,⟨xs,hq⟩,q⟩:=q1;subst e;cases r1;obtain⟨its,rv,p,hz⟩:=I1.list hq;refine wpAny_pyIter_list p.isList ?_;refine⟨s1.heap.objs.size,[s1.heap.objs.size],_,_,H1,rfl,I1.kept (t':=s1.toks) fun b o e=>Heap.get?_push_of_some _ e,Zhv a _,⟨_,Heap.get?_push_size _ rfl,rfl,rfl⟩,fun b hb=>?_,q⟩;have e:b=s1.heap.objs.size:=by simpa using hb
 subst e;exact I1.fpOk (Nat.le_refl _) (I1.hok.fresh (Nat.le_refl _))
theorem ZbR{l:Expr}{tl:TE}(hl:PE X l tl):PI X tg l (ZlX X.K tl):=by
 intro pins s σ H R I h;refine thn (hl pins s σ H _ I h) fun v s1 ⟨x,H1,I1,r1,q1⟩=>?_;obtain⟨a,e,⟨xs,hq⟩,q⟩:=q1;subst e;cases r1;obtain⟨its,rv,p,hz⟩:=I1.tuple hq;refine wpAny_pyIter_tuple (show s1.heap.IsTuple a its.toArray from p) ?_;refine⟨s1.heap.objs.size,[s1.heap.objs.size],_,_,H1,rfl,I1.kept (t':=s1.toks) fun b o e=>Heap.get?_push_of_some _ e,Zge a _,⟨_,Heap.get?_push_size _ rfl,rfl,rfl⟩,fun b hb=>?_,q⟩;have e:b=s1.heap.objs.size:=by simpa using hb
 subst e;exact I1.fpOk (Nat.le_refl _) (I1.hok.fresh (Nat.le_refl _))
theorem ZfM{pins:List (Addr×Obj)}{σ : St}{H:Hp}{s:Shared}{R:It->Hp->Prop}{E:Value->Shared->Prop}{lo hi:Int}{t u v:Tok}{tk:Nat}(I:Inv X pins σ H s)(h1 : -(2 ^ 62)<=lo)(h2:lo<2 ^ 62)(h3 : -(2 ^ 62)<=hi)(h4:hi<2 ^ 62)
  (q:R (Itr lo (hi-lo).toNat) H):wpAny (model X.prog X.w) X.A (pyIter (.ref s.heap.objs.size)) (PIE X pins σ tg R) E { s with heap:=s.heap.push { cls:=.type "range",data:=.fields #[.int lo t,.int hi u,.int 1 v] },toks:=tk }:=by
 refine wpAny_pyIter_range (IsRange.new ..) (small_one h1 h2 h3 h4) ?_;have I1:Inv X pins σ H { s with heap:=s.heap.push { cls:=.type "range",data:=.fields #[.int lo t,.int hi u,.int 1 v] },toks:=tk }:=I.kept fun b o e=>Heap.get?_push_of_some _ e;refine⟨(s.heap.push { cls:=.type "range",data:=.fields #[.int lo t,.int hi u,.int 1 v] }).objs.size,[(s.heap.push { cls:=.type "range",data:=.fields #[.int lo t,.int hi u,.int 1 v] }).objs.size],_,_,H,rfl,
  I1.kept (t':=tk) fun b o e=>Heap.get?_push_of_some _ e,ZgG _ lo (hi-lo).toNat,?_,fun b hb=>?_,q⟩
 ·have e1:lo+((0:Nat):Int)*1=lo:=by simp
  have e2:(((hi-lo).toNat:Nat):Int)-((0:Nat):Int)=Builtin.Range.rangeSize lo hi 1:=by rw[rangeSize_one];split <;> lia
  show IsRangeIter _ _ (lo+((0:Nat):Int)*1) ((((hi-lo).toNat:Nat):Int)-((0:Nat):Int)) 1;rw[e1,e2];exact Heap.get?_push_size _ rfl
 ·have e:b=(s.heap.push { cls:=.type "range",data:=.fields #[.int lo t,.int hi u,.int 1 v] }).objs.size:=by simpa using hb
  subst e;exact I1.fpOk (Nat.le_refl _) (I1.hok.fresh (Nat.le_refl _))
def Zln(ta:TA):TI:=fun σ H R=>ta σ H fun vs H1=>∃j:Int,vs=[.int j] /\ -(2 ^ 62)<=j/\j<2 ^ 62/\R (Itr 0 j.toNat) H1
def Zlm(ta:TA):TI:=fun σ H R=>ta σ H fun vs H1=>∃i j:Int,vs=[.int i,.int j]/\(-(2 ^ 62)<=i/\i<2 ^ 62 /\ -(2 ^ 62)<=j/\j<2 ^ 62)/\R (Itr i (j-i).toNat) H1
theorem Zaa{a:Expr}{ta:TA}{p pos:Pos}(hg:Gl X "range") (hm:X.mg "range" = none) (ha:PA X [a] ta) (hs:starEach [a] X.env=[(false,eval a X.env)]:=by rfl):PI X tg (.Call (.Name "range" p) [a] [] pos) (Zln ta):=by
 intro pins s σ H R I h;refine Call_ (ZbQ I hg hm boot_range (PyProof.Rows.callWith_type1 (thn (ha pos pins s σ H _ I h) fun us s1 ⟨vs,H1,I1,r1,q1⟩=>?_) hs rfl));obtain⟨j,e,q1,q2,q⟩:=q1;subst e;cases r1 with
 | cons r rr =>
  cases rr;obtain⟨t,rfl⟩:=r;exact call_range_1 (ZfM I1 (by lia) (by lia) q1 q2 (by simpa using q))
theorem Zh6{a b:Expr}{ta:TA}{p pos:Pos}(hg:Gl X "range") (hm:X.mg "range" = none) (ha:PA X [a,b] ta) (hs:starEach [a,b] X.env=[(false,eval a X.env),(false,eval b X.env)]:=by rfl) (hs2:starEach [b] X.env=[(false,eval b X.env)]:=by rfl) :
  PI X tg (.Call (.Name "range" p) [a,b] [] pos) (Zlm ta):=by
 intro pins s σ H R I h;refine Call_ (ZbQ I hg hm boot_range (PyProof.Rows.callWith_type1 (thn (ha pos pins s σ H _ I h) fun us s1 ⟨vs,H1,I1,r1,q1⟩=>?_) (by rw[hs,hs2]) (by rw[hs2];rfl)));obtain⟨i,j,e,⟨q1,q2,q3,q4⟩,q⟩:=q1;subst e;cases r1 with
 | cons r rr =>
  cases rr with
  | cons r' rr =>
   cases rr;obtain⟨t,rfl⟩:=r;obtain⟨t',rfl⟩:=r';exact call_range_2 (ZfM I1 q1 q2 q3 q4 q)
def Zl8(wi:TI)(g:TG)(tb:TS):TS:=fun D σ H=>wi σ H fun J H1=>∃W:Nat->Nat->St->Hp->Prop,(∃m,W 0 m σ H1)/\∀i m σ H,W i m σ H ->
 (J.stop i H/\D.nx σ H)\/(J.go i H/\∃N:St->Hp->Prop,(∀ σ' H',N σ' H'->∃m',m'<m/\W (i+1) m' σ' H')/\∀x H',J.yld i H x H'->g x σ H' fun σ2 H2=>tb { D with nx:=N,ct:=N,bk:=D.nx } σ2 H2)
def Zf4(fp:List Addr)(h:Heap):List (Addr×Obj):=fp.filterMap fun b=>(h.get? b).map fun o=>(b,o)
theorem Zau{fp:List Addr}{h:Heap}{b:Addr}{o:Obj}(hb:b∈fp)(e:h.get? b=some o):(b,o)∈Zf4 fp h:=List.mem_filterMap.mpr ⟨b,hb,by rw[e];rfl⟩
theorem ZgQ{fp:List Addr}{h:Heap}{p:Addr×Obj}(hp:p∈Zf4 fp h):p.1∈fp/\h.get? p.1=some p.2:=by
 obtain⟨b,hb,e⟩:=List.mem_filterMap.mp hp;cases q:h.get? b with
 | none=>rw[q] at e;cases e
 | some o =>
  rw[q] at e;have e':(b,o)=p:=Option.some.inj e;subst e';exact⟨hb,q⟩
theorem Inv.pinned{pins:List (Addr×Obj)}{σ : St}{H:Hp}{s:Shared}{fp:List Addr}(I:Inv X pins σ H s)(hf:∀b∈fp,Za0 X pins H b)(ho:∀b∈fp,∃o,s.heap.get? b=some o/\∀v,o.data ≠ .cell v):Inv X (pins++Zf4 fp s.heap) σ H s :=
 I.pins_of fun p hp=>(List.mem_append.mp hp).elim (fun z=>I.pin p (List.mem_append_right _ z)) fun z=>by
  obtain⟨hb,e⟩:=ZgQ z;obtain⟨f0,f1,f2,_⟩:=hf p.1 hb;obtain⟨o,e',d⟩:=ho p.1 hb;rw[e] at e';cases e';exact⟨e,f0,f1,f2,d⟩
theorem Inv.unpinned{pins pl:List (Addr×Obj)}{σ : St}{H:Hp}{s:Shared}(I:Inv X (pins++pl) σ H s):Inv X pins σ H s:=I.pins_of fun p hp=>I.pin p (List.mem_append_right _ (List.mem_append_left _ hp))
theorem ZaY{iter:Expr}{body:List Stmt}{wi:TI}{g:TG}{tb:TS}{pos:Pos}(hp:PassesOwn (model X.prog X.w) X.A X.env X.xe)(hc:X.calm=true)(hi:PI X tg iter wi)(hg:PG X tg g)(hb:PSs X body tb)
  (hs:∀x,foldedSetIterable iter X.env x=pure x:=by intro _;rfl):PS X (.For tg iter body [] pos) (Zl8 wi g tb):=by
 intro pins s σ H D I h;refine wpAny_For (thn (hi pins s σ H _ I h) fun v s1 h1=>thn h1 fun itv s2 h2=>?_) hs;obtain⟨it,fp,tn,J,H2,e,I2,T,st2,f2,W,⟨m0,w0⟩,turn⟩:=h2;subst e;have stat:∀{H':Hp},(∀b∈fp,H' b=none)->∀b∈fp,Za0 X pins H' b:=fun hn b hb=>⟨hn b hb,(f2 b hb).2⟩;refine codeAny_forLoop_any (fun n s'=>∃i σ' H',Inv X pins σ' H' s'/\tn i s'.heap/\(∀b∈fp,H' b=none)/\W i n σ' H') ?_ m0 ⟨0,σ,H2,I2,st2,fun b hb=>(f2 b hb).1,w0⟩;rintro n s3 ⟨i,σ3,H3,I3,st3,fr3,w3⟩;rcases turn i n σ3 H3 w3 with⟨stop,qn⟩|⟨go,N,hN,step⟩
 ·refine wpAny_passesOwn hp (thn (T.done X rfl rfl rfl hc i pins s3 σ3 H3 X.xe I3 (stat fr3) st3 stop) fun r s4 ⟨hr,I4⟩=>?_);subst hr;exact wpAny_execs_nil ⟨σ3,H3,I4,qn⟩
 ·refine wpAny_passesOwn hp (thn (T.item X rfl rfl rfl hc i pins s3 σ3 H3 X.xe I3 (stat fr3) st3 go) fun r s4 ⟨u,hr,h4⟩=>?_);subst hr;refine wpAny_passesOwn hp (thn h4 fun _ s5 ⟨x,H5,I5,r5,y5,st5,fr5⟩=>?_);have I5':=I5.pinned (stat fr5) (T.obj _ _ st5);refine wpAny_passesOwn hp (thn (hg _ s5 σ3 H5 x u _ I5' r5 (step x H5 y5)) fun _ s6 ⟨σ6,H6,I6,q6⟩=>?_);refine wpAny_passesOwn hp (thn (hb _ s6 σ6 H6 _ I6 q6) fun f s7 q7=>?_);have again:∀{σ7:St}{H7:Hp},Inv X (pins++Zf4 fp s5.heap) σ7 H7 s7->N σ7 H7->∃m,m<n/\∃i σ' H',Inv X pins σ' H' s7/\tn i s7.heap/\(∀b∈fp,H' b=none)/\W i m σ' H':=fun{σ7 H7} I7 n7=>by
   obtain⟨m',hm,w7⟩:=hN σ7 H7 n7;refine⟨m',hm,i+1,σ7,H7,I7.unpinned,T.keep _ _ _ st5 fun b hb o e=>(I7.pin (b,o) (List.mem_append_right _ (List.mem_append_right _ (Zau hb e)))).1,fun b hb=>?_,w7⟩;obtain⟨o,e,d⟩:=T.obj _ _ st5 b hb;exact(I7.pin (b,o) (List.mem_append_right _ (List.mem_append_right _ (Zau hb e)))).2.1
  cases f with
  | next=>obtain⟨σ7,H7,I7,n7⟩:=q7;exact again I7 n7
  | cont=>obtain⟨σ7,H7,I7,n7⟩:=q7;exact again I7 n7
  | brk=>obtain⟨σ7,H7,I7,q7⟩:=q7;exact⟨σ7,H7,I7.unpinned,q7⟩
  | ret v=>obtain⟨x7,σ7,H7,I7,r7,q7⟩:=q7;exact⟨x7,σ7,H7,I7.unpinned,r7,q7⟩
end
theorem ZfO{K:PySem.W.Frag}{a:Addr}{xs:List V}{g:TG}{tb:TS}{D:Ends}{σ : St}{H:Hp}(Pv:Nat->St->Hp->Prop)(h0:Pv 0 σ H)(hl:∀i σ H,i<=xs.length->Pv i σ H->SqL K H a xs)
  (hs:∀i x σ H,xs[i]?= some x->Pv i σ H->g x σ H fun σ2 H2=>tb { D with nx:=Pv (i+1),ct:=Pv (i+1),bk:=D.nx } σ2 H2) (hd:∀ σ H,Pv xs.length σ H->D.nx σ H) :
  ∃W:Nat->Nat->St->Hp->Prop,(∃m,W 0 m σ H)/\∀i m σ H,W i m σ H ->
   ((Itl K a).stop i H/\D.nx σ H)\/((Itl K a).go i H/\∃N:St->Hp->Prop,(∀ σ' H',N σ' H'->∃m',m'<m/\W (i+1) m' σ' H')/\∀x H',(Itl K a).yld i H x H'->g x σ H' fun σ2 H2=>tb { D with nx:=N,ct:=N,bk:=D.nx } σ2 H2):=by
 refine⟨fun i m σ H=>m=xs.length-i/\i<=xs.length/\Pv i σ H,⟨xs.length,by simp,Nat.zero_le _,h0⟩,?_⟩;rintro i m σ H ⟨rfl,hi,p⟩;have q:=hl i σ H hi p;by_cases hlt:i<xs.length
 ·refine .inr ⟨⟨xs,xs[i],q,by simp[hlt]⟩,Pv (i+1),fun σ' H' p'=>⟨xs.length-(i+1),by lia,rfl,hlt,p'⟩,fun x H' y=>?_⟩;obtain⟨e,y⟩:=y;subst e;exact hs i x σ _ (y xs q) p
 ·have e:i=xs.length:=by lia
  subst e;exact .inl ⟨⟨xs,q,Nat.le_refl _⟩,hd σ H p⟩
theorem Zca{K:PySem.W.Frag}{a:Addr}{xs:List V}{g:TG}{tb:TS}{D:Ends}{σ : St}{H:Hp}(Pv:Nat->St->Hp->Prop)(h0:Pv 0 σ H)(hl:∀i σ H,i<=xs.length->Pv i σ H->SqT K H a xs)
  (hs:∀i x σ H,xs[i]?= some x->Pv i σ H->g x σ H fun σ2 H2=>tb { D with nx:=Pv (i+1),ct:=Pv (i+1),bk:=D.nx } σ2 H2) (hd:∀ σ H,Pv xs.length σ H->D.nx σ H) :
  ∃W:Nat->Nat->St->Hp->Prop,(∃m,W 0 m σ H)/\∀i m σ H,W i m σ H ->
   ((Itt K a).stop i H/\D.nx σ H)\/((Itt K a).go i H/\∃N:St->Hp->Prop,(∀ σ' H',N σ' H'->∃m',m'<m/\W (i+1) m' σ' H')/\∀x H',(Itt K a).yld i H x H'->g x σ H' fun σ2 H2=>tb { D with nx:=N,ct:=N,bk:=D.nx } σ2 H2):=by
 refine⟨fun i m σ H=>m=xs.length-i/\i<=xs.length/\Pv i σ H,⟨xs.length,by simp,Nat.zero_le _,h0⟩,?_⟩;rintro i m σ H ⟨rfl,hi,p⟩;have q:=hl i σ H hi p;by_cases hlt:i<xs.length
 ·refine .inr ⟨⟨xs,xs[i],q,by simp[hlt]⟩,Pv (i+1),fun σ' H' p'=>⟨xs.length-(i+1),by lia,rfl,hlt,p'⟩,fun x H' y=>?_⟩;obtain⟨e,y⟩:=y;subst e;exact hs i x σ _ (y xs q) p
 ·have e:i=xs.length:=by lia
  subst e;exact .inl ⟨⟨xs,q,Nat.le_refl _⟩,hd σ H p⟩
theorem ZaT{lo:Int}{n:Nat}{g:TG}{tb:TS}{D:Ends}{σ : St}{H:Hp}(Pv:Nat->St->Hp->Prop)(h0:Pv 0 σ H)
  (hs:∀i σ H,i<n->Pv i σ H->g (.int (lo+i)) σ H fun σ2 H2=>tb { D with nx:=Pv (i+1),ct:=Pv (i+1),bk:=D.nx } σ2 H2) (hd:∀ σ H,Pv n σ H->D.nx σ H) :
  ∃W:Nat->Nat->St->Hp->Prop,(∃m,W 0 m σ H)/\∀i m σ H,W i m σ H ->
   ((Itr lo n).stop i H/\D.nx σ H)\/((Itr lo n).go i H/\∃N:St->Hp->Prop,(∀ σ' H',N σ' H'->∃m',m'<m/\W (i+1) m' σ' H')/\∀x H',(Itr lo n).yld i H x H'->g x σ H' fun σ2 H2=>tb { D with nx:=N,ct:=N,bk:=D.nx } σ2 H2):=by
 refine⟨fun i m σ H=>m=n-i/\i<=n/\Pv i σ H,⟨n,by simp,Nat.zero_le _,h0⟩,?_⟩;rintro i m σ H ⟨rfl,hi,p⟩;by_cases hlt:i<n
 ·refine .inr ⟨hlt,Pv (i+1),fun σ' H' p'=>⟨n-(i+1),by lia,rfl,hlt,p'⟩,fun x H' y=>?_⟩;obtain⟨e,y⟩:=y;subst e y;exact hs i σ _ hlt p
 ·have e:i=n:=by lia
  subst e;exact .inl ⟨Nat.le_refl _,hd σ H p⟩
abbrev R2:=V->V->Hp->VK->Prop
def OpR(X:Cx)(f:Value->Value->Sem Value)(r:R2):Prop :=
 ∀(pins:List (Addr×Obj))(s:Shared)(σ : St)(H:Hp)(x y:V)(v u:Value)(Q:VK),Inv X pins σ H s->RelV x v->RelV y u->r x y H Q ->
  wpAny (model X.prog X.w) X.A (f v u) (EP X pins σ Q) X.xe s
def UnR(X:Cx)(f:Value->Sem Value)(r:V->Hp->VK->Prop):Prop :=
 ∀(pins:List (Addr×Obj))(s:Shared)(σ : St)(H:Hp)(x:V)(v:Value)(Q:VK),Inv X pins σ H s->RelV x v->r x H Q ->
  wpAny (model X.prog X.w) X.A (f v) (EP X pins σ Q) X.xe s
def ZbU(X:Cx)(f:Value)(r:List V->Hp->VK->Prop):Prop :=
 ∀(pins:List (Addr×Obj))(s:Shared)(σ : St)(H:Hp)(xs:List V)(us:List Value)(Q:VK),Inv X pins σ H s->Vals xs us->r xs H Q ->
  wpAny (model X.prog X.w) X.A (call f us) (EP X pins σ Q) X.xe s
def ZlW(X:Cx)(r:V->Hp->(Bool->Hp->Prop)->Prop):Prop :=
 ∀(pins:List (Addr×Obj))(s:Shared)(σ : St)(H:Hp)(x:V)(v:Value)(Q:Bool->Hp->Prop),Inv X pins σ H s->RelV x v->r x H Q ->
  wpAny (model X.prog X.w) X.A (truthy v) (TP X pins σ Q) X.xe s
def tOp(r:R2)(ta tb:TE):TE:=fun σ H Q=>ta σ H fun x H1=>tb σ H1 fun y H2=>r x y H2 Q
def tUn(r:V->Hp->VK->Prop)(ta:TE):TE:=fun σ H Q=>ta σ H fun x H1=>r x H1 Q
def rI(C:Int->Int->Prop)(g:Int->Int->V):R2:=fun x y H Q=>∃i j,x=.int i/\y=.int j/\C i j/\Q (g i j) H
def rI0(g:Int->Int->V):R2:=fun x y H Q=>∃i j,x=.int i/\y=.int j/\Q (g i j) H
def rU(g:Int->V):V->Hp->VK->Prop:=fun x H Q=>∃i,x=.int i/\Q (g i) H
section
variable{X:Cx}{a b c:Expr}{ta tb tc:TE}{pos:Pos}
theorem Zls(ha:PE X a ta)(hb:PE X b tb){pins:List (Addr×Obj)}{s:Shared}{σ : St}{H:Hp}{R:V->V->Hp->Prop}(I:Inv X pins σ H s)
  (h:ta σ H fun x H1=>tb σ H1 fun y H2=>R x y H2) {Q:Value->Shared->Prop} {f:Value->Value->Sem Value}
  (hf:∀v u s2 x y H2,Inv X pins σ H2 s2->RelV x v->RelV y u->R x y H2->wpAny (model X.prog X.w) X.A (f v u) Q X.xe s2) :
  wpAny (model X.prog X.w) X.A (eval a X.env) (fun v s₁=>wpAny (model X.prog X.w) X.A (eval b X.env) (fun u s₂=>wpAny (model X.prog X.w) X.A (f v u) Q X.xe s₂) X.xe s₁) X.xe s:=by
 refine thn (ha pins s σ H _ I h) fun v s1 ⟨x,H1,I1,r1,q1⟩=>?_;refine thn (hb pins s1 σ H1 _ I1 q1) fun u s2 ⟨y,H2,I2,r2,q2⟩=>?_;exact hf v u s2 x y H2 I2 r1 r2 q2
theorem Zk{op:Operator}{r:R2}(ho:OpR X (binaryOp op) r)(ha:PE X a ta)(hb:PE X b tb):PE X (.BinOp a op b pos) (tOp r ta tb):=by
 intro pins s σ H Q I h;exact wpAny_BinOp (Zls ha hb I h fun v u s2 x y H2 I2 rx ry q=>ho pins s2 σ H2 x y v u Q I2 rx ry q)
theorem Zg6{op:UnaryOp}{r:V->Hp->VK->Prop}(ho:UnR X (unaryOp op) r)(ha:PE X a ta):PE X (.UnaryOp op a pos) (tUn r ta):=by
 intro pins s σ H Q I h;exact UnaryOp_ (thn (ha pins s σ H _ I h) fun v s1 ⟨x,H1,I1,r1,q1⟩=>ho pins s1 σ H1 x v Q I1 r1 q1)
theorem opI{f:Value->Value->Sem Value}{C:Int->Int->Prop}{g:Int->Int->Int}
  (rule:∀(i j:Int)(t u:Tok)(s:Shared)(Q:Value->Shared->Prop)(E:Value->Shared->Prop),C i j->Q (.int (g i j) s.toks) { s with toks:=s.toks+1 }->wpAny (model X.prog X.w) X.A (f (.int i t) (.int j u)) Q E s) :
  OpR X f (rI C fun i j=>.int (g i j)):=by
 intro pins s σ H x y v u Q I rx ry h;obtain⟨i,j,rfl,rfl,hc,q⟩:=h;obtain⟨t,rfl⟩:=rx;obtain⟨t',rfl⟩:=ry;exact rule i j t t' s _ _ hc ⟨.int (g i j),H,I.tok _,⟨_,rfl⟩,q⟩
theorem ZlM{f:Value->Value->Sem Value}{g:Int->Int->Int}
  (rule:∀(i j:Int)(t u:Tok)(s:Shared)(Q:Value->Shared->Prop)(E:Value->Shared->Prop),Q (.int (g i j) s.toks) { s with toks:=s.toks+1 }->wpAny (model X.prog X.w) X.A (f (.int i t) (.int j u)) Q E s) :
  OpR X f (rI0 fun i j=>.int (g i j)):=by
 intro pins s σ H x y v u Q I rx ry h;obtain⟨i,j,rfl,rfl,q⟩:=h;obtain⟨t,rfl⟩:=rx;obtain⟨t',rfl⟩:=ry;exact rule i j t t' s _ _ ⟨.int (g i j),H,I.tok _,⟨_,rfl⟩,q⟩
theorem Zlw{f:Value->Value->Sem Value}{g:Int->Int->Bool}
  (rule:∀(i j:Int)(t u:Tok)(s:Shared)(Q:Value->Shared->Prop)(E:Value->Shared->Prop),Q (.bool (g i j)) s->wpAny (model X.prog X.w) X.A (f (.int i t) (.int j u)) Q E s) :
  OpR X f (rI0 fun i j=>.bl (g i j)):=by
 intro pins s σ H x y v u Q I rx ry h;obtain⟨i,j,rfl,rfl,q⟩:=h;obtain⟨t,rfl⟩:=rx;obtain⟨t',rfl⟩:=ry;exact rule i j t t' s _ _ ⟨.bl (g i j),H,I,rfl,q⟩
def Zml(i j:Int):Prop:=0<j/\j<1073741824
def ZlB(i j:Int):Prop:=(-(2 ^ 64)<i/\i<2 ^ 64)\/(-(2 ^ 64)<j/\j<2 ^ 64)
theorem ZlB.ok{i j:Int}(h:ZlB i j):IntMulOk i j:=by
 rcases h with⟨h1,h2⟩|⟨h1,h2⟩
 ·exact .of_left (intBits_le_64 h1 h2)
 ·exact .of_right (intBits_le_64 h1 h2)
theorem Z2:OpR X (binaryOp .Add) (rI0 fun i j=>.int (i+j)):=ZlM fun _ _ _ _ _ _ _ q=>add_int q
theorem Zdw:OpR X (binaryOp .Sub) (rI0 fun i j=>.int (i-j)):=ZlM fun _ _ _ _ _ _ _ q=>sub_int q
theorem ZcK:OpR X (binaryOp .Mult) (rI ZlB fun i j=>.int (i*j)):=opI fun _ _ _ _ _ _ _ hc q=>mul_int q hc.ok
theorem ZS:OpR X (binaryOp .FloorDiv) (rI Zml fun i j=>.int (i / j)):=opI fun i j _ _ _ _ _ hc q=>by
 have h1:(0:Int)<j:=hc.1;have h2:j<1073741824:=hc.2;exact floordiv_int (by lia) (by rw[Int.fdiv_eq_ediv_of_nonneg i (by lia)];exact q) (.inl (PyProof.noPylong_small (by lia)))
theorem ZX:OpR X (binaryOp .Mod) (rI (fun _ j=>0<j) fun i j=>.int (i % j)):=opI fun i j _ _ _ _ _ hc q=>by
 have h1:(0:Int)<j:=hc;exact mod_int' (by lia) (by rw[Int.fmod_eq_emod_of_nonneg i (by lia)];exact q)
theorem unI{f:Value->Sem Value}{g:Int->Int}
  (rule:∀(i:Int)(t:Tok)(s:Shared)(Q:Value->Shared->Prop)(E:Value->Shared->Prop),Q (.int (g i) s.toks) { s with toks:=s.toks+1 }->wpAny (model X.prog X.w) X.A (f (.int i t)) Q E s) :
  UnR X f (rU fun i=>.int (g i)):=by
 intro pins s σ H x v Q I rx h;obtain⟨i,rfl,q⟩:=h;obtain⟨t,rfl⟩:=rx;exact rule i t s _ _ ⟨.int (g i),H,I.tok _,⟨_,rfl⟩,q⟩
theorem Zeu:UnR X (unaryOp .USub) (rU fun i=>.int (-i)):=unI fun _ _ _ _ _ q=>neg_int q
end
def Zk8:V->V->Bool
 | .non,.non=>true | .non,.int _=>true | .int _,.non=>true | .non,.bl _=>true | .bl _,.non=>true | .non,.str _=>true | .str _,.non=>true
 | .int _,.int _=>true | .bl _,.bl _=>true | .str _,.str _=>true | .byt _,.byt _=>true
 | .int _,.str _=>true | .str _,.int _=>true | .bl _,.str _=>true | .str _,.bl _=>true
 | _,_=>false
def rEq:R2:=fun x y H Q=>Zk8 x y=true/\Q (.bl (decide (x=y))) H
def rNe:R2:=fun x y H Q=>Zk8 x y=true/\Q (.bl (!decide (x=y))) H
theorem ZhX{i j:Int}:decide (V.int i=V.int j)=(i == j):=by
 rw[Bool.eq_iff_iff];simp
theorem Zjf{i j:Bool}:decide (V.bl i=V.bl j)=(i == j):=by
 rw[Bool.eq_iff_iff];simp
theorem Zh1{i j:Str}:decide (V.str i=V.str j)=(i == j):=by
 rw[Bool.eq_iff_iff];simp
theorem Zg3{i j:Array UInt8}:decide (V.byt i=V.byt j)=(i.toList == j.toList):=by
 rw[Bool.eq_iff_iff];cases i;cases j;simp
section
variable{X:Cx}{a b c:Expr}{ta tb tc:TE}{pos:Pos}
theorem ZV{pins:List (Addr×Obj)}{σ : St}{H:Hp}{s:Shared}{Q:VK}{k k':Bool}(I:Inv X pins σ H s)(q:Q (.bl k) H)(e:k=k'):EP X pins σ Q (.bool k') s:=by
 subst e;exact⟨.bl k,H,I,rfl,q⟩
theorem Zco:OpR X (compareOp .Eq) rEq:=by
 intro pins s σ H x y v u Q I rx ry h;obtain⟨hs,q⟩:=h;cases x with
 | non =>
  cases rx;cases y with
  | non=>cases ry;exact PySem.EqNone.eq_none_none (ZV I q (by simp))
  | bl j=>cases ry;exact PySem.EqNone.eq_none_bool (ZV I q (by simp))
  | int j=>obtain⟨t',rfl⟩:=ry;exact PySem.EqNone.eq_none_int (ZV I q (by simp))
  | str j=>obtain⟨t',rfl⟩:=ry;exact PySem.EqNone.eq_none_str (ZV I q (by simp))
  | _=>exact absurd (show false=true from hs) Bool.false_ne_true
 | bl i =>
  cases rx;cases y with
  | non=>cases ry;exact PySem.EqNone.eq_bool_none (ZV I q (by simp))
  | bl j=>cases ry;exact eq_bool (ZV I q Zjf)
  | str j=>obtain⟨t',rfl⟩:=ry;exact PySem.EqMixed.eq_bool_str (ZV I q (by simp))
  | _=>exact absurd (show false=true from hs) Bool.false_ne_true
 | int i =>
  obtain⟨t,rfl⟩:=rx;cases y with
  | non=>cases ry;exact PySem.EqNone.eq_int_none (ZV I q (by simp))
  | int j=>obtain⟨t',rfl⟩:=ry;exact eq_int (ZV I q ZhX)
  | str j=>obtain⟨t',rfl⟩:=ry;exact PySem.EqMixed.eq_int_str (ZV I q (by simp))
  | _=>exact absurd (show false=true from hs) Bool.false_ne_true
 | str i =>
  obtain⟨t,rfl⟩:=rx;cases y with
  | non=>cases ry;exact PySem.EqNone.eq_str_none (ZV I q (by simp))
  | bl j=>cases ry;exact PySem.EqMixed.eq_str_bool (ZV I q (by simp))
  | int j=>obtain⟨t',rfl⟩:=ry;exact PySem.EqMixed.eq_str_int (ZV I q (by simp))
  | str j=>obtain⟨t',rfl⟩:=ry;exact eq_str (ZV I q Zh1)
  | _=>exact absurd (show false=true from hs) Bool.false_ne_true
 | byt i =>
  obtain⟨t,rfl⟩:=rx;cases y with
  | byt j=>obtain⟨t',rfl⟩:=ry;exact PySem.W.eq_bytes (ZV I q Zg3)
  | _=>exact absurd (show false=true from hs) Bool.false_ne_true
 | _=>cases y <;> exact absurd (show false=true from hs) Bool.false_ne_true
theorem ZkD:OpR X (compareOp .NotEq) rNe:=by
 intro pins s σ H x y v u Q I rx ry h;obtain⟨hs,q⟩:=h;cases x with
 | non =>
  cases rx;cases y with
  | non=>cases ry;exact PySem.EqNone.ne_none_none (ZV I q (by simp))
  | bl j=>cases ry;exact PySem.EqNone.ne_none_bool (ZV I q (by simp))
  | int j=>obtain⟨t',rfl⟩:=ry;exact PySem.EqNone.ne_none_int (ZV I q (by simp))
  | str j=>obtain⟨t',rfl⟩:=ry;exact PySem.EqNone.ne_none_str (ZV I q (by simp))
  | _=>exact absurd (show false=true from hs) Bool.false_ne_true
 | bl i =>
  cases rx;cases y with
  | non=>cases ry;exact PySem.EqNone.ne_bool_none (ZV I q (by simp))
  | bl j=>cases ry;exact ne_bool (ZV I q (congrArg not Zjf))
  | str j=>obtain⟨t',rfl⟩:=ry;exact PySem.EqMixed.ne_bool_str (ZV I q (by simp))
  | _=>exact absurd (show false=true from hs) Bool.false_ne_true
 | int i =>
  obtain⟨t,rfl⟩:=rx;cases y with
  | non=>cases ry;exact PySem.EqNone.ne_int_none (ZV I q (by simp))
  | int j=>obtain⟨t',rfl⟩:=ry;exact ne_int (ZV I q (congrArg not ZhX))
  | str j=>obtain⟨t',rfl⟩:=ry;exact PySem.EqMixed.ne_int_str (ZV I q (by simp))
  | _=>exact absurd (show false=true from hs) Bool.false_ne_true
 | str i =>
  obtain⟨t,rfl⟩:=rx;cases y with
  | non=>cases ry;exact PySem.EqNone.ne_str_none (ZV I q (by simp))
  | bl j=>cases ry;exact PySem.EqMixed.ne_str_bool (ZV I q (by simp))
  | int j=>obtain⟨t',rfl⟩:=ry;exact PySem.EqMixed.ne_str_int (ZV I q (by simp))
  | str j=>obtain⟨t',rfl⟩:=ry;exact ne_str (ZV I q (congrArg not Zh1))
  | _=>exact absurd (show false=true from hs) Bool.false_ne_true
 | byt i =>
  obtain⟨t,rfl⟩:=rx;cases y with
  | byt j=>obtain⟨t',rfl⟩:=ry;exact PySem.W.ne_bytes (ZV I q (congrArg not Zg3))
  | _=>exact absurd (show false=true from hs) Bool.false_ne_true
 | _=>cases y <;> exact absurd (show false=true from hs) Bool.false_ne_true
theorem ZjY:OpR X (compareOp .Lt) (rI0 fun i j=>.bl (decide (i<j))):=Zlw fun _ _ _ _ _ _ _ q=>lt_int q
theorem ZjE:OpR X (compareOp .LtE) (rI0 fun i j=>.bl (decide (i<=j))):=Zlw fun _ _ _ _ _ _ _ q=>le_int q
theorem ZiC:OpR X (compareOp .Gt) (rI0 fun i j=>.bl (decide (j<i))):=Zlw fun _ _ _ _ _ _ _ q=>gt_int q
theorem ZbP:OpR X (compareOp .Is) (fun x y H Q=>y=.non/\Q (.bl (decide (x=.non))) H):=by
 intro pins s σ H x y v u Q I rx ry h;obtain⟨rfl,q⟩:=h;cases ry;refine is_none_gen (ZV I q ?_);cases x <;> first
  | (cases rx;rfl)
  | (obtain⟨t,rfl⟩:=rx;rfl)
theorem Za9:OpR X (compareOp .IsNot) (fun x y H Q=>y=.non/\Q (.bl (!decide (x=.non))) H):=by
 intro pins s σ H x y v u Q I rx ry h;obtain⟨rfl,q⟩:=h;cases ry;refine isnot_none_gen (ZV I q ?_);cases x <;> first
  | (cases rx;rfl)
  | (obtain⟨t,rfl⟩:=rx;rfl)
theorem OpR.or{f:Value->Value->Sem Value}{r r':R2}(h:OpR X f r)(h':OpR X f r'):OpR X f (fun x y H Q=>r x y H Q\/r' x y H Q):=by
 intro pins s σ H x y v u Q I rx ry q;rcases q with q|q
 ·exact h pins s σ H x y v u Q I rx ry q
 ·exact h' pins s σ H x y v u Q I rx ry q
theorem Zt(b:Expr){op:CmpOp}(h:op ≠ .In:=by decide)(h2:op ≠ .NotIn:=by decide):behindInMarks op b=false:=by
 have e1:(op == CmpOp.In)=false:=by cases op <;> first|rfl|exact absurd rfl h
 have e2:(op == CmpOp.NotIn)=false:=by cases op <;> first|rfl|exact absurd rfl h2
 cases b <;> simp[behindInMarks,e1,e2]
theorem ZaI{op:CmpOp}{r:R2}(ho:OpR X (compareOp op) r)(ha:PE X a ta)(hb:PE X b tb)(hm:behindInMarks op b=false):PE X (.Compare a [op] [b] pos) (tOp r ta tb):=by
 intro pins s σ H Q I h;exact wpAny_Compare1 (Zls ha hb I h fun v u s2 x y H2 I2 rx ry q=>ho pins s2 σ H2 x y v u Q I2 rx ry q) hm
def Zlz(t:TE):TT:=fun σ H Q=>t σ H fun x H'=>∃k,x=.bl k/\Q k H'
theorem Zr{op:CmpOp}{r:R2}(ho:OpR X (compareOp op) r)(ha:PE X a ta)(hb:PE X b tb)(hm:behindInMarks op b=false):PT X (.Compare a [op] [b] pos) (Zlz (tOp r ta tb)):=by
 intro pins s σ H Q I h;refine wpAny_isTrue_Compare1 (thn (ha pins s σ H _ I h) fun v s1 ⟨x,H1,I1,r1,q1⟩=>thn (hb pins s1 σ H1 _ I1 q1) fun u s2 ⟨y,H2,I2,r2,q2⟩ =>
  thn (ho pins s2 σ H2 x y v u _ I2 r1 r2 q2) fun c s3 ⟨z,H3,I3,r3,k,e,q3⟩=>?_) hm
 subst e;cases r3;exact wpAny_truthy_bool ⟨H3,I3,q3⟩
def ZlH(K:PySem.W.Frag)(x:V)(H:Hp)(k:Bool):Prop :=
 match x with
 | .non=>k=false
 | .bl b=>k=b
 | .int i=>k=(i != 0)
 | .str y=>y.length<=sizeLine/\k=((y.length:Int) != 0)
 | .byt y=>y.size<=sizeLine/\k=((y.size:Int) != 0)
 | .ref p=>(∃xs,SqL K H p xs/\k= !xs.isEmpty)\/(∃xs,SqT K H p xs/\k= !xs.isEmpty)\/∃kvs,H p=some (.dK kvs)/\k= !kvs.isEmpty
 | _=>False
theorem Zga{κ : Type}{kvs:List (κ × V)}{vs:List (κ × Value)}(r:KV kvs vs):(!vs.isEmpty)= !kvs.isEmpty:=by
 cases r <;> rfl
theorem Zdr{xs:List V}{its:List Value}(r:Vals xs its):(!its.toArray.isEmpty)= !xs.isEmpty:=by
 cases r <;> simp
theorem Zdp:(sizeLine:Nat)<2 ^ 63:=by rw[sizeLine_eq];decide
theorem ZkB:ZlW X (fun x H Q=>∃k,ZlH X.K x H k/\Q k H):=by
 intro pins s σ H x v Q I rx h;obtain⟨k,e,q⟩:=h;have hl:=Zdp;have hs:sizeLine=16777216:=sizeLine_eq;cases x with
 | non =>
  cases rx;have e':k=false:=e;subst e';exact truthy_none ⟨H,I,q⟩
 | bl b =>
  cases rx;have e':k=b:=e;subst e';exact wpAny_truthy_bool ⟨H,I,q⟩
 | int i =>
  obtain⟨t,rfl⟩:=rx;have e':k=(i != 0):=e;subst e';exact PySem.P.truthy_int ⟨H,I,q⟩
 | str y =>
  obtain⟨t,rfl⟩:=rx;obtain⟨hy,e'⟩:y.length<=sizeLine/\k=((y.length:Int) != 0):=e;subst e';exact PySem.P.truthy_str (by lia) ⟨H,I.tok _,q⟩
 | byt y =>
  obtain⟨t,rfl⟩:=rx;obtain⟨hy,e'⟩:y.size<=sizeLine/\k=((y.size:Int) != 0):=e;subst e';exact PySem.W.truthy_bytes (by lia) ⟨H,I.tok _,q⟩
 | ref p =>
  cases rx;have e':(∃xs,SqL X.K H p xs/\k= !xs.isEmpty)\/(∃xs,SqT X.K H p xs/\k= !xs.isEmpty)\/∃kvs,H p=some (.dK kvs)/\k= !kvs.isEmpty:=e;rcases e' with⟨xs,hx,e'⟩|⟨xs,hx,e'⟩|⟨kvs,hx,e'⟩
  ·subst e';obtain⟨its,r,pl,hz⟩:=I.list hx;have hlen:=r.length;exact wpAny_truthy_list pl.isList (by simp only[List.size_toArray];lia) ⟨H,I.tok _,by rw[Zdr r];exact q⟩
  ·subst e';obtain⟨its,r,pl,hz⟩:=I.tuple hx;have hlen:=r.length;exact truthy_tuple pl (by simp only[List.size_toArray];lia) ⟨H,I.tok _,by rw[Zdr r];exact q⟩
  ·subst e';obtain⟨hz,hS,vs,r,m⟩:kvs.length<=sizeLine/\(p == sysModules)=false/\∃vs,KV kvs vs/\s.heap.DictOf (ZaZ X.prog X.w) p vs:=I.hok p _ hx;have hlen:kvs.length=vs.length:=Paired.length r;exact wpAny_truthy_dict hS m (by lia) ⟨H,I.tok _,by rw[Zga r];exact q⟩
 | _=>exact(show False from e).elim
theorem Z8(ha:PE X a ta)(he:∀whole,isTrue a X.env whole=(do let v <- whole;standAt a.pos;holding [v] (truthy v))) :
  PT X a (fun σ H Q=>ta σ H fun x H'=>∃k,ZlH X.K x H' k/\Q k H'):=by
 intro pins s σ H Q I h;exact isTrue_plain (thn (ha pins s σ H _ I h) fun v s1 ⟨x,H1,I1,r1,q1⟩=>ZkB pins s1 σ H1 x v Q I1 r1 q1) (he _)
theorem Zgm:OpR X (binaryOp .Add) (fun x y H Q=>∃i j,x=.str i/\y=.str j/\i.length+j.length<=sizeLine/\Q (.str (i++j)) H):=by
 intro pins s σ H x y v u Q I rx ry h;obtain⟨i,j,rfl,rfl,hz,q⟩:=h;obtain⟨t,rfl⟩:=rx;obtain⟨t',rfl⟩:=ry;exact add_str (fun t' tk=>⟨.str (i++j),H,I.tok _,⟨_,rfl⟩,q⟩) hz
theorem vals1{x:V}{us:List Value}(r:Vals [x] us):∃u,us=[u]/\RelV x u:=by
 cases r with
 | cons r1 r2=>cases r2;exact⟨_,rfl,r1⟩
theorem vals2{x y:V}{us:List Value}(r:Vals [x,y] us):∃u w',us=[u,w']/\RelV x u/\RelV y w':=by
 cases r with
 | cons r1 r2 =>
  cases r2 with
  | cons r3 r4=>cases r4;exact⟨_,_,rfl,r1,r3⟩
theorem ZgO(hc:X.calm=true):ZbU X (.builtin "min") (fun xs H Q=>∃i j,xs=[.int i,.int j]/\Q (.int (if j<i then j else i)) H):=by
 intro pins s σ H xs us Q I r h;obtain⟨i,j,rfl,q⟩:=h;obtain⟨u,w',rfl,⟨t,rfl⟩,⟨t',rfl⟩⟩:=vals2 r;refine min_two_ints (I.ok.hd hc) fun h' tk k=>⟨_,H,I.kept k,?_,q⟩;by_cases hj:j<i
 ·rw[if_pos hj,if_pos hj];exact⟨_,rfl⟩
 ·rw[if_neg hj,if_neg hj];exact⟨_,rfl⟩
end
structure ObjM(h:Heap)(x dx C:Addr)(mA:Str->Option Value):Prop where
 obj:h.get? x=some (PySem.W.instObj C dx)
 ns:h.Ns1 dx mA
 ne:dx≠x
theorem Zec{h:Heap}{dx:Addr}{mA:Str->Option Value}(n:h.Ns1 dx mA):∃od,h.get? dx=some od/\∀name,PySem.W.lookIn name od=some (mA name):=by
 obtain⟨o,es,ep,ho,hd,hk,_,hm⟩:=n;refine⟨o,ho,fun name=>?_⟩;have e:=hm name;unfold nsFind findBy at e;rw[<- Array.find?_toList] at e;unfold PySem.W.lookIn;rw[hd];dsimp only
 split
 ·rename_i y q
  rw[q] at e;exact congrArg some e
 ·rename_i q
  rw[q] at e;have a:es.toList.any (·.refKey)=false:=by
   rw[List.any_eq_false];intro y hy;obtain⟨z,t,hkey⟩:=hk y (Array.mem_toList_iff.mp hy);simp[DictEntry.refKey,hkey]
  have a' : ¬ es.toList.any (·.refKey)=true:=by rw[a];exact Bool.false_ne_true
  rw[if_neg a'];exact congrArg some e
theorem ObjM.look{h:Heap}{x dx C:Addr}{mA:Str->Option Value}(I:ObjM h x dx C mA):∃od,PySem.W.InstAt h x (PySem.W.instObj C dx) C (some od)/\∀name,PySem.W.lookIn name od=some (mA name) :=
 let ⟨od,ho,hl⟩:=Zec I.ns
 ⟨od,⟨I.obj,rfl,rfl,ho⟩,hl⟩
section
variable{P:Program}{w:World}{H H':Hp}{h h':Heap}{a C dx:Addr}{fs fs':List (Str×V)}
theorem ZjG(hok:HOk P w H h)(e:H a=some (.ins C dx fs)):∃mA,ObjM h a dx C mA/\(∀f,Zll (fs.lookup f) (mA f))/\PySem.Within mA (fs.map (·.1))/\fs.length<=1000/\H dx=some (.own a):=by
 obtain⟨d,z,ne,ob,mA,n,r,q⟩:=(show Zaw P w H h a (.ins C dx fs) from hok a _ e);exact⟨mA,⟨ob,n,ne⟩,r,q,z,d⟩
end
structure Cls(K:PySem.W.Frag)(C:Addr):Prop where
 pg:PySem.W.plainGet K C Str.empty=true
 hd:PySem.W.hasDictIn K C=true
 po:PySem.W.plainOver K C=true
 sa:PySem.W.findIn K (.ref C) "__setattr__" = some (some (.builtin "object.__setattr__"))
theorem Cls.get{K:PySem.W.Frag}{C:Addr}(c:Cls K C)(f:Str):PySem.W.plainGet K C f=true:=c.pg
section
variable{X:Cx}{pins:List (Addr×Obj)}{σ : St}{H:Hp}{s:Shared}{A:Around}{E:Value->Shared->Prop}{Q:Value->Shared->Prop}{c:Value}{b:Bool}
inductive TyOf(K:PySem.W.Frag)(H:Hp):V->Value->Prop where
 | non:TyOf K H .non (.type "NoneType")
 | bl (x:Bool):TyOf K H (.bl x) (.type "bool")
 | int (i:Int):TyOf K H (.int i) (.type "int")
 | str (x:Str):TyOf K H (.str x) (.type "str")
 | flt (x:UInt64):TyOf K H (.flt x) (.type "float")
 | lst {a:Addr} {xs:List V} (e:H a=some (.lst xs)):TyOf K H (.ref a) (.type "list")
 | frz {a:Addr} {o:Obj} {xs:List V} (e:H a=some (.frz o (.lst xs))):TyOf K H (.ref a) (.type "list")
 | tup {a:Addr} {xs:List V} (e:H a=some (.tup xs)):TyOf K H (.ref a) (.type "tuple")
 | dK {a:Addr} {kvs:List (Key×V)} (e:H a=some (.dK kvs)):TyOf K H (.ref a) (.type "dict")
 | dT {a:Addr} {kvs:List (List Key×V)} (e:H a=some (.dT kvs)):TyOf K H (.ref a) (.type "dict")
 | ins {a C dx:Addr} {fs:List (Str×V)} (e:H a=some (.ins C dx fs)) (cl:Cls K C) (ha:PySem.W.findIn K (.ref C) "__class__" = some (some (.builtin "object.__class__")))
   (hn:PySem.W.specialIn K (.builtin "object.__class__") "__get__" = some (some (.builtin "getset_descriptor.__get__"))) (htk:PySem.W.takesIn K (.builtin "object.__class__")=some true)
   (hm:PySem.W.mroIn K C (.type "object")=some true):TyOf K H (.ref a) (.ref C)
theorem Zhs{x:V}{u t:Value}(I:Inv X pins σ H s)(rx:RelV x u)(ty:TyOf X.K H x t)(e:PySem.W.kitOne X.K t c=some b)(h:∀tk,Q (.bool b) { s with toks:=tk }) :
  wpAny (model X.prog X.w) A (call (.builtin "isinstance") [u,c]) Q E s:=by
 cases ty with
 | non=>cases (show u=Value.none from rx);exact PySem.W.kia_one PySem.W.kitx_none I.kIn True.intro e (fun z=>nomatch z) h
 | bl y=>cases (show u=Value.bool y from rx);exact PySem.W.kia_one PySem.W.kitx_bool I.kIn True.intro e (fun z=>nomatch z) h
 | int i=>obtain⟨t,q⟩:=(show ∃t,u=Value.int i t from rx);cases q;exact PySem.W.kia_one PySem.W.kitx_int I.kIn True.intro e (fun z=>nomatch z) h
 | str y=>obtain⟨t,q⟩:=(show ∃t,u=Value.str y t from rx);cases q;exact PySem.W.kia_one PySem.W.kitx_str I.kIn True.intro e (fun z=>nomatch z) h
 | flt y=>obtain⟨t,q⟩:=(show ∃t,u=Value.float y t from rx);cases q;exact PySem.W.kia_one PySem.W.kitx_float I.kIn True.intro e (fun z=>nomatch z) h
 | @lst a xs ea =>
  cases (show u=Value.ref a from rx);obtain⟨_,_,n,_,h1⟩:=(show Zaw X.prog X.w H s.heap a (.lst xs) from I.hok a _ ea);exact PySem.W.kia_one PySem.W.kitx_list I.kIn ⟨_,h1,rfl⟩ e (fun z=>nomatch z) h
 | @frz a ob xs ea =>
  cases (show u=Value.ref a from rx);obtain⟨_,_,_,n,_,h1⟩:=(show Zaw X.prog X.w H s.heap a (.frz ob (.lst xs)) from I.hok a _ ea);exact PySem.W.kia_one PySem.W.kitx_list I.kIn ⟨_,h1,rfl⟩ e (fun z=>nomatch z) h
 | @tup a xs ea =>
  cases (show u=Value.ref a from rx);obtain⟨_,_,_,p⟩:=(show Zaw X.prog X.w H s.heap a (.tup xs) from I.hok a _ ea);obtain⟨o,h1,h2,_⟩:=p;exact PySem.W.kia_one PySem.W.kitx_tuple I.kIn ⟨o,h1,h2⟩ e (fun z=>nomatch z) h
 | @dK a kvs ea =>
  cases (show u=Value.ref a from rx);obtain⟨_,_,vs,_,p⟩:=(show Zaw X.prog X.w H s.heap a (.dK kvs) from I.hok a _ ea);obtain⟨o,es,ep,h1,h2,_⟩:=p;exact PySem.W.kia_one PySem.W.kitx_dict I.kIn ⟨o,h1,h2.1⟩ e (fun z=>nomatch z) h
 | @dT a kvs ea =>
  cases (show u=Value.ref a from rx);obtain⟨_,_,xs,_,o,es,ep,h1,h2,_⟩:=(show Zaw X.prog X.w H s.heap a (.dT kvs) from I.hok a _ ea);exact PySem.W.kia_one PySem.W.kitx_dict I.kIn ⟨o,h1,h2.1⟩ e (fun z=>nomatch z) h
 | @ins a C dx fs ea cl ha hn htk hm =>
  cases (show u=Value.ref a from rx);obtain⟨mA,O,_⟩:=ZjG I.hok ea;obtain⟨od,J,_⟩:=O.look;exact PySem.W.kia_one (PySem.W.kitx_own (cl.get _) cl.hd ha hn htk hm) I.kIn J e (fun z=>nomatch z) h
end
structure Room(k:Nat)(A:Around):Prop where
 hd:A.handled=none
 dp:A.depth+2*k+5<recursionLimit
 un:A.units+16*k+200<cLine
 gd:A.guards=some []
theorem Room.mono{j k:Nat}{A:Around}(r:Room k A)(h:j<=k):Room j A:=⟨r.hd,by have:=r.dp;lia,by have:=r.un;lia,r.gd⟩
theorem Room.deeper{k:Nat}{A:Around}(r:Room (k+1) A)(env:Env):Room k (A.deeper env) :=
 ⟨r.hd,by have:=r.dp;show A.depth+1+2*k+5<_;lia,by have:=r.un;show A.units+3+16*k+200<_;lia,r.gd⟩
theorem Room.in1{k:Nat}{A:Around}(r:Room (k+1) A):Room k A.in1 :=
 ⟨r.hd,by have:=r.dp;show A.depth+2*k+5<_;lia,by have:=r.un;show A.units+1+16*k+200<_;lia,r.gd⟩
theorem Room.depth{k:Nat}{A:Around}(r:Room k A):A.depth<recursionLimit:=by have:=r.dp;lia
def Zkb:TA:=fun _ H Q=>Q [] H
def Zfj(ta:TE)(tr:TA):TA:=fun σ H Q=>ta σ H fun x H1=>tr σ H1 fun xs H2=>Q (x::xs) H2
section
variable{X:Cx}{e:Expr}{es:List Expr}{te:TE}{t:TA}{pos:Pos}
theorem Zd:PA X [] Zkb:=fun _ _ _ _ H Q I h=>Calls.spliced_nil ⟨[],H,I,.nil,h⟩
theorem Za(ha:PE X e te)(hr:PA X es t)(hs:starEach (e::es) X.env=(false,eval e X.env)::starEach es X.env:=by rfl):PA X (e::es) (Zfj te t):=by
 intro pos pins s σ H Q I h;rw[hs];show wpAny _ _ (spliced ((false,eval e X.env)::backTo pos (starEach es X.env))) _ _ s;refine Calls.spliced_cons (thn (ha pins s σ H _ I h) fun u s1 ⟨x,H1,I1,r1,q1⟩=>?_);exact thn (hr pos pins s1 σ H1 _ I1 q1) fun us s2 ⟨xs,H2,I2,r2,q2⟩=>⟨x::xs,H2,I2,.cons r1 r2,q2⟩
def Zme(t:TA):TE:=fun σ H Q=>t σ H fun xs H1=>xs.length<=sizeLine/\∀p,H1 p=none->Q (.ref p) (upd H1 p (.tup xs))
def ZlR(t:TA):TE:=fun σ H Q=>t σ H fun xs H1=>xs.length<=sizeLine/\∀p,H1 p=none->Q (.ref p) (upd H1 p (.lst xs))
theorem ZK{x1}(h:PA X es t):PE X (.Tuple es x1 pos) (Zme t):=by
 intro pins s σ H Q I hq;refine wpAny_Tuple_spliced (thn (h pos pins s σ H _ I hq) fun us s1 ⟨xs,H1,I1,r,z,q⟩=>⟨by rw[<- r.length];exact z,?_⟩);have hf:H1 s1.heap.objs.size=none:=I1.hok.fresh (Nat.le_refl _);refine⟨.ref s1.heap.objs.size,upd H1 s1.heap.objs.size (.tup xs),I1.laid (t':=s1.toks) (fun b u e=>Heap.get?_push_of_some _ e) (Nat.le_refl _) ?_,rfl,q _ hf⟩;exact⟨z,us,r,⟨_,Heap.get?_push_size _ rfl,rfl,_,rfl⟩⟩
theorem Zax(h:PA X es t):PE X (.List es pos) (ZlR t):=by
 intro pins s σ H Q I hq;refine wpAny_List_spliced (thn (h pos pins s σ H _ I hq) fun us s1 ⟨xs,H1,I1,r,z,q⟩=>⟨by rw[<- r.length];exact z,?_⟩);have hf:H1 s1.heap.objs.size=none:=I1.hok.fresh (Nat.le_refl _);refine⟨.ref s1.heap.objs.size,upd H1 s1.heap.objs.size (.lst xs),I1.laid (t':=s1.toks) (fun b u e=>Heap.get?_push_of_some _ e) (Nat.le_refl _) ?_,rfl,q _ hf⟩;exact⟨z,us,0,r,Heap.get?_push_size _ rfl⟩
end
abbrev Sp:=List V->Hp->VK->XK->Prop
abbrev CXT:=List Env->Hp->Shared->XK->Value->Shared->Prop
structure Env0(P:Program)(w:World)(K:PySem.W.Frag)(mg:Str->Option Value)(base:Heap)(A:Around)(outer:List Env)(s:Shared)(H:Hp):Prop where
 frames:A.frames=some outer
 mod:Mod K mg base
 bs:∀b o,base.get? b=some o->s.heap.get? b=some o/\H b=none
 bsz:base.objs.size<=s.heap.objs.size
 funs:s.heap.FunFrames base outer
 frf:∀b∈frs outer,H b=none
 hok:HOk P w H s.heap
 bare:AllBare s.gens
def CE(outer:List Env)(P:Program)(w:World)(H:Hp)(s:Shared)(Q:VK)(u:Value)(s':Shared):Prop :=
 ∃v H',s'.os=s.os/\AllBare s'.gens/\Un (frs outer) [] H H' s.heap s'.heap/\HOk P w H' s'.heap/\RelV v u/\Q v H'
def CR(CX:CXT)(outer:List Env)(P:Program)(w:World)(H:Hp)(s:Shared)(Q:VK)(E:XK)(r:Result)(s':Shared):Prop :=
 match r with
 | .ok (.ret u)=>CE outer P w H s Q u s'
 | .ok _=>False
 | .error e=>CX outer H s E e s'
structure FnOk(P:Program)(w:World)(K:PySem.W.Frag)(mg:Str->Option Value)(base:Heap)(CX:CXT)(k:Nat)(f:Addr)(fd:FuncData)(ps:List Str)(sp:Sp):Prop where
 len:∀vs H Q E,sp vs H Q E->vs.length=ps.length
 run:∀(A:Around)(outer:List Env)(s:Shared)(H:Hp)(args:Args)(us:List Value)(vs:List V)(Q:VK)(E:XK),Room k A->Env0 P w K mg base A outer s H->BindsTo s fd args (ps.zip us)->Vals vs us->sp vs H Q E ->
  codeAny (model P w) A (.call (.ref f) args) (CR CX outer P w H s Q E) s
section
variable{X:Cx}{pins:List (Addr×Obj)}{σ : St}{H:Hp}{s s':Shared}
theorem Inv.env0(I:Inv X pins σ H s):Env0 X.prog X.w X.K X.mg X.base X.A X.stack s H :=
 ⟨I.ok.frames,I.ok.mod,I.bs,Nat.le_trans I.ok.bsz I.sz,I.stack,I.stkFree,I.hok,I.bare⟩
theorem Inv.after{Q:VK}{u:Value}(I:Inv X pins σ H s)(h:CE X.stack X.prog X.w H s Q u s'):EP X pins σ Q u s':=by
 obtain⟨v,H',os,bare,un,hok,r,q⟩:=h;obtain⟨hh,g,d,t,os'⟩:=s';obtain rfl:os'=s.os:=os;exact⟨v,H',I.call (h':=hh) (g':=g) (d':=d) (t':=t) (ch:=[]) un hok bare (fun b z=>absurd z (by simp)),r,q⟩
end
def Zkw(sp:Sp)(dvs:List V)(E:XK)(t:TA):TE:=fun σ H Q=>t σ H fun vs H1=>sp (vs++dvs) H1 Q E
def Binds(K:PySem.W.Frag)(fd:FuncData)(ps:List Str)(ds:List Value):Prop :=
 ∀(s:Shared)(us:List Value),K.In s.heap->(us++ds).length=ps.length->BindsTo s fd ⟨us,[]⟩ (ps.zip (us++ds))
theorem Binds.all{K:PySem.W.Frag}{fd:FuncData}{ps:List Str}(h:∀us:List Value,us.length=ps.length->bindArgs fd ⟨us,[]⟩=pure (ps.zip us)):Binds K fd ps []:=fun s us _ hl=>by
 rw[List.append_nil] at hl ⊢;exact .of_eq (h us hl)
def Zg7(CX:CXT)(X:Cx)(E:XK):Prop := ∀(pins:List (Addr×Obj))(σ : St)(H:Hp)(s:Shared)(e:Value)(s':Shared),Inv X pins σ H s->CX X.stack H s E e s'->X.xe e s'
section
variable{X:Cx}{CX:CXT}{k:Nat}{f C:Addr}{fd:FuncData}{ps:List Str}{sp:Sp}{dvs:List V}{ds:List Value}{E:XK}{x m:Str}{p pos apos:Pos}{e o:Expr}{es:List Expr}{ta:TE}{t:TA}
theorem Zjj{pins:List (Addr×Obj)}{σ : St}{H:Hp}{s:Shared}{Q:VK}{us:List Value}{vs:List V}(F:FnOk X.prog X.w X.K X.mg X.base CX k f fd ps sp)(hr:Room k X.A)(hb:Binds X.K fd ps ds)(hd:Vals dvs ds)(hx:Zg7 CX X E)
  (I:Inv X pins σ H s) (r:Vals vs us) (h:sp (vs++dvs) H Q E):wpAny (model X.prog X.w) X.A (call (.ref f) us) (EP X pins σ Q) X.xe s:=by
 have r2:Vals (vs++dvs) (us++ds):=r.append hd;have hl:(us++ds).length=ps.length:=by rw[<- r2.length];exact F.len _ _ _ _ h
 refine wpAny_call (codeAny_mono (F.run X.A X.stack s H ⟨us,[]⟩ (us++ds) (vs++dvs) Q E hr I.env0 (hb s us I.kIn hl) r2 h) fun r s' hq=>?_);cases r with
 | error e=>exact hx pins σ H s e s' I hq
 | ok fl =>
  cases fl with
  | ret u=>exact I.after hq
  | next=>exact False.elim hq
  | brk=>exact False.elim hq
  | cont=>exact False.elim hq
theorem ZjZ(F:FnOk X.prog X.w X.K X.mg X.base CX k f fd ps sp)(hr:Room k X.A)(hg:Gl X x)(hm:X.mg x=some (.ref f))(hk:PySem.W.keepIn X.K (.ref f)=true)(hb:Binds X.K fd ps ds)(hd:Vals dvs ds)(hx:Zg7 CX X E)
  (ha:PA X (e::es) t) (hdb:(x == ("__debug__" : Str))=false:=by decide) (he:starEach (e::es) X.env=(false,eval e X.env)::starEach es X.env:=by rfl) (hpl:(backTo pos (starEach es X.env)).any (·.1)=false:=by rfl) :
  PE X (.Call (.Name x p) (e::es) [] pos) (Zkw sp dvs E t):=by
 intro pins s σ H Q I h;refine wpAny_Call_Name_kw (Zdz I hg hm ?_ hdb);refine PySem.W.callWith_K (h₀ := X.base) I.ok.mod.kin hk (thn (ha pos pins s σ H _ I h) fun us s1 ⟨vs,H1,I1,r,q⟩=>⟨I1.kIn,?_⟩) he hpl;exact Zjj F hr hb hd hx I1 r q
end
def PK(X:Cx)(kws:List Keyword)(t:TA):Prop :=
 ∀(pos:Pos)(pins:List (Addr×Obj))(s:Shared)(σ : St)(H:Hp)(Q:List V->Hp->Prop),Inv X pins σ H s->t σ H Q->wpAny (model X.prog X.w) X.A (evalAll ((backToKw pos (keywordEach kws X.env)).map (·.2))) (AP X pins σ Q) X.xe s
section
variable{X:Cx}{CX:CXT}{k:Nat}{f C:Addr}{fd:FuncData}{ps ks:List Str}{sp:Sp}{E:XK}{x m:Str}{p pos apos kpos:Pos}{e o:Expr}{es:List Expr}{kws:List Keyword}{te ta:TE}{t tk:TA}{nm:Option Str}
theorem Zkg:PK X [] Zkb:=fun _ _ _ _ H Q I h=>wpAny_evalAll_nil ⟨[],H,I,.nil,h⟩
theorem ZhM(ha:PE X e te)(hr:PK X kws t):PK X (⟨nm,e,kpos⟩::kws) (Zfj te t):=by
 intro pos pins s σ H Q I h;show wpAny _ _ (evalAll ((do let v <- eval e X.env;standAt pos;pure v)::(backToKw pos (keywordEach kws X.env)).map (·.2))) _ _ s;refine wpAny_evalAll_cons (wpAny_bind (thn (ha pins s σ H _ I h) fun u s1 ⟨x,H1,I1,r1,q1⟩=>wpAny_bind (wpAny_standAt (wpAny_pure ?_))));exact thn (hr pos pins s1 σ H1 _ I1 q1) fun us s2 ⟨xs,H2,I2,r2,q2⟩=>⟨x::xs,H2,I2,.cons r1 r2,q2⟩
variable{g:List Value->List Value->List Value}{gV:List V->List V->List V}
end
structure FnScope(N P:List Str)(sc:Scope):Prop where
 kind:sc.kind=.function
 co:sc.isCoroutine=false
 gen:sc.isGenerator=false
 nd:N.Nodup
 pre:N.take P.length=P
 par:∀x∈P,sc.names.lookup x=some .local\/sc.names.lookup x=some .cell
 ZgW:∀y∈sc.names,y.2 ≠ .free
theorem Zes{kindOf:Str->Option NameKind}{x:Str}:∀{binds:List (Str×Value)}{m:Str->Option Value},(∀v,(x,v)∉binds)->bindL kindOf binds m x=m x
 | [],_,_=>rfl
 | (n,v)::r,m,h=>by
  unfold bindL;rw[Zes fun w hw=>h w (List.mem_cons_of_mem _ hw)]
  split
  ·have:x≠n:=by rintro rfl;exact h v List.mem_cons_self
   simp[this]
  ·rfl
theorem Zeo{kindOf:Str->Option NameKind}{x:Str}:∀{binds:List (Str×Value)}{m:Str->Option Value},(∀v,(x,v)∉binds)->bindC kindOf binds m x=m x
 | [],_,_=>rfl
 | (n,v)::r,m,h=>by
  unfold bindC;rw[Zeo fun w hw=>h w (List.mem_cons_of_mem _ hw)]
  split
  ·rfl
  ·have:x≠n:=by rintro rfl;exact h v List.mem_cons_self
   simp[this]
theorem Zew{kindOf:Str->Option NameKind}{x:Str}{v:Value}:∀{P:List Str}{vs:List Value}{i:Nat}{m:Str->Option Value},P.Nodup->P[i]?= some x->vs[i]?= some v->kindOf x=some .local ->
  bindL kindOf (P.zip vs) m x=some v
 | [],_,_,_,_,h,_,_=>by simp at h
 | _::_,[],_,_,_,_,h,_=>by simp at h
 | p::P,w::vs,0,m,nd,h1,h2,hk=>by
  simp at h1 h2;subst h1;subst h2;show bindL kindOf ((p,w)::P.zip vs) m p=_;unfold bindL;rw[Zes fun v hv=>(List.nodup_cons.mp nd).1 (List.of_mem_zip hv).1,if_pos hk];simp
 | p::P,w::vs,i+1,m,nd,h1,h2,hk=>by
  show bindL kindOf ((p,w)::P.zip vs) m x=_;unfold bindL;exact Zew (i:=i) (List.nodup_cons.mp nd).2 (by simpa using h1) (by simpa using h2) hk
theorem Zee{kindOf:Str->Option NameKind}{x:Str}{v:Value}:∀{P:List Str}{vs:List Value}{i:Nat}{m:Str->Option Value},P.Nodup->P[i]?= some x->vs[i]?= some v->kindOf x≠some .local ->
  bindC kindOf (P.zip vs) m x=some v
 | [],_,_,_,_,h,_,_=>by simp at h
 | _::_,[],_,_,_,_,h,_=>by simp at h
 | p::P,w::vs,0,m,nd,h1,h2,hk=>by
  simp at h1 h2;subst h1;subst h2;show bindC kindOf ((p,w)::P.zip vs) m p=_;unfold bindC;rw[Zeo fun v hv=>(List.nodup_cons.mp nd).1 (List.of_mem_zip hv).1,if_neg hk];simp
 | p::P,w::vs,i+1,m,nd,h1,h2,hk=>by
  show bindC kindOf ((p,w)::P.zip vs) m x=_;unfold bindC;exact Zee (i:=i) (List.nodup_cons.mp nd).2 (by simpa using h1) (by simpa using h2) hk
def start(N:List Str)(vs:List V):St:=vs.map some++List.replicate (N.length-vs.length) none
def Zia(CX:CXT)(P:Program)(w:World)(K:PySem.W.Frag)(mg:Str->Option Value)(base:Heap)(N:List Str)(qual:Str)(scope:Scope)(f:Addr)(cd:Value)(A:Around)(outer:List Env)(s:Shared)(H:Hp)(E:XK):Cx where
 prog:=P
 w:=w
 K:=K
 mg:=mg
 base:=base
 A:=A.deeper (envOfC qual scope s.heap.objs.size f cd)
 N:=N
 s₀ := s
 H₀ := H
 env:=envOfC qual scope s.heap.objs.size f cd
 outer:=outer
 stack:=envOfC qual scope s.heap.objs.size f cd::outer
 ex:=[]
 calm:=true
 fn:=fun _=>true
 pn:=[]
 xe:=fun e s'=>wpAny (model P w) (A.deeper (envOfC qual scope s.heap.objs.size f cd)) (leaving (envOfC qual scope s.heap.objs.size f cd) e) (fun _ s''=>CX outer H s E e s'') (fun e' s''=>CX outer H s E e' s'') s'
theorem ZfS{sc:Scope}{n:Nat}{x:Str}(h:sc.names.lookup x=some .cell):∃c,(cellsFrom n sc.names []).lookup x=some c:=by
 have q:=PySem.W.cellsFrom_some sc.names n [] (.inl h);exact Option.isSome_iff_exists.mp q
theorem Zg0{CX:CXT}{P:Program}{w:World}{K:PySem.W.Frag}{mg:Str->Option Value}{base:Heap}{N ps:List Str}{qual:Str}{scope:Scope}{f:Addr}{cd:Value}{A:Around}{outer:List Env}{s s1:Shared}{H:Hp}{E:XK}{us:List Value}{vs:List V}
  (S:FnScope N ps scope) (hd:A.handled=none) (e0:Env0 P w K mg base A outer s H) (hl:vs.length=ps.length) (r:Vals vs us)
  (x:InCallC s s.heap.objs.size (bindL (envOfC qual scope s.heap.objs.size f cd).kindOf (ps.zip us) fun _=>none) (cellsFrom (s.heap.objs.size+1) scope.names []) (bindC (envOfC qual scope s.heap.objs.size f cd).kindOf (ps.zip us) fun _=>none) s1) :
  Inv (Zia CX P w K mg base N qual scope f cd A outer s H E) [] (start N vs) H s1:=by
 have hpl:ps.length<=N.length:=by have:=congrArg List.length S.pre;rw[List.length_take] at this;lia
 obtain⟨h1,tk,rfl,hk⟩:=x.done;have noA:∀b:Addr,b∉(Zia CX P w K mg base N qual scope f cd A outer s H E).ex:=fun b z=>absurd (show b∈([]:List Addr) from z) (by simp);refine⟨⟨e0.mod,S.kind,rfl,rfl,Nat.le_refl _,fun y z c h1 h2=>?_,fun y hy=>?_,fun y c _ h=>?_,fun _=>hd,Around.frames_deeper e0.frames,.inr ⟨rfl,rfl⟩,fun b z=>absurd z (noA b),e0.bs,e0.bsz,fun b _ _=>noA b,fun b z=>absurd z (noA b),e0.funs,e0.frf⟩,
  rfl,e0.bare,Un.kept hk,⟨_,x.toInCall.ns,fun i y v h1 h2 h3=>?_⟩,fun y c h=>⟨_,x.cell y c h⟩,e0.hok.fresh (Nat.le_refl _),fun y c h=>?_,fun p hp=>absurd (show p∈([]:List (Addr×Obj)) from hp) (by simp),e0.hok.kept hk,?_⟩
 ·exact name_of_addr x.apart (PySem.mem_of_lookup h1) (PySem.mem_of_lookup h2)
 ·have hy:scope.names.lookup y=some .cell\/scope.names.lookup y=some .free:=hy;rcases hy with hy|hy
  ·exact ZfS hy
  ·exact absurd rfl (S.ZgW _ (PySem.mem_of_lookup hy))
 ·exact Nat.le_of_lt (x.above y c (PySem.mem_of_lookup h))
 ·have hi:i<vs.length:=by
   unfold start at h2;by_cases hi:i<vs.length
   ·exact hi
   ·rw[List.getElem?_append_right (by simpa using hi)] at h2;rw[List.getElem?_replicate] at h2
    split at h2 <;> cases h2
  have ha:vs[i]?= some v:=by
   unfold start at h2;rw[List.getElem?_append_left (by simpa using hi),List.getElem?_map] at h2;cases e:vs[i]? with
   | none=>rw[e] at h2;cases h2
   | some a=>rw[e] at h2;cases h2;rfl
  obtain⟨u,hu,rv⟩:=r.get ha;have hp:ps[i]?= some y:=by
   rw[<- S.pre,List.getElem?_take_of_lt (by lia)];exact h1
  have ndP:ps.Nodup:=by rw[<- S.pre];exact S.nd.sublist (List.take_sublist _ _)
  refine⟨u,rv,?_⟩;rcases S.par y (List.mem_of_getElem? hp) with k|k
  ·exact .inl ⟨k,Zew ndP hp hu k⟩
  ·obtain⟨c,e⟩:=ZfS (n:=s.heap.objs.size+1) k;refine .inr ⟨.inl k,c,e,?_⟩;have q:=x.cell y c e;rw[Zee ndP hp hu (by show scope.names.lookup y≠_;rw[k];decide)] at q;exact q
 ·exact e0.hok.fresh (Nat.le_of_lt (x.above y c (PySem.mem_of_lookup h)))
 ·unfold start;show _=N.length;rw[List.length_append,List.length_map,List.length_replicate];lia
theorem ZjH{CX:CXT}{P:Program}{w:World}{K:PySem.W.Frag}{mg:Str->Option Value}{base:Heap}{k:Nat}{f:Addr}{name qual:Str}{params:Arguments}{body:List Stmt}{scope:Scope}{dV kV doc pm cdv ct oc:Value}{an od:Option Addr}
  {osl:Array (Option Value)} {N ps:List Str} {sp:Sp} (lk:K.lookup f=some ⟨oc,od,.func (PySem.W.fnOf name qual params body scope dV kV doc pm an cdv ct),osl⟩) (hcd:PySem.W.codeIn K cdv qual=true) (S:FnScope N ps scope)
  (len:∀vs H Q E,sp vs H Q E->vs.length=ps.length)
  (hbody:∀(A:Around)(outer:List Env)(s:Shared)(H:Hp)(vs:List V)(Q:VK)(E:XK),Room k (A.deeper (envOfC qual scope s.heap.objs.size f cdv))->sp vs H Q E ->
   ∃t,PSs (Zia CX P w K mg base N qual scope f cdv A outer s H E) body t/\t { nx:=fun _ H'=>Q .non H',rt:=Q } (start N vs) H) :
  FnOk P w K mg base CX (k+1) f (PySem.W.fnOf name qual params body scope dV kV doc pm an cdv ct) ps sp:=by
 refine⟨len,fun A outer s H args us vs Q E hr e0 hb r hsp=>?_⟩;have hl:=len _ _ _ _ hsp;have KX:K.In s.heap:=e0.mod.kin.keeps fun b o e=>(e0.bs b o e).1;have lim:s.heap.NoLimit:=e0.mod.nolimit.keeps fun b o e=>(e0.bs b o e).1;have hkind:∀y∈ps.zip us,scope.names.lookup y.1=some .local\/(scope.names.lookup y.1=some .cell/\((cellsFrom (s.heap.objs.size+1) scope.names []).lookup y.1).isSome=true):=fun⟨n,v⟩ hy=>by
  rcases S.par n (List.of_mem_zip hy).1 with q|q
  ·exact .inl q
  ·exact .inr ⟨q,PySem.W.cellsFrom_some _ _ _ (.inl q)⟩
 refine codeAny_call_function hr.depth (KX _ _ lk) rfl S.co S.gen rfl (PySem.W.codeRec_of KX hcd) (hb _ _ _ _ ?_);refine wpAny_newFunctionEnv_cells S.kind hkind fun env he s1 x=>?_;subst he;refine⟨lim.keeps x.toInCall.keep,codeAny_func ?_⟩;obtain⟨t,ht,hq⟩:=hbody A outer s H vs Q E (hr.deeper _) hsp;have I:Inv (Zia CX P w K mg base N qual scope f cdv A outer s H E) [] (start N vs) H s1:=Zg0 S hr.hd e0 hl r x;refine wpAny_mono (ht [] s1 (start N vs) H _ I hq) (fun fl s' hs=>?_) fun e s' hs=>hs;have fin:∀{σ':St}{H':Hp}{v:V}{u:Value},Inv (Zia CX P w K mg base N qual scope f cdv A outer s H E) [] σ' H' s'->RelV v u->Q v H'->CE outer P w H s Q u s' :=
  fun{σ' H' v u} J rv q=>⟨v,H',J.os,J.bare,J.base,J.hok,rv,q⟩
 cases fl with
 | ret u =>
  obtain⟨v,σ',H',J,rv,q⟩:=hs;exact fin J rv q
 | next =>
  obtain⟨σ',H',J,q⟩:=hs;exact fin (v:=V.non) (u:=Value.none) J rfl q
 | brk =>
  obtain⟨_,_,_,q⟩:=hs;exact False.elim q
 | cont =>
  obtain⟨_,_,_,q⟩:=hs;exact False.elim q
section
variable{X:Cx}{x:Str}{p pos:Pos}{e:Expr}{es:List Expr}{t:TA}{id T:String}{r:List V->Hp->VK->Prop}
def tCB(r:List V->Hp->VK->Prop)(t:TA):TE:=fun σ H Q=>t σ H fun vs H1=>r vs H1 Q
theorem ZC(hc:ZbU X (.builtin id) r)(hg:Gl X x)(hm:X.mg x=none)(hv:bootBuiltins x=some (.builtin id))(ha:PA X (e::es) t)(hn:x ≠ "__name__" := by decide) (hdb:(x == ("__debug__" : Str))=false:=by decide)
  (he:starEach (e::es) X.env=(false,eval e X.env)::starEach es X.env:=by rfl) (hpl:(backTo pos (starEach es X.env)).any (·.1)=false:=by rfl):PE X (.Call (.Name x p) (e::es) [] pos) (tCB r t):=by
 intro pins s σ H Q I h;refine wpAny_Call_Name_kw (ZbQ I hg hm hv ?_ hn hdb);exact PyProof.Rows.callWith_builtin1 (thn (ha pos pins s σ H _ I h) fun us s1 ⟨vs,H1,I1,r1,q1⟩=>hc pins s1 σ H1 vs us Q I1 r1 q1) he hpl
theorem Za1(hc:ZbU X (.type T) r)(hg:Gl X x)(hm:X.mg x=none)(hv:bootBuiltins x=some (.type T))(ha:PA X (e::es) t)(hn:x ≠ "__name__" := by decide) (hdb:(x == ("__debug__" : Str))=false:=by decide)
  (he:starEach (e::es) X.env=(false,eval e X.env)::starEach es X.env:=by rfl) (hpl:(backTo pos (starEach es X.env)).any (·.1)=false:=by rfl):PE X (.Call (.Name x p) (e::es) [] pos) (tCB r t):=by
 intro pins s σ H Q I h;refine wpAny_Call_Name_kw (ZbQ I hg hm hv ?_ hn hdb);exact PyProof.Rows.callWith_type1 (thn (ha pos pins s σ H _ I h) fun us s1 ⟨vs,H1,I1,r1,q1⟩=>hc pins s1 σ H1 vs us Q I1 r1 q1) he hpl
end
end L2
namespace HT
open PySem PyProof.Rows
section
variable{prog:Program}{w:World}{A:Around}{E:Value->Shared->Prop}{s:Shared}
def sIx(n d:Nat):Option Int->Nat
 | none=>d
 | some v=>if v<0 then(v+(n:Int)).toNat else min v.toNat n
theorem Zic(n d:Nat):sIx n d none=d:=rfl
theorem Zj9(n d k:Nat):sIx n d (some (k:Int))=min k n:=by
 show(if(k:Int)<0 then((k:Int)+(n:Int)).toNat else min (k:Int).toNat n)=min k n
 rw[if_neg (by lia),Int.toNat_natCast]
theorem Zb2{v:Value}{o:Option Int}{Q:Option Int->Shared->Prop}(p:IsPart v o)(h:Q o s):wpAny (model prog w) A (Builtin.Slice.slicePartIndex v) Q E s:=by
 cases p with
 | none=>exact slicePart_none h
 | int i t=>exact slicePart_int h
end
end HT
namespace L2
open PySem PySem.Spec PyProof.Rows
abbrev TO:=St->Hp->(Option Int->Hp->Prop)->Prop
def PO(X:Cx)(e:Option Expr)(t:TO):Prop :=
 ∀(pins:List (Addr×Obj))(s:Shared)(σ : St)(H:Hp)(Q:Option Int->Hp->Prop),Inv X pins σ H s->t σ H Q ->
  wpAny (model X.prog X.w) X.A (evalPart e X.env) (fun u s'=>∃o H',Inv X pins σ H' s'/\IsPart u o/\Q o H') X.xe s
def Zj2:TO:=fun _ H Q=>Q none H
def Zlr(t:TE):TO:=fun σ H Q=>t σ H fun x H1=>∃i,x=.int i/\Q (some i) H1
section
variable{X:Cx}{e:Expr}{te:TE}{lo hi:Option Expr}{tl th:TO}{pos p2:Pos}
theorem Ze5:PO X none Zj2:=by
 intro pins s σ H Q I h;rw[evalPart_none];exact wpAny_pure ⟨none,H,I,.none,h⟩
theorem Zht(h:PE X e te):PO X (some e) (Zlr te):=by
 intro pins s σ H Q I hw;rw[evalPart_some];refine thn (h pins s σ H _ I hw) fun u s1 ⟨x,H1,I1,r1,q1⟩=>?_;obtain⟨i,rfl,q⟩:=q1;obtain⟨t,rfl⟩:=r1;exact⟨some i,H1,I1,.int i t,q⟩
def SlR(X:Cx)(r:V->Option Int->Option Int->Hp->VK->Prop):Prop :=
 ∀(pins:List (Addr×Obj))(s:Shared)(σ : St)(H:Hp)(x:V)(v vl vu:Value)(lo hi:Option Int)(sl:Addr)(Q:VK),Inv X pins σ H s->RelV x v->s.heap.IsSliceOf sl vl vu .none->IsPart vl lo->IsPart vu hi->r x lo hi H Q ->
  ∃T id,typeLookup (.type T) "__getitem__" = pure (some (.builtin id))/\s.TypeIs v T/\wpAny (model X.prog X.w) X.A (getItem v (.ref sl)) (EP X pins σ Q) X.xe s
def tSl(r:V->Option Int->Option Int->Hp->VK->Prop)(te:TE)(tl th:TO):TE:=fun σ H Q=>te σ H fun x H1=>tl σ H1 fun l H2=>th σ H2 fun u H3=>r x l u H3 Q
theorem ZiH{r:V->Option Int->Option Int->Hp->VK->Prop}(hr:SlR X r)(he:PE X e te)(hl:PO X lo tl)(hu:PO X hi th):PE X (.Subscript e (.Slice lo hi none p2) pos) (tSl r te tl th):=by
 intro pins s σ H Q I h;refine Subscript_ (thn (he pins s σ H _ I h) fun v s1 ⟨x,H1,I1,r1,q1⟩=>?_);refine wpAny_Slice (thn (hl pins s1 σ H1 _ I1 q1) fun vl s2 ⟨l,H2,I2,pl,q2⟩=>thn (hu pins s2 σ H2 _ I2 q2) fun vu s3 ⟨u,H3,I3,pu,q3⟩=>?_);rw[evalPart_none];refine wpAny_pure ?_;have I4:Inv X pins σ H3 { s3 with heap:=s3.heap.push { cls:=.type "slice",data:=.fields #[vl,vu,.none] } }:=I3.kept (t':=s3.toks) fun b ob q=>Heap.get?_push_of_some _ q;obtain⟨T,id,hT,ht,hg⟩:=hr pins { s3 with heap:=s3.heap.push { cls:=.type "slice",data:=.fields #[vl,vu,.none] } } σ H3 x v vl vu l u s3.heap.objs.size Q I4 r1 (Heap.IsSliceOf.new ..) pl pu q3;show wpAny (model X.prog X.w) X.A (subscriptTail e (.Slice lo hi none p2) v (.ref s3.heap.objs.size)) (EP X pins σ Q) X.xe { s3 with heap:=s3.heap.push { cls:=.type "slice",data:=.fields #[vl,vu,.none] } };exact tail_any (ops:=[.ref s3.heap.objs.size,v]) ht hT hg (by with_unfolding_all rfl)
def Zjk(xs:List V)(lo hi:Option Int):List V:=(xs.drop (HT.sIx xs.length 0 lo)).take (HT.sIx xs.length xs.length hi-HT.sIx xs.length 0 lo)
theorem Zfl(xs:List V)(lo hi:Option Int):(Zjk xs lo hi).length<=xs.length:=by
 unfold Zjk;rw[List.length_take,List.length_drop];lia
end
def ixN(n:Nat)(i:Int):Option Nat:=if 0<=i then(if i<n then some i.toNat else none) else if -(n:Int)<=i then some (i+n).toNat else none
def atI{α : Type}(xs:List α)(i:Int):Option α := (ixN xs.length i).bind fun j=>xs[j]?
theorem ZhK{n:Nat}{i:Int}{j:Nat}(h:ixN n i=some j):seqIndex? i n=some j/\j<n /\ -(n:Int)<=i/\i<n:=by
 unfold ixN at h;by_cases h0:0<=i
 ·rw[if_pos h0] at h;by_cases h1:i<n
  ·rw[if_pos h1] at h;have e:i.toNat=j:=Option.some.inj h;exact⟨by rw[seqIndex_of h0 h1,e],by lia,by lia,h1⟩
  ·rw[if_neg h1] at h;cases h
 ·rw[if_neg h0] at h;by_cases h1 : -(n:Int)<=i
  ·rw[if_pos h1] at h;have e:(i+n).toNat=j:=Option.some.inj h;exact⟨by rw[seqIndex_neg (by lia) h1,e],by lia,h1,by lia⟩
  ·rw[if_neg h1] at h;cases h
theorem Zfh{α : Type}{xs:List α}{i:Int}{v : α}(h:atI xs i=some v):∃j,seqIndex? i xs.length=some j/\xs[j]?= some v/\j<xs.length /\ -(xs.length:Int)<=i/\i<xs.length:=by
 unfold atI at h;cases e:ixN xs.length i with
 | none=>rw[e] at h;cases h
 | some j =>
  rw[e] at h;obtain⟨h1,h2,h3,h4⟩:=ZhK e;exact⟨j,h1,h,h2,h3,h4⟩
theorem Zbb{α : Type}{xs:List α}{j:Nat}{v : α}(h:xs[j]?= some v):atI xs (j:Int)=some v:=by
 have hj:j<xs.length:=(List.getElem?_eq_some_iff.mp h).1;have e:ixN xs.length (j:Int)=some j:=by
  unfold ixN;rw[if_pos (by lia),if_pos (by lia)];simp
 unfold atI;rw[e];exact h
def ZjN(b:Expr):Prop := ∀o i,subscripted b false o i=operate [o,i] (getItem o i)
def IxR(X:Cx)(r:R2):Prop :=
 ∀(value slice:Expr)(pins:List (Addr×Obj))(s:Shared)(σ : St)(H:Hp)(x y:V)(v u:Value)(Q:VK),Inv X pins σ H s->RelV x v->RelV y u->r x y H Q ->
  subscripted slice false v u=operate [v,u] (getItem v u)->wpAny (model X.prog X.w) X.A (subscriptTail value slice v u) (EP X pins σ Q) X.xe s
def MtR(X:Cx)(id:String)(r:V->List V->Hp->VK->Prop):Prop :=
 ∀(pins:List (Addr×Obj))(s:Shared)(σ : St)(H:Hp)(x:V)(xs:List V)(v:Value)(us:List Value)(Q:VK),Inv X pins σ H s->RelV x v->Vals xs us->r x xs H Q ->
  wpAny (model X.prog X.w) X.A (call (.builtin id) (v::us)) (EP X pins σ Q) X.xe s
section
variable{X:Cx}{a b:Expr}{ta tb:TE}{pos:Pos}
theorem Zw{r:R2}(hr:IxR X r)(ha:PE X a ta)(hb:PE X b tb)(hs:ZjN b):PE X (.Subscript a b pos) (tOp r ta tb):=by
 intro pins s σ H Q I h;exact Subscript_ (Zls ha hb I h fun v u s2 x y H2 I2 rx ry q=>hr a b pins s2 σ H2 x y v u Q I2 rx ry q (hs _ _))
def ZlN(K:PySem.W.Frag):R2:=fun x y H Q=>∃p xs i v,x=.ref p/\y=.int i/\SqL K H p xs/\atI xs i=some v/\Q v H
def ZlO(K:PySem.W.Frag):R2:=fun x y H Q=>∃p xs i v,x=.ref p/\y=.int i/\SqT K H p xs/\atI xs i=some v/\Q v H
def Zmc:R2:=fun x y H Q=>∃z i c,x=.str z/\y=.int i/\z.length<=sizeLine/\atI z.cps.toList i=some c/\Q (.str ⟨#[c]⟩) H
theorem ZD:IxR X (ZlN X.K):=by
 intro value slice pins s σ H x y v u Q I rx ry h hs;obtain⟨p,xs,i,z,rfl,rfl,hq,he,q⟩:=h;cases rx;obtain⟨t,rfl⟩:=ry;obtain⟨its,r,pl,hz⟩:=I.list hq;obtain⟨j,h1,h2,h3,h4,h5⟩:=Zfh he;obtain⟨w,ew,rw'⟩:=r.get h2;have hl:=r.length;have hn:=Zdp;have fin:EP X pins σ Q w s:=⟨z,H,I,rw',q⟩;by_cases h0:0<=i
 ·have hj:i.toNat=j:=by
   rw[seqIndex_of h0 h5] at h1;exact Option.some.inj h1
  exact item_listR pl.isList h0 (by lia) (by rw[hj];simpa using ew) fin hs
 ·have hj:(i+(its.toArray.size:Int)).toNat=j:=by
   rw[seqIndex_neg (by lia) h4] at h1;rw[List.size_toArray,<- hl];exact Option.some.inj h1
  exact subscriptTail_builtinR (x:=w) pl.isList.typeIs slot_list_getitem.lookup
   (wpAny_getItem_list_neg (Q:=fun r s'=>r=w/\EP X pins σ Q r s') pl.isList (by lia) (by rw[List.size_toArray] <;> lia) (by lia) (by rw[hj];simpa using ew) ⟨rfl,fin⟩) hs
theorem ZP:IxR X (ZlO X.K):=by
 intro value slice pins s σ H x y v u Q I rx ry h hs;obtain⟨p,xs,i,z,rfl,rfl,hq,he,q⟩:=h;cases rx;obtain⟨t,rfl⟩:=ry;obtain⟨its,r,pl,hz⟩:=I.tuple hq;obtain⟨j,h1,h2,h3,h4,h5⟩:=Zfh he;obtain⟨w,ew,rw'⟩:=r.get h2;have hl:=r.length;have hn:=Zdp;have fin:EP X pins σ Q w s:=⟨z,H,I,rw',q⟩;exact subscriptTail_builtinR (x:=w) pl.typeIs slot_tuple_getitem.lookup
  (getItem_tuple (j:=j) (Q:=fun r s'=>r=w/\EP X pins σ Q r s') pl (by lia) (by lia) (by rw[List.size_toArray,<- hl];exact h1) (by simpa using ew) ⟨rfl,fin⟩) hs
theorem Zko:IxR X Zmc:=by
 intro value slice pins s σ H x y v u Q I rx ry h hs;obtain⟨z,i,c,rfl,rfl,hz,he,q⟩:=h;obtain⟨t,rfl⟩:=rx;obtain⟨t',rfl⟩:=ry;obtain⟨j,h1,h2,h3,h4,h5⟩:=Zfh he;have hl:z.cps.toList.length=z.length:=by simp[Str.length]
 rw[hl] at h1 h4 h5;have hn:=Zdp;exact tail_any (typeIs_str s z t) slot_str_getitem.lookup (getItem_str (c:=c) (by
  have e1:decide (i < -(2 ^ 63:Int))=false:=decide_eq_false (by lia);have e2:decide (i>=2 ^ 63)=false:=decide_eq_false (by lia);rw[e1,e2,Bool.or_false]) (by rw[h1];simpa using h2) ⟨.str ⟨#[c]⟩,H,I.tok _,⟨_,rfl⟩,q⟩) hs
theorem Zgp(its:List Value)(n j:Nat)(u:Value):Obj.mapSeq (·.setIfInBounds j u) { cls:=.type "list",data:=.seq its.toArray n }= { cls:=.type "list",data:=.seq (its.set j u).toArray n }:=by
 simp[Obj.mapSeq]
theorem Inv.lst{pins:List (Addr×Obj)}{σ : St}{H:Hp}{s:Shared}{p:Addr}{xs:List V}(I:Inv X pins σ H s)(h:H p=some (.lst xs)) :
  ∃(its:List Value)(n:Nat),Vals xs its/\s.heap.get? p=some { cls:=.type "list",data:=.seq its.toArray n }/\xs.length<=sizeLine:=by
 obtain⟨z,its,n,r,e⟩:=I.hok p _ h;exact⟨its,n,r,e,z⟩
theorem Inv.lstUpd{pins:List (Addr×Obj)}{σ : St}{H:Hp}{s:Shared}{p:Addr}{xs ys:List V}{its its':List Value}{n n':Nat}{f:Obj->Obj}(I:Inv X pins σ H s)(h:H p=some (.lst xs))
  (ho:s.heap.get? p=some { cls:=.type "list",data:=.seq its.toArray n }) (hf:f { cls:=.type "list",data:=.seq its.toArray n }= { cls:=.type "list",data:=.seq its'.toArray n' }) (r:Vals ys its') (hz:ys.length<=sizeLine) (t:Nat) :
  Inv X pins σ (upd H p (.lst ys)) { s with heap:=s.heap.update p f,toks:=t }:=by
 have e:(s.heap.update p f).get? p=some { cls:=.type "list",data:=.seq its'.toArray n' }:=by
  rw[Heap.get?_update_self f ho (by rw[hf] <;> rfl),hf]
 refine I.write (x:=p) (e:=p) (by rw[h];trivial) (.inl rfl) (fun b u hb q=>(Heap.get?_update_other _ _ (Ne.symm hb)).trans q) ⟨_,e⟩ ?_;exact⟨hz,its',n',r,e⟩
def Zlj:V->V->V->Hp->(Hp->Prop)->Prop:=fun o i v H Q=>∃p xs k j,o=.ref p/\i=.int k/\H p=some (.lst xs)/\ixN xs.length k=some j/\Q (upd H p (.lst (xs.set j v)))
theorem set_list:ZlQ X Zlj:=by
 intro pins s σ H o i v ov iv u Q I ro ri rv h;obtain⟨p,xs,k,j,rfl,rfl,hp,hj,q⟩:=h;cases ro;obtain⟨t,rfl⟩:=ri;obtain⟨its,n,r,ho,hz⟩:=I.lst hp;obtain⟨h1,h2,h3,h4⟩:=ZhK hj;have hl:=r.length;have hn:=Zdp;have I':Inv X pins σ (upd H p (.lst (xs.set j v))) { s with heap:=s.heap.update p (Obj.mapSeq (·.setIfInBounds j u)) } :=
  I.lstUpd hp ho (Zgp its n j u) (r.set rv j) (by rw[List.length_set];exact hz) s.toks
 by_cases h0:0<=k
 ·have hk:k.toNat=j:=by
   rw[seqIndex_of h0 h4] at h1;exact Option.some.inj h1
  exact PySem.W.ki_setAt ho h0 (by lia) (by rw[List.size_toArray,<- hl];exact h4) (by rw[hk];exact⟨_,I',q⟩)
 ·have hk:(k+(its.toArray.size:Int)).toNat=j:=by
   rw[seqIndex_neg (by lia) h3] at h1;rw[List.size_toArray,<- hl];exact Option.some.inj h1
  exact PySem.W.ki_setBack ho (by lia) (by rw[List.size_toArray,<- hl];exact h3) (by lia) (by rw[hk];exact⟨_,I',q⟩)
theorem Zej(lo hi:Option Int)(n:Nat):(sliceBounds lo hi none n).1=((HT.sIx n 0 lo:Nat):Int)/\(sliceBounds lo hi none n).2.1=((HT.sIx n n hi:Nat):Int)/\(sliceBounds lo hi none n).2.2=1:=by
 refine⟨?_,?_,rfl⟩
 ·cases lo with
  | none=>simp[sliceBounds,HT.sIx]
  | some i =>
   simp only[sliceBounds,HT.sIx,Option.getD_none,show(1:Int) > 0 by decide,if_true];by_cases h:i<0
   ·simp only[h,if_true] <;> lia
   ·simp only[h,if_false] <;> lia
 ·cases hi with
  | none=>simp[sliceBounds,HT.sIx]
  | some i =>
   simp only[sliceBounds,HT.sIx,Option.getD_none,show(1:Int) > 0 by decide,if_true];by_cases h:i<0
   ·simp only[h,if_true] <;> lia
   ·simp only[h,if_false] <;> lia
theorem ZdP(its:List Value)(lo hi:Option Int):slicePick its.toArray lo hi none=((its.drop (HT.sIx its.length 0 lo)).take (HT.sIx its.length its.length hi-HT.sIx its.length 0 lo)).toArray:=by
 obtain⟨h1,h2,h3⟩:=Zej lo hi its.toArray.size;unfold slicePick;rw[h1,h2,h3];simp only[sliceRange_one,pick_run,List.size_toArray] <;> rfl
def ZlV(K:PySem.W.Frag):V->Option Int->Option Int->Hp->VK->Prop:=fun x lo hi H Q=>∃a xs,x=.ref a/\SqL K H a xs/\∀p,H p=none->Q (.ref p) (upd H p (.lst (Zjk xs lo hi)))
theorem Zjp:SlR X (ZlV X.K):=by
 intro pins s σ H x v vl vu lo hi sl Q I rx hs pl pu h;obtain⟨a,xs,rfl,hx,q⟩:=h;cases rx;obtain⟨its,r,ht,hz⟩:=I.list hx;have hlen:=r.length;refine⟨"list",_,slot_list_getitem.lookup,ht.isList.typeIs,?_⟩;refine wpAny_getItem_list_slice ht.isList hs pl pu .none (by simp) ?_ (by rw[List.size_toArray] <;> lia)
 rw[ZdP,<- hlen];refine⟨.ref s.heap.objs.size,_,I.laid (t':=s.toks) (o:=.lst (Zjk xs lo hi)) (fun b ob q=>Heap.get?_push_of_some _ q) (Nat.le_refl _) ?_,rfl,q _ (I.hok.fresh (Nat.le_refl _))⟩;exact⟨Nat.le_trans (Zfl xs lo hi) hz,_,0,(r.drop (HT.sIx xs.length 0 lo)).take (HT.sIx xs.length xs.length hi-HT.sIx xs.length 0 lo),Heap.get?_push_size _ rfl⟩
def ZdC:V->Bool
 | .non=>true
 | .bl _=>true
 | .int _=>true
 | .str _=>true
 | _=>false
def eqV:V->V->Bool
 | .non,.non=>true
 | .bl a,.bl b=>a == b
 | .bl a,.int b=>(if a then 1 else 0) == b
 | .int a,.bl b=>a == (if b then 1 else 0)
 | .int a,.int b=>a == b
 | .str a,.str b=>a == b
 | _,_=>false
theorem ZkT{A:Around}{s:Shared}{y x:V}{u v:Value}(ry:RelV y u)(rx:RelV x v)(fy:ZdC y=true)(fx:ZdC x=true):SeqAt.EqAt A s u v (eqV y x):=by
 cases y with
 | non =>
  cases ry;cases x with
  | non=>cases rx;exact SeqAt.EqAt.same _
  | bl b=>cases rx;exact SeqAt.EqAt.none_bool b
  | int b=>obtain⟨t,rfl⟩:=rx;exact SeqAt.EqAt.none_int b t
  | str b=>obtain⟨t,rfl⟩:=rx;exact SeqAt.EqAt.none_str b t
  | _=>exact absurd (show false=true from fx) Bool.false_ne_true
 | bl a =>
  cases ry;cases x with
  | non=>cases rx;exact SeqAt.EqAt.bool_none a
  | bl b=>cases rx;exact SeqAt.EqAt.bool_bool a b
  | int b=>obtain⟨t,rfl⟩:=rx;exact SeqAt.EqAt.bool_int a b t
  | str b=>obtain⟨t,rfl⟩:=rx;exact SeqAt.EqAt.bool_str a b t
  | _=>exact absurd (show false=true from fx) Bool.false_ne_true
 | int a =>
  obtain⟨t',rfl⟩:=ry;cases x with
  | non=>cases rx;exact SeqAt.EqAt.int_none a t'
  | bl b=>cases rx;exact SeqAt.EqAt.int_bool a t' b
  | int b=>obtain⟨t,rfl⟩:=rx;exact SeqAt.EqAt.int_int a t' b t
  | str b=>obtain⟨t,rfl⟩:=rx;exact SeqAt.EqAt.int_str a t' b t
  | _=>exact absurd (show false=true from fx) Bool.false_ne_true
 | str a =>
  obtain⟨t',rfl⟩:=ry;cases x with
  | non=>cases rx;exact SeqAt.EqAt.str_none a t'
  | bl b=>cases rx;exact SeqAt.EqAt.str_bool a t' b
  | int b=>obtain⟨t,rfl⟩:=rx;exact SeqAt.EqAt.str_int a t' b t
  | str b=>obtain⟨t,rfl⟩:=rx;exact SeqAt.EqAt.str_str a t' b t
  | _=>exact absurd (show false=true from fx) Bool.false_ne_true
 | _=>exact absurd (show false=true from fy) Bool.false_ne_true
def eqU(x:V)(u:Value):Bool:=match u with
 | .none=>eqV .non x
 | .bool b=>eqV (.bl b) x
 | .int i _=>eqV (.int i) x
 | .str z _=>eqV (.str z) x
 | _=>false
theorem Zi8{x y:V}{u:Value}(r:RelV y u)(f:ZdC y=true):eqU x u=eqV y x:=by
 cases y with
 | non=>cases r;rfl
 | bl b=>cases r;rfl
 | int i=>obtain⟨t,rfl⟩:=r;rfl
 | str z=>obtain⟨t,rfl⟩:=r;rfl
 | _=>exact absurd (show false=true from f) Bool.false_ne_true
theorem Zfu{x:V}:∀{xs:List V}{us:List Value},Vals xs us->xs.all ZdC=true->us.any (eqU x)=xs.any fun y=>eqV y x
 | _,_,.nil,_=>rfl
 | y::xs,u::us,.cons r t,f=>by
  rw[List.all_cons,Bool.and_eq_true] at f;rw[List.any_cons,List.any_cons,Zi8 r f.1,Zfu t f.2]
theorem ZdN{A:Around}{s:Shared}{x:V}{v:Value}(rx:RelV x v)(fx:ZdC x=true):∀{xs:List V}{us:List Value},Vals xs us->xs.all ZdC=true->∀u∈us,SeqAt.EqAt A s u v (eqU x u)
 | _,_,.nil,_=>fun u hu=>by cases hu
 | y::xs,u::us,.cons r t,f=>fun u' hu=>by
  rw[List.all_cons,Bool.and_eq_true] at f;rcases List.mem_cons.mp hu with rfl|hu
  ·rw[Zi8 r f.1];exact ZkT r rx f.1 fx
  ·exact ZdN rx fx t f.2 u' hu
def inV(x:V)(xs:List V):Bool:=xs.any fun y=>eqV y x
def rIn(K:PySem.W.Frag)(neg:Bool):R2:=fun x y H Q=>∃p xs,y=.ref p/\(SqL K H p xs\/SqT K H p xs)/\ZdC x=true/\xs.all ZdC=true/\Q (.bl (if neg then !inV x xs else inV x xs)) H
theorem Zhx:OpR X (compareOp .In) (rIn X.K false):=by
 intro pins s σ H x y v u Q I rx ry h;obtain⟨p,xs,rfl,hq,fx,fs,q⟩:=h;cases ry;rcases hq with hq|hq
 ·obtain⟨its,r,pl,hz⟩:=I.list hq;refine SeqAt.in_listAt (eqU x) pl.isList (fun w hw=>ZdN rx fx r fs w (by simpa using hw)) ⟨.bl _,H,I,rfl,?_⟩;rw[show its.toArray.any (eqU x)=its.any (eqU x) by simp,Zfu r fs];exact q
 ·obtain⟨its,r,pl,hz⟩:=I.tuple hq;refine SeqAt.in_tupleAt (eqU x) pl (fun w hw=>ZdN rx fx r fs w (by simpa using hw)) ⟨.bl _,H,I,rfl,?_⟩;rw[show its.toArray.any (eqU x)=its.any (eqU x) by simp,Zfu r fs];exact q
theorem Zu:ZbU X (.builtin "len") (fun xs H Q=>∃p ys,xs=[.ref p]/\(SqL X.K H p ys\/SqT X.K H p ys)/\Q (.int ys.length) H):=by
 intro pins s σ H xs us Q I r h;obtain⟨p,ys,rfl,hq,q⟩:=h;obtain⟨u,rfl,rx⟩:=vals1 r;cases rx;have hn:=Zdp;rcases hq with hq|hq
 ·obtain⟨its,r',pl,hz⟩:=I.list hq;have hlen:=r'.length;exact Calls.call_len_list pl.isList (by simp only[List.size_toArray] <;> lia) ⟨.int ys.length,H,I.tok _,⟨s.toks+1,by rw[List.size_toArray,hlen]⟩,q⟩
 ·obtain⟨its,r',pl,hz⟩:=I.tuple hq;have hlen:=r'.length;exact len_tuple pl (by simp only[List.size_toArray] <;> lia) ⟨.int ys.length,H,I.tok _,⟨s.toks+1,by rw[List.size_toArray,hlen]⟩,q⟩
theorem ZeL:ZbU X (.type "list") (fun xs H Q=>∃p ys,xs=[.ref p]/\(SqL X.K H p ys\/SqT X.K H p ys)/\∀l,H l=none->Q (.ref l) (upd H l (.lst ys))):=by
 intro pins s σ H xs us Q I r h;obtain⟨p,ys,rfl,hq,q⟩:=h;obtain⟨u,rfl,rx⟩:=vals1 r;cases rx;have fin:∀(its:List Value),Vals ys its->ys.length<=sizeLine->∀(h':Heap)(c':Nat),(∀b o',s.heap.get? b=some o'->h'.get? b=some o') ->
   h'.get? s.heap.objs.size=some { cls:=.type "list",dict:=none,data:=.seq its.toArray c',slots :=#[] }->EP X pins σ Q (.ref s.heap.objs.size) { s with heap:=h' }:=fun its r' hz h' c' kp e =>
  ⟨.ref s.heap.objs.size,_,I.laid (t':=s.toks) kp (Nat.le_refl _) (show Zaw X.prog X.w _ h' _ (.lst ys) from⟨hz,its,c',r',e⟩),rfl,q _ (I.hok.fresh (Nat.le_refl _))⟩
 rcases hq with hq|hq
 ·obtain⟨its,r',pl,hz⟩:=I.list hq;have hlen:=r'.length;obtain⟨o,ho,hc,n,hd⟩:=pl.isList;exact call_list_seq p (.inl rfl) ho hc hd (fun h' c' kp e=>fin its r' hz h' c' kp e) (by simp only[List.size_toArray] <;> lia)
 ·obtain⟨its,r',pl,hz⟩:=I.tuple hq;have hlen:=r'.length;obtain⟨o,ho,hc,n,hd⟩:=pl;exact call_list_seq p (.inr rfl) ho hc hd (fun h' c' kp e=>fin its r' hz h' c' kp e) (by simp only[List.size_toArray] <;> lia)
theorem ZaJ:ZbU X (.type "tuple") (fun xs H Q=>∃p ys,xs=[.ref p]/\((SqL X.K H p ys/\∀l,H l=none->Q (.ref l) (upd H l (.tup ys)))\/(SqT X.K H p ys/\Q (.ref p) H))):=by
 intro pins s σ H xs us Q I r h;obtain⟨p,ys,rfl,h⟩:=h;obtain⟨u,rfl,rx⟩:=vals1 r;cases rx;rcases h with⟨hq,q⟩|⟨hq,q⟩
 ·obtain⟨its,r',pl,hz⟩:=I.list hq;have hlen:=r'.length;refine call_tuple_list pl.isList (fun h' kp=>?_) (by simp only[List.size_toArray] <;> lia)
  have I1:Inv X pins σ H { s with heap:=h' }:=I.kept (t':=s.toks) kp;have I2:Inv X pins σ (upd H h'.objs.size (.tup ys)) { s with heap:=h'.push { cls:=.type "tuple",data:=.seq its.toArray } } :=
   I1.laid (t':=s.toks) (fun b o e=>Heap.get?_push_of_some _ e) (Nat.le_refl _) (show Zaw X.prog X.w _ _ _ (.tup ys) from⟨hz,its,r',IsTup.new _ _⟩)
  exact⟨.ref h'.objs.size,_,I2,rfl,q _ (I1.hok.fresh (Nat.le_refl _))⟩
 ·obtain⟨its,r',pl,hz⟩:=I.tuple hq;exact call_tuple_same pl ⟨.ref p,H,I,rfl,q⟩
def tyV(K:PySem.W.Frag)(T:String)(x:V)(H:Hp):Prop:=match x with
 | .str _=>T= "str"
 | .int _=>T= "int"
 | .ref p=>(T= "list" /\ ∃xs,SqL K H p xs)\/(T= "tuple" /\ ∃o,K.lookup p=some o/\o.cls=.type "tuple" /\ o.dict=none) \/
   (T= "dict" /\ ((∃kvs,H p=some (.dK kvs))\/∃kvs,H p=some (.dT kvs)))\/(T= "set" /\ ∃S n,H p=some (.set S n))
 | _=>False
theorem Zjl{pins:List (Addr×Obj)}{σ : St}{H:Hp}{s:Shared}{T:String}{x:V}{v:Value}(I:Inv X pins σ H s)(r:RelV x v)(ty:tyV X.K T x H) :
  s.TypeIs v T/\∀a,v=.ref a->∃ob,s.heap.get? a=some ob/\ob.dict=none:=by
 cases x with
 | str z =>
  obtain⟨t,rfl⟩:=r;cases (show T= "str" from ty);exact⟨typeIs_str s z t,fun _ e=>nomatch e⟩
 | int i =>
  obtain⟨t,rfl⟩:=r;cases (show T= "int" from ty);exact⟨typeIs_int s i t,fun _ e=>nomatch e⟩
 | ref p =>
  cases r;rcases ty with⟨rfl,xs,hq⟩|⟨rfl,o,hk,hc,hd⟩|⟨rfl,hk⟩|⟨rfl,S,n,hk⟩
  ·obtain⟨its,_,pl,_⟩:=I.list hq;refine⟨pl.isList.typeIs,fun a e=>?_⟩;cases e;obtain⟨o,n,e,c,hd,_⟩:=pl;exact⟨o,e,hd⟩
  ·refine⟨⟨o,I.kIn p o hk,hc⟩,fun a e=>?_⟩;cases e;exact⟨o,I.kIn _ o hk,hd⟩
  ·have z:∃o,s.heap.get? p=some o/\o.ExactDict:=by
    rcases hk with⟨kvs,hk⟩|⟨kvs,hk⟩
    ·obtain⟨_,_,_,_,o,_,_,e,ex,_⟩:=I.hok p _ hk;exact⟨o,e,ex⟩
    ·obtain⟨_,_,_,_,o,_,_,e,ex,_⟩:=I.hok p _ hk;exact⟨o,e,ex⟩
   obtain⟨o,e,ex⟩:=z;refine⟨⟨o,e,ex.1⟩,fun a e2=>?_⟩;cases e2;exact⟨o,e,ex.2.1⟩
  ·obtain⟨o,_,_,_,e,ex,_⟩:=I.hok p _ hk;refine⟨⟨o,e,ex.1⟩,fun a e2=>?_⟩;cases e2;exact⟨o,e,ex.2.1⟩
 | _=>exact False.elim ty
def Zmb(K:PySem.W.Frag)(T:String)(r:V->List V->Hp->VK->Prop)(to:TE):TE:=fun σ H Q=>to σ H fun x H1=>tyV K T x H1/\r x [] H1 Q
def tBM(K:PySem.W.Frag)(T:String)(r:V->List V->Hp->VK->Prop)(to:TE)(t:TA):TE:=fun σ H Q=>to σ H fun x H1=>tyV K T x H1/\t σ H1 fun xs H2=>r x xs H2 Q
variable{o e:Expr}{es:List Expr}{to:TE}{t:TA}{name:Str}{apos cpos:Pos}{T id:String}{r:V->List V->Hp->VK->Prop}
theorem Zi4(pa:PlainAttrs T)(slot:Slot T name id)(hty:typeOf (.builtin id)=pure (.type "method_descriptor")) (hm:MtR X id r) (ho:PE X o to)
  (hbase:attributeBase o name X.env (eval o X.env)=eval o X.env:=by rfl) (hline:(apos.endLine == cpos.line)=true:=by rfl):PE X (.Call (.Attribute o name apos) [] [] cpos) (Zmb X.K T r to):=by
 intro pins s σ H Q I h;refine wpAny_Call_method0_late hbase hline (thn (ho pins s σ H _ I h) fun v s1 ⟨x,H1,I1,r1,ty,q1⟩=>?_);obtain⟨h1,h2⟩:=Zjl I1 r1 ty;exact⟨T,id,pa,slot,hty,h1,h2,Calls.callWith_builtin rfl (PySem.evalArgs_none (hm pins s1 σ H1 x [] v [] Q I1 r1 .nil q1))⟩
theorem Zbn(pa:PlainAttrs T)(slot:Slot T name id)(hty:typeOf (.builtin id)=pure (.type "method_descriptor")) (hm:MtR X id r) (ho:PE X o to) (ha:PA X (e::es) t)
  (hbase:attributeBase o name X.env (eval o X.env)=eval o X.env:=by rfl)
  (hfew:((backTo cpos (starEach (e::es) X.env)).all (fun x=>!x.1)&&(backToKw cpos (keywordEach [] X.env)).all (fun x=>x.1.isSome)
   && decide ((e::es).length+([]:List Keyword).length+(if([]:List Keyword).isEmpty then 0 else 1)<30))=true:=by rfl)
  (hline:(apos.endLine == cpos.line)=true:=by rfl) (hs:starEach (e::es) X.env=(false,eval e X.env)::starEach es X.env:=by rfl) (hplain:(backTo cpos (starEach es X.env)).any (·.1)=false:=by rfl) :
  PE X (.Call (.Attribute o name apos) (e::es) [] cpos) (tBM X.K T r to t):=by
 intro pins s σ H Q I h;refine wpAny_Call_method_late hbase hfew hline rfl (thn (ho pins s σ H _ I h) fun v s1 ⟨x,H1,I1,r1,ty,q1⟩=>?_);obtain⟨h1,h2⟩:=Zjl I1 r1 ty;refine⟨T,id,pa,slot,hty,h1,h2,?_⟩;have hA:=ha cpos pins s1 σ H1 _ I1 q1;rw[hs] at hA ⊢;refine Calls.callWith_builtin (by show(false || (backTo cpos (starEach es X.env)).any (·.1))=false;rw[hplain] <;> rfl) (Calls.evalArgs_plain ?_)
 exact thn hA fun us s2 ⟨vs,H2,I2,r2,q2⟩=>hm pins s2 σ H2 x vs v us Q I2 r1 r2 q2
/- xs.append(e),list.index on a module's tuple .. are MtR facts of 06m -/
end
def MtM(X:Cx)(id:String)(r:V->List V->Hp->VK->Prop):Prop :=
 ∀(pins:List (Addr×Obj))(s:Shared)(σ : St)(H:Hp)(x:V)(xs:List V)(v:Value)(us:List Value)(Q:VK),Inv X pins σ H s->RelV x v->Vals xs us->r x xs H Q ->
  wpAny (model X.prog X.w) X.A (call (.builtin id) (v::us)) (EP X pins σ Q) X.xe s
theorem Vals.one:∀{x:V}{us:List Value},Vals [x] us->∃u,us=[u]/\RelV x u
 | _,_,.cons r .nil=>⟨_,rfl,r⟩
theorem Vals.two:∀{x y:V}{us:List Value},Vals [x,y] us->∃u v,us=[u,v]/\RelV x u/\RelV y v
 | _,_,_,.cons r (.cons q .nil)=>⟨_,_,rfl,r,q⟩
theorem Vals.zero:∀{us:List Value},Vals [] us->us=[]
 | _,.nil=>rfl
theorem Vals.dropLast{xs:List V}{us:List Value}(h:Vals xs us):Vals xs.dropLast us.dropLast:=by
 induction h with
 | nil=>exact .nil
 | cons r t ih =>
  cases t with
  | nil=>exact .nil
  | cons q t'=>exact .cons r ih
theorem Vals.reverse{xs:List V}{us:List Value}(h:Vals xs us):Vals xs.reverse us.reverse:=by
 induction h with
 | nil=>exact .nil
 | cons r t ih=>rw[List.reverse_cons,List.reverse_cons];exact Vals.append ih (.cons r .nil)
theorem Vals.rep{xs:List V}{us:List Value}(h:Vals xs us):∀k:Nat,Vals (List.replicate k xs).flatten (List.replicate k us).flatten
 | 0=>.nil
 | k+1=>by
  rw[List.replicate_succ,List.replicate_succ,List.flatten_cons,List.flatten_cons];exact Vals.append h (Vals.rep h k)
theorem Zgf{α : Type}(l:List α):l.eraseIdx (l.length-1)=l.dropLast:=by
 induction l with
 | nil=>rfl
 | cons a r ih =>
  cases r with
  | nil=>rfl
  | cons b r =>
   have e:(a::b::r).length-1=((b::r).length-1)+1:=by
    have h1:(a::b::r).length=r.length+2:=rfl;have h2:(b::r).length=r.length+1:=rfl;lia
   rw[e,List.eraseIdx_cons_succ,ih]
   all_goals rfl
theorem foldl_rep(its:List Value):∀(k:Nat)(acc:List Value),
  List.foldl (fun x1 x2=>x1++x2) acc.toArray (List.replicate k its.toArray)=(acc++(List.replicate k its).flatten).toArray
 | 0,acc=>by simp
 | k+1,acc=>by
  have e:acc.toArray++its.toArray=(acc++its).toArray:=by simp
  have e2:(acc++its)++(List.replicate k its).flatten=acc++(List.replicate (k+1) its).flatten:=by
   rw[List.replicate_succ,List.flatten_cons,List.append_assoc]
  rw[<- e2,<- foldl_rep its k (acc++its),<- e,List.replicate_succ,List.foldl_cons]
section
variable{X:Cx}{pins:List (Addr×Obj)}{σ : St}{H:Hp}{s:Shared}{l b:Addr}{xs ys zs:List V}
theorem Inv.lset{its its':List Value}{n:Nat}{f:Array Value->Array Value}{t':Nat}(I:Inv X pins σ H s)(hH:H l=some (.lst xs))
  (e:s.heap.get? l=some { cls:=.type "list",data:=.seq its.toArray n }) (hf:f its.toArray=its'.toArray) (hv:Vals ys its') (hz:ys.length<=sizeLine) :
  Inv X pins σ (upd H l (.lst ys)) { s with heap:=s.heap.update l (Obj.mapSeq f),toks:=t' }:=by
 have q:=PySem.IsL.update e f;rw[hf] at q;refine I.write (x:=l) (e:=l) (by rw[hH];exact trivial) (.inl rfl) (fun b' u hb hu=>(Heap.get?_update_other s.heap (Obj.mapSeq f) (Ne.symm hb)).trans hu) ⟨_,q⟩ ?_;exact⟨hz,its',_,hv,q⟩
theorem Inv.lnew{its:List Value}{t':Nat}(I:Inv X pins σ H s)(hv:Vals ys its)(hz:ys.length<=sizeLine) :
  Inv X pins σ (upd H s.heap.objs.size (.lst ys)) { s with heap:=s.heap.push { cls:=.type "list",data:=.seq its.toArray },toks:=t' } :=
 I.laid (fun _ _ q=>Heap.get?_push_of_some _ q) (Nat.le_refl _) ⟨hz,its,0,hv,Heap.get?_push_size _ rfl⟩
theorem Inv.fresh(I:Inv X pins σ H s):H s.heap.objs.size=none:=I.hok.fresh (Nat.le_refl _)
theorem Inv.lstM(I:Inv X pins σ H s)(hH:H l=some (.lst xs)):xs.length<=sizeLine/\∃(its:List Value)(n:Nat),Vals xs its/\xs.length=its.length/\s.heap.get? l=some { cls:=.type "list",data:=.seq its.toArray n }:=by
 obtain⟨z,its,n,r,e⟩:=I.hok l _ hH;exact⟨z,its,n,r,r.length,e⟩
theorem ZfQ{n:Nat}(h:n<=sizeLine):Builtin.List.listTooLong n=false:=by
 unfold Builtin.List.listTooLong;exact decide_eq_false (by lia)
end
section
variable{X:Cx}
def ZjU:V->List V->Hp->VK->Prop:=fun x vs H Q=>∃l xs y,x=.ref l/\vs=[y]/\H l=some (.lst xs)/\xs.length<sizeLine/\Q .non (upd H l (.lst (xs ++ [y])))
theorem ZJ:MtM X "list.append" ZjU:=by
 intro pins s σ H x vs v us Q I rx rv h;obtain⟨l,xs,y,rfl,rfl,hH,hz,q⟩:=h;cases rx;obtain⟨u,rfl,ru⟩:=rv.one;obtain⟨z,its,n,r,hl,e⟩:=I.lstM hH;refine call_meets F.slot_list_append ⟨_,e,rfl⟩ F.entry_list_append (F.args_list_append_2 _ _) (PySem.list_append l its.toArray n u (by rw[List.size_toArray];lia)) ⟨e,?_⟩;refine⟨.non,_,I.lset (its':=its ++ [u]) hH e (by simp) (r.append (.cons ru .nil)) ?_,rfl,q⟩;rw[List.length_append,List.length_singleton];lia
def ZlY:V->List V->Hp->VK->Prop:=fun x vs H Q=>∃l xs y,x=.ref l/\vs=[]/\H l=some (.lst xs)/\xs[xs.length-1]?= some y/\Q y (upd H l (.lst xs.dropLast))
theorem Zi3:MtM X "list.pop" ZlY:=by
 intro pins s σ H x vs v us Q I rx rv h;obtain⟨l,xs,y,rfl,rfl,hH,hy,q⟩:=h;cases rx;have hus:=rv.zero;subst hus;obtain⟨z,its,n,r,hl,e⟩:=I.lstM hH;obtain⟨u,hu,ru⟩:=r.get hy;have hy':its.toArray[its.toArray.size-1]?= some u:=by
  show its.toArray[its.length-1]?= some u;rw[<- Array.getElem?_toList,<- hl];exact hu
 refine call_meets F.slot_list_pop ⟨_,e,rfl⟩ F.entry_list_pop (F.args_list_pop_1 _) (MeetsSeq.list_pop_last l its.toArray n u hy' (by rw[List.size_toArray];lia)) ⟨e,?_⟩;refine⟨y,_,I.lset (its':=its.dropLast) hH e ?_ r.dropLast ?_,ru,q⟩
 ·show its.toArray.eraseIdxIfInBounds (its.toArray.size-1)=its.dropLast.toArray;rw[List.size_toArray,List.eraseIdxIfInBounds_toArray,Zgf]
 ·rw[List.length_dropLast];lia
def Zma:R2:=fun x y H Q=>∃l b xs zs,x=.ref l/\y=.ref b/\H l=some (.lst xs)/\H b=some (.lst zs)/\xs.length+zs.length<=sizeLine/\∀p,H p=none->Q (.ref p) (upd H p (.lst (xs++zs)))
theorem ZfX:OpR X (binaryOp .Add) Zma:=by
 intro pins s σ H x y v u Q I rx ry h;obtain⟨l,b,xs,zs,rfl,rfl,hH,hB,hz,q⟩:=h;cases rx;cases ry;obtain⟨z,its,n,r,hl,e⟩:=I.lstM hH;obtain⟨z2,its2,n2,r2,hl2,e2⟩:=I.lstM hB;refine PySem.P.add_list e e2 ?_ (by rw[List.size_toArray,List.size_toArray];lia);have ea:its.toArray++its2.toArray=(its++its2).toArray:=by simp
 rw[ea];exact⟨.ref _,_,I.lnew (t':=s.toks) (r.append r2) (by rw[List.length_append];lia),rfl,q _ I.fresh⟩
def Zmi:R2:=fun x y H Q=>∃l k xs,x=.ref l/\y=.int k/\H l=some (.lst xs) /\ -(2 ^ 63)<=k/\k<2 ^ 63/\xs.length*k.toNat<=sizeLine /\
 ∀p,H p=none->Q (.ref p) (upd H p (.lst (List.replicate k.toNat xs).flatten))
theorem len_rep{α : Type}(xs:List α)(k:Nat):(List.replicate k xs).flatten.length=k*xs.length:=by
 induction k with
 | zero=>simp
 | succ k ih=>rw[List.replicate_succ,List.flatten_cons,List.length_append,ih,Nat.succ_mul,Nat.add_comm]
theorem Zi6:OpR X (binaryOp .Mult) Zmi:=by
 intro pins s σ H x y v u Q I rx ry h;obtain⟨l,k,xs,rfl,rfl,hH,h1,h2,hz,q⟩:=h;cases rx;obtain⟨t,rfl⟩:=ry;obtain⟨z,its,n,r,hl,e⟩:=I.lstM hH;have hlen:its.toArray.size*k.toNat<=sizeLine:=by rw[List.size_toArray,<- hl];exact hz
 have hcap : ¬ its.toArray.size*k.toNat > (2 ^ 63-1) / 8:=by
  have:(sizeLine:Nat)<=(2 ^ 63-1) / 8:=by decide
  lia
 have hfit : ¬ (!Builtin.List.listFitsIndex k)=true:=by
  rw[fitsIndex_both h1 h2];exact Bool.false_ne_true
 have hlong : ¬ Builtin.List.listTooLong (its.toArray.size*k.toNat)=true:=by
  rw[ZfQ hlen];exact Bool.false_ne_true
 have hnew:List.foldl (fun x1 x2=>x1++x2) #[] (List.replicate (if its.toArray.isEmpty=true then 0 else k.toNat) its.toArray)=(List.replicate k.toNat its).flatten.toArray:=by
  have f0:∀m:Nat,List.foldl (fun x1 x2=>x1++x2) #[] (List.replicate m its.toArray)=(List.replicate m its).flatten.toArray:=fun m=>by
   have:=foldl_rep its m [];rw[List.nil_append] at this;exact this
  rw[f0];cases its with
  | nil=>simp
  | cons a r'=>rw[if_neg (by simp)]
 refine wpAny_binaryOp_repeat_ref (T := "list") (U := "int") (by decide) ⟨_,e,rfl⟩ (fun s'=>typeIs_int s' k t) noFill_list_mul F.fills_int_mul F.slot_int_rmul repeat_list F.slot_int_index.lookup
  (call_meets F.slot_int_rmul (typeIs_int s k t) F.entry_int_rmul (F.args_int_rmul_2 _ _) (int___rmul___int_list k t l its.toArray n)
   ⟨e,rfl,⟨_,e,rfl⟩,call_meets F.slot_list_mul ⟨_,e,rfl⟩ F.entry_list_mul (F.args_list_mul_2 _ _) (AutoListH.list___mul___list_int_3 l its.toArray n k t hfit hcap hlong) ⟨e,?_⟩⟩)
 rw[hnew];exact⟨.ref _,_,I.lnew (t':=s.toks) (r.rep k.toNat) (by rw[len_rep,Nat.mul_comm];exact hz),rfl,q _ I.fresh⟩
end
end L2
namespace Att
open PySem PySem.W PySem.Calls PyProof.Rows
theorem ZcS{P:Params}{h:Heap}:∀(ns:List Int)(vs:List Value),WellAll P h vs (ns.map WData.int)->IntsAre vs ns:=by
 intro ns
 induction ns with
 | nil =>
  intro vs w;rw[List.map_nil] at w;cases w;exact .nil
 | cons n ns ih =>
  intro vs w;rw[List.map_cons] at w;cases w with
  | cons a b =>
   cases a;exact .cons _ _ (ih _ b)
theorem ZgR{l:OpenLaw}{n:Nat}(hn:l.most=some n){P:Params}{h:Heap}{args:List WData}{vals:List Value}
  (hpre:l.row.toRowW.claim.pre args=true) (hwl:WellAll P h vals args) :
  ∃a vs ns,vals=[Value.ref a]/\args=[WData.list (ns.map WData.int)]/\h.get? a=some { cls:=.type "list",data:=.seq vs.toArray }/\IntsAre vs ns/\ns.length<=n:=by
 have hsh:WShape.hasAll [] args [.list .int]=true:=(pre_splitW hpre).1;have hc:l.pre.holds [] { args:=args }=true:=(pre_splitW hpre).2;obtain⟨d,r,rfl,h1,h2⟩:=hasAllW_cons hsh;obtain rfl:=hasAllW_nil h2;obtain⟨xs,rfl,h3⟩:=hasW_list h1;obtain⟨ns,rfl⟩:=items_int h3;have hlen:ns.length<=n:=by
  unfold OpenLaw.pre at hc;have h4:(WTm.not (.lt (.lit (.int (n:Int))) (.len (.arg 0)))).holds [] { args:=[.list (ns.map .int)] }=true:=by
   have h4:=(holds_andW hc).1;rw[hn] at h4;exact h4
  have h5:=condW_of h4 (w_not (w_lt w_lit (w_len_list (w_arg rfl))));rw[List.length_map] at h5;refine Nat.le_of_not_lt fun q=>?_;have q':(n:Int)<((ns.length:Nat):Int):=by lia
  first
   | (rw[decide_eq_true q'] at h5;exact absurd h5 (by decide))
   | (simp at h5;lia)
 cases hwl with
 | cons w1 w2 =>
  cases w2;cases w1 with
  | list ho hall=>exact⟨_,_,ns,rfl,rfl,ho,ZcS ns _ hall,hlen⟩
theorem Zh7(l:OpenLaw)(args:List WData):l.row.toRowW.claim.post args (.bool true) args=true :=
 postW_of (r:=l.row.toRowW) (X:=(true == true))
  (show WShape.has [] (.bool true) .bool=true by first|rfl|decide|simp[WShape.has,WShape.arms,WShape.armsAll])
  (show(WTm.eq .res (.lit (.bool true))).value [] { args:=args,res:=some (.bool true),after:=args }=some (.bool (true == true)) from w_eq_bool (w_res rfl) w_lit) rfl
theorem Zfv{l:OpenLaw}{n:Nat}{q:Program}{loose:List Str}{XP:(Str->Option Value)->Heap->Prop}{YP:World->Heap->Prop}{d:DefRec}
  (hn:l.most=some n) (hdf:d.params.defaults=[])
  (call:∀(w:World)(s₀ s₁ : Shared)(mg mb:Str->Option Value)(fa:Addr)(o:Obj)(pm cd doc:Value)(a:Addr)(vs:List Value)(ns:List Int),
   Ground q loose [] XP w s₀ mg mb s₁.heap->YP w s₁.heap ->
   s₁.heap.get? fa=some o->o.data=.func (docDef d.name d.params d.body d.scope pm cd doc)->s₁.heap.CodeRec cd d.name->mg d.name=some (.ref fa) ->
   s₁.heap.get? a=some { cls:=.type "list",data:=.seq vs.toArray }->IntsAre vs ns->ns.length<=n->s₁.gens=#[] ->
   codeAny (model l.prog w) callerA (.call (.ref fa) ⟨[.ref a],[]⟩) (fun r s'=>r=.ok (.ret (.bool true))/\OldK s₁.heap s'.heap/\s'.os=s₁.os/\AllBare s'.gens) s₁) :
  WalkO q loose XP YP l.row.toRowW d [] (fun f vs=>PySem.call f vs):=by
 intro w s₀ s₁ mg mb G Y fa o pm cd doc dV kV ho hd hcd hD hmg hg args vals as hpre hlay hrd hwl hlo;obtain rfl:dV=.none:=Dflts.none hD hdf;obtain rfl:kV=.none:=Dflts.noKw hD;obtain⟨a,vs,ns,rfl,rfl,hobj,hints,hlen⟩:=ZgR hn hpre hwl;refine enter_call (codeAny_mono (call w s₀ s₁ mg mb fa o pm cd doc a vs ns G Y ho (fd_plain hd) hcd hmg hobj hints hlen hg) fun r s' hq=>?_);obtain⟨rfl,h2,h3,h4⟩:=hq;exact⟨.inl ⟨.bool true,.bool true,[],rfl,fun _=>rfl,.bool true,Zh7 l _,fun _=>⟨List.Pairwise.nil,fun _ hm=>(nomatch hm)⟩⟩,h2,h3,h4⟩
end Att
namespace L2
open PySem PySem.Spec PyProof.Rows
theorem Zeh:∀{vs:List Value}{ns:List Int},IntsAre vs ns->Vals (ns.map V.int) vs
 | _,_,.nil=>.nil
 | _,_,.cons n t h=>.cons ⟨t,rfl⟩ (Zeh h)
end L2
/- THE LAST THEOREM (shape;LID,My.* are yours):
   My.Adr: a structure of the addresses that your layer names (classes,functions);My.Txt K t: a structure (Prop) of the equations over K;
   My.txt_mk:{K} {implicit addresses ..} (e1:nsIn K mainGlobals "law" = some (some (.ref f))) (e2:K.lookup f=some ⟨oc,od,.func (fnOf "law" "law" params body scope dV kV doc pm an cdv ct),sl⟩) (e3:codeIn K cdv "law" = true) .. : ∃t,My.Txt K t
set_option maxRecDepth 100000 in
set_option maxHeartbeats 0 in
theorem PySem.Challenge.cw_LID_holds : PySem.Challenge.rw_LID.Holds := by
 w_on;o_law;k_head;(case hw=>w_witness2)
 k_fill
 refine L2.walk_of (l:=PySem.Challenge.rw_LID) (n:=63) (k:=40) (x := "script") (CX:=fun w=>..) (sp:=fun _=>My.sp_law) rfl (by decide) rfl ⟨rfl,by decide,by decide⟩ (fun w h Y=>PySem.W.kIn_of Y) ?F ?S ?C
 case F =>
  intro w mg fa h KX G hmg;have T:∃t,My.Txt (L2.KOf KX) t:=by
   dsimp only[L2.KOf]                          -- K must stand as «<heap const> w.params» for k_is
   refine' My.txt_mk ?e1 ?e2 ?e3 ..
   (case e1=>PySem.W.k_is)                    -- in the order: a name->its address->its object->its parts
   (case e2=>PySem.W.k_is)
   ..
  obtain⟨t,T⟩:=T;have e0:=hmg.symm.trans (PySem.W.mg_of KX G T.law);cases e0                                       -- fa is the law's own address
  exact⟨_,fun s u=>.of_eq rfl,fun base kb nb=>My.law_fn T kb nb⟩     -- if «.of_eq rfl» comes too early: refine' ⟨_,?b,fun base kb nb=>My.law_fn T kb nb⟩;exact fun s u=>.of_eq rfl
 case S=>exact fun w H a ns hl hO hS=>..
 case C=>exact ..
(the tactic k_is has no namespace: write k_is) -/
namespace L2
open PySem PySem.Spec PyProof.Rows
def ZL(s:Stmt):Arguments:=match s with
 | .FunctionDef _ a _ _ _ _ _ _ _ _=>a
 | _=>{ posonlyargs:=[],args:=[],vararg:=none,kwonlyargs:=[],kw_defaults:=[],kwarg:=none,defaults:=[] }
def Zj(s:Stmt):List Stmt:=match s with
 | .FunctionDef _ _ b _ _ _ _ _ _ _=>b
 | _=>[]
def Zg(s:Stmt):Scope:=match s with
 | .FunctionDef _ _ _ _ _ _ sc _ _ _=>sc
 | _=>{ kind:=.function,names:=[],isGenerator:=false,isCoroutine:=false }
abbrev CX0:CXT:=fun _ _ _ _ _ _=>False
abbrev E0:XK:=fun _ _ _=>False
theorem ZkO{X:Cx}:Zg7 CX0 X E0:=fun _ _ _ _ _ _ _ h=>h.elim
structure Fun(K:PySem.W.Frag)(x qual:Str)(st:Stmt)(f:Addr)(fd:FuncData):Prop where
 ex:∃(oc:Value)(od:Option Addr)(kV doc pm:Value)(an:Option Addr)(cdv ct:Value)(osl:Array (Option Value)),
  fd=PySem.W.fnOf x qual (ZL st) (Zj st) (Zg st) .none kV doc pm an cdv ct/\K.lookup f=some ⟨oc,od,.func fd,osl⟩/\PySem.W.codeIn K cdv qual=true
 kp:PySem.W.keepIn K (.ref f)=true
section
variable{P:Program}{w:World}{K:PySem.W.Frag}{mg:Str->Option Value}{base:Heap}
theorem Fun.ok{x qual:Str}{st:Stmt}{f:Addr}{fd:FuncData}{N ps:List Str}{k:Nat}{sp:Sp}(F:Fun K x qual st f fd)(S:FnScope N ps (Zg st))(len:∀vs H Q E,sp vs H Q E->vs.length=ps.length)
  (hbody:∀(cdv:Value)(A:Around)(outer:List Env)(s:Shared)(H:Hp)(vs:List V)(Q:VK)(E:XK),Room k (A.deeper (envOfC qual (Zg st) s.heap.objs.size f cdv))->sp vs H Q E ->
   ∃t,PSs (Zia CX0 P w K mg base N qual (Zg st) f cdv A outer s H E).nox (Zj st) t/\t { nx:=fun _ H'=>Q .non H',rt:=Q } (start N vs) H):FnOk P w K mg base CX0 (k+1) f fd ps sp:=by
 obtain⟨oc,od,kV,doc,pm,an,cdv,ct,osl,rfl,lk,hcd⟩:=F.ex;refine ZjH lk hcd S len fun A outer s H vs Q E hr hsp=>?_;obtain⟨t,h,q⟩:=hbody cdv A outer s H vs Q E hr hsp;exact⟨t,h.nox,q⟩
theorem Fun.binds{x qual:Str}{st:Stmt}{f:Addr}{fd:FuncData}{ps:List Str}(F:Fun K x qual st f fd)
  (h:∀(kV doc pm:Value)(an:Option Addr)(cdv ct:Value)(us:List Value),us.length=ps.length->bindArgs (PySem.W.fnOf x qual (ZL st) (Zj st) (Zg st) .none kV doc pm an cdv ct) ⟨us,[]⟩=pure (ps.zip us)):Binds K fd ps []:=by
 obtain⟨oc,od,kV,doc,pm,an,cdv,ct,osl,rfl,lk,hcd⟩:=F.ex;exact .all (h kV doc pm an cdv ct)
theorem Zao{x qual:Str}{st:Stmt}{f:Addr}{oc:Value}{od an:Option Addr}{osl:Array (Option Value)}{kV doc pm cdv ct:Value}(l:K.lookup f=some ⟨oc,od,.func (PySem.W.fnOf x qual (ZL st) (Zj st) (Zg st) .none kV doc pm an cdv ct),osl⟩)
  (c:PySem.W.codeIn K cdv qual=true) (k:PySem.W.keepIn K (.ref f)=true):Fun K x qual st f (PySem.W.fnOf x qual (ZL st) (Zj st) (Zg st) .none kV doc pm an cdv ct):=⟨⟨oc,od,kV,doc,pm,an,cdv,ct,osl,rfl,l,c⟩,k⟩
end
section
variable{X:Cx}
theorem pv(i:Nat){x:Str}{pos:Pos}(hN:X.N[i]?= some x:=by rfl)(hv:Vis X.env.scope x:=by first|exact Or.inl rfl|exact Or.inr (Or.inl rfl)|exact Or.inr (Or.inr rfl))(hd:(x == ("__debug__" : Str))=false:=by decide)
  (hcd:(x == ("__classdict__" : Str))=false:=by decide):PE X (.Name x pos) (Zk0 i):=ZkA hN hv hd hcd
end
theorem Za8{A B:Prop}(h:B):if false=true then A else B:=by
 rw[if_neg Bool.false_ne_true];exact h
theorem Zdb{A B:Prop}(h:A):if true=true then A else B:=by
 rw[if_pos rfl];exact h
theorem ZbI{c A B:Prop}[Decidable c](h1:c->A)(h2 : ¬ c->B):if c then A else B:=by
 by_cases h:c
 ·rw[if_pos h];exact h1 h
 ·rw[if_neg h];exact h2 h
def Zi(H H':Hp):Prop := ∀b o,H b=some o->H' b=some o
theorem Zi.refl(H:Hp):Zi H H:=fun _ _ h=>h
theorem Zi.trans{H H1 H2:Hp}(a:Zi H H1)(b:Zi H1 H2):Zi H H2:=fun c o h=>b c o (a c o h)
theorem Zi.free{H H':Hp}(e:Zi H H'){l:Addr}(h:H' l=Option.none):H l=Option.none:=by
 cases q:H l with
 | none=>rfl
 | some o =>
  rw[e l o q] at h;cases h
theorem Zi.seq{K:PySem.W.Frag}{H H':Hp}{a:Addr}{xs:List V}(e:Zi H H')(h:SqL K H a xs):SqL K H' a xs:=by
 rcases h with(h|⟨o,h⟩)|h
 ·exact .inl (.inl (e _ _ h))
 ·exact .inl (.inr ⟨o,e _ _ h⟩)
 ·exact .inr h
end L2
namespace FgM
inductive Gr(A:Type) where
 | nil
 | cons (t:A) (w o:Gr A)
section
variable{A:Type}
def words(sl:A):Gr A->List A
 | .nil=>[]
 | .cons t w o=>t::(words sl w++sl::words sl o)
section
variable[DecidableEq A]
def ZeT(sl:A):Gr A->Prop
 | .nil=>True
 | .cons t w o=>t≠sl/\ZeT sl w/\ZeT sl o
end
abbrev Item(A:Type):=Option (A×Gr A)
def wi(sl:A):Item A->List A
 | none=>[sl]
 | some (t,w)=>t::(words sl w ++ [sl])
def items:Gr A->List (Item A)
 | .nil=>[]
 | .cons t w o=>some (t,w)::items o
theorem ZbB(sl:A):∀g:Gr A,(items g).flatMap (wi sl)=words sl g
 | .nil=>rfl
 | .cons t w o=>by simp[items,wi,words,ZbB sl o]
def ZaH(sl:A)(st:List (Item A)):List A:=st.reverse.flatMap (wi sl)
theorem Zgy(sl:A):ZaH sl ([]:List (Item A))=[]:=rfl
theorem Zbz(sl:A)(st:List (Item A))(x:Item A):ZaH sl (st ++ [x])=wi sl x++ZaH sl st:=by
 simp[ZaH]
theorem ZeH(sl:A)(g:Gr A):ZaH sl (items g).reverse=words sl g:=by
 simp[ZaH,ZbB]
theorem ZcV(sl:A)(st:List (Item A))(w:Gr A):ZaH sl (st ++ [none]++(items w).reverse)=words sl w++sl::ZaH sl st:=by
 simp[ZaH,ZbB,wi]
theorem Zgd(sl:A):∀st:List (Item A),st.length<=(ZaH sl st).length:=by
 intro st;have h:∀l:List (Item A),l.length<=(l.flatMap (wi sl)).length:=by
  intro l
  induction l with
  | nil=>exact Nat.le_refl _
  | cons x l ih =>
   rw[List.flatMap_cons,List.length_append,List.length_cons];have:1<=(wi sl x).length:=by cases x with
    | none=>exact Nat.le_refl _
    | some p=>obtain⟨t,w⟩:=p;simp[wi]
   lia
 have:=h st.reverse;rw[List.length_reverse] at this;exact this
end
end FgM
namespace L2
open PySem PySem.Spec PyProof.Rows
theorem ZhR:bootBuiltins "list" = some (.type "list"):=by decide +kernel
theorem Zbv:bootBuiltins "tuple" = some (.type "tuple"):=by decide +kernel
theorem Zkl:bootBuiltins "str" = some (.type "str"):=by decide +kernel
theorem Zkt:bootBuiltins "int" = some (.type "int"):=by decide +kernel
theorem Zhq:bootBuiltins "min" = some (.builtin "min"):=by decide +kernel
theorem Zaj:bootBuiltins "isinstance" = some (.builtin "isinstance"):=by decide +kernel
section
variable{X:Cx}
theorem ZiA{x:Str}{n:String}{pos:Pos}(hg:Gl X x)(hm:X.mg x=none)(hv:bootBuiltins x=some (.type n))(hn:x ≠ "__name__" := by decide) (hd:(x == ("__debug__" : Str))=false:=by decide):PE X (.Name x pos) (tC (.ty n)) :=
 Zjy (v:=.ty n) hg hm hv rfl hn hd
theorem Zbf:ZbU X (.builtin "isinstance") (fun xs H Q=>∃x n t b,xs=[x,.ty n]/\TyOf X.K H x t/\PySem.W.kitOne X.K t (.type n)=some b/\Q (.bl b) H):=by
 intro pins s σ H xs us Q I r h;obtain⟨x,n,t,b,rfl,ty,e,q⟩:=h;obtain⟨u,v,rfl,rx,ry⟩:=Vals.two r;obtain rfl:v=Value.type n:=ry;exact Zhs I rx ty e fun tk=>⟨.bl b,H,I.tok tk,rfl,q⟩
end
structure Has(P:Program)(w:World)(K:PySem.W.Frag)(mg:Str->Option Value)(base:Heap)(x:Str)(ps:List Str)(k:Nat)(sp:Sp):Prop where
 ex:∃(f:Addr)(fd:FuncData),FnOk P w K mg base CX0 k f fd ps sp/\Binds K fd ps []/\PySem.W.keepIn K (.ref f)=true/\mg x=some (.ref f)
section
variable{X:Cx}{x:Str}{ps:List Str}{j k:Nat}{sp:Sp}{e:Expr}{es:List Expr}{t:TA}{p pos:Pos}
theorem FnOk.room{P:Program}{w:World}{K:PySem.W.Frag}{mg:Str->Option Value}{base:Heap}{CX:CXT}{f:Addr}{fd:FuncData}(F:FnOk P w K mg base CX j f fd ps sp)(h:j<=k):FnOk P w K mg base CX k f fd ps sp :=
 ⟨F.len,fun A outer s H args us vs Q E hr=>F.run A outer s H args us vs Q E (hr.mono h)⟩
theorem ZF(G:Has X.prog X.w X.K X.mg X.base x ps j sp)(hr:Room k X.A)(hg:Gl X x)(ha:PA X (e::es) t)(hk:j<=k:=by decide)(hdb:(x == ("__debug__" : Str))=false:=by decide)
  (he:starEach (e::es) X.env=(false,eval e X.env)::starEach es X.env:=by rfl) (hpl:(backTo pos (starEach es X.env)).any (·.1)=false:=by rfl) :
  PE X (.Call (.Name x p) (e::es) [] pos) (Zkw sp [] E0 t):=by
 obtain⟨f,fd,F,b,kp,m⟩:=G.ex;exact ZjZ (F.room hk) hr hg m kp b .nil ZkO ha hdb he hpl
end
section
variable{X:Cx}
theorem Zc6(l:Addr)(items:Array Value)(n:Nat)(b:Addr)(items2:Array Value)(n2:Nat)(dd2:Option Addr)(sl2:Array (Option Value))
  (hs0 : ¬(!items.isEmpty&&Builtin.List.listTooLong (items.size+items2.size))=true) (hs1:items.size<=sizeLine) (hs2:items.size+items2.size<=sizeLine+1) :
  Meets (Builtin.«list.extend» ⟨[.ref l,.ref b],[]⟩) (fun _ R s=>s.heap.get? l=some { cls:=.type "list",dict:=none,data:=.seq items n,slots :=#[] }
   /\ s.heap.get? b=some { cls:=.type "tuple",dict:=dd2,data:=.seq items2 n2,slots:=sl2 }/\R (.ok (.ret Value.none)) { s with heap:=s.heap.update l (Obj.mapSeq fun x=>x++items2),toks:=s.toks }) :=
 .of_wp fun prog w A R s h=>by
  obtain⟨hp,g,d,tk,os⟩:=s;obtain⟨hl,hb,h⟩:=h;have f2:=AutoSeq1.sub_tuple_tuple;have f3:=AutoSeq1.sub_list_list;have f4:=AutoSeq1.sub_tuple_list;have f5:=AutoSeq1.sub_list_tuple;have hz':(items++items2).size<=sizeLine+1:=by
   rw[Array.size_append];exact hs2
  wp_walk using (wpAny_updateSeq hl rfl (hz:=hs1) (_hz':=hz')),AutoSeq1.wpAny_loadPart' hl,AutoSeq1.wpAny_loadPart' hb
  exact⟨_,rfl,h⟩
def ZiK(K:PySem.W.Frag):V->List V->Hp->VK->Prop:=fun x vs H Q=>∃l b xs zs,x=.ref l/\vs=[.ref b]/\H l=some (.lst xs)/\SqT K H b zs/\xs.length+zs.length<=sizeLine/\Q .non (upd H l (.lst (xs++zs)))
theorem Zgw:MtM X "list.extend" (ZiK X.K):=by
 intro pins s σ H x vs v us Q I rx rv h;obtain⟨l,b,xs,zs,rfl,rfl,hH,hB,hz,q⟩:=h;cases rx;obtain⟨u,rfl,ru⟩:=rv.one;cases ru;obtain⟨z,its,n,r,hl,e⟩:=I.lstM hH;obtain⟨its2,r2,tup,z2⟩:=I.tuple hB;obtain⟨⟨cls,dd,data,sl⟩,ho,hc,n2,hd⟩:=tup;simp only at hc hd;subst hc hd;have hl2:=r2.length;have hsz:its.toArray.size+its2.toArray.size<=sizeLine:=by
  rw[List.size_toArray,List.size_toArray,<- hl,<- hl2];exact hz
 have hlong : ¬ (!its.toArray.isEmpty&&Builtin.List.listTooLong (its.toArray.size+its2.toArray.size))=true:=by
  rw[ZfQ hsz,Bool.and_false];exact Bool.false_ne_true
 refine call_meets F.slot_list_extend ⟨_,e,rfl⟩ F.entry_list_extend (F.args_list_extend_2 _ _)
  (Zc6 l its.toArray n b its2.toArray n2 dd sl hlong (by rw[List.size_toArray];lia) (by lia)) ⟨e,ho,?_⟩
 refine⟨.non,_,I.lset (its':=its++its2) hH e (by simp) (r.append r2) ?_,rfl,q⟩;rw[List.length_append];lia
end
end L2
namespace HT
open PySem PyProof.Rows
section
variable{prog:Program}{w:World}{A:Around}{E:Value->Shared->Prop}{s:Shared}
theorem ZgE(n:Nat):Builtin.Slice.sliceAdjust none none (-1) (n:Int)=((n:Int)-1,-1):=by
 unfold Builtin.Slice.sliceAdjust;rfl
theorem Zgq(n:Nat):Builtin.Slice.slicePlaces ((n:Int)-1) (-1) (-1)=n:=by
 unfold Builtin.Slice.slicePlaces;have h1 : ¬ ((-1:Int) > 0):=by lia
 have h2:(-(-1:Int))=1:=rfl;simp only[h1,if_false,h2,Int.ediv_one]
 split <;> lia
theorem Zcr{sl:Addr}{vl vu vs:Value}{n:Nat}{Q:Int×Int×Nat->Shared->Prop}(hs:s.heap.IsSliceOf sl vl vu vs)(pl:IsPart vl none)(pu:IsPart vu none)(ps:IsPart vs (some (-1)))
  (h:Q ((n:Int)-1,-1,n) s):wpAny (model prog w) A (Builtin.Slice.sliceApplied (.ref sl) (pure (n:Int))) Q E s:=by
 obtain⟨os,hos,hcs,hds⟩:=id hs;unfold Builtin.Slice.sliceApplied Builtin.Slice.sliceFields;refine wpAny_bind (wpAny_bind (wpAny_field hos hds (x:=vl) rfl (wpAny_bind (wpAny_field hos hds (x:=vu) rfl (wpAny_bind (wpAny_field hos hds (x:=vs) rfl (wpAny_pure ?_)))))));refine wpAny_bind (Zb2 ps ?_);show wpAny _ _ (if((-1:Int) == 0)=true then _ else _) _ _ s
 rw[if_neg (by decide)];refine wpAny_bind (Zb2 pl (wpAny_bind (Zb2 pu (wpAny_bind (wpAny_pure ?_)))));show wpAny _ _ (match Builtin.Slice.sliceAdjust none none (-1) (n:Int) with|(lo,hi)=>pure (lo,(-1:Int),Builtin.Slice.slicePlaces lo hi (-1))) _ _ s
 rw[ZgE n];show wpAny _ _ (pure ((n:Int)-1,(-1:Int),Builtin.Slice.slicePlaces ((n:Int)-1) (-1) (-1))) _ _ s;rw[Zgq];exact wpAny_pure h
theorem ZfF{α : Type}(l:List α):∀k:Nat,k<=l.length->((List.range k).filterMap fun(m:Nat)=>l.toArray[((l.length:Int)-1+(m:Int)*(-1)).toNat]?)=l.reverse.take k
 | 0,_=>by simp
 | k+1,hk=>by
  rw[List.range_succ,List.filterMap_append,ZfF l k (by lia),List.take_succ]
  congr 1
  have e:((l.length:Int)-1+(k:Int)*(-1)).toNat=l.length-1-k:=by lia
  simp only[List.filterMap_cons,List.filterMap_nil,e,List.getElem?_toArray];rw[List.getElem?_reverse (by lia)];cases l[l.length-1-k]? <;> rfl
theorem Zb1{t sl:Addr}{its:List Value}{vl vu vs:Value}{Q:Value->Shared->Prop}(ht:IsTup s.heap t its.toArray)(hs:s.heap.IsSliceOf sl vl vu vs)(pl:IsPart vl none)(pu:IsPart vu none)(ps:IsPart vs (some (-1)))
  (h:Q (.ref s.heap.objs.size) { s with heap:=s.heap.push { cls:=.type "tuple",data:=.seq its.reverse.toArray } })
  (hsz:its.length<=sizeLine):wpAny (model prog w) A (getItem (.ref t) (.ref sl)) Q E s:=by
 have hok:sizeOk (.seq its.reverse.toArray):=by
  show its.reverse.toArray.size<=sizeLine;rw[List.size_toArray,List.length_reverse];exact hsz
 obtain⟨os,hos,hcs,hds⟩:=id hs;have hTs:s.TypeIs (.ref sl) "slice" := ⟨os,hos,hcs⟩;unfold getItem
 try with_reducible refine wpAny_holding ?_
 first|refine wpAny_bind (wpAny_pure ?_)|skip
 refine wpAny_bind (wpAny_sequenceKey ht.typeIs (by decide) ?_);refine wpAny_bind (wpAny_callSpecial?_slot (name:=Str.ofString "__getitem__") ht.typeIs PyProof.Rows.slot_tuple_getitem
  (wpAny_call_entry PyProof.Rows.slot_tuple_getitem ht.typeIs entry_tuple_getitem ?_ (args_tuple_getitem _ _)))
 show wpAny _ _ (Builtin.Tuple.tupleItemsOf (.ref t) >>= _) _ _ s;refine wpAny_bind (tupleItemsOf_ ht ?_);refine wpAny_bind (wpAny_typeOf hTs ?_);rw[if_pos (by decide)];refine wpAny_bind (Zcr (n:=its.toArray.size) hs pl pu ps ?_);have hno : ¬ (((its.toArray.size:Int)-1 == 0&&(-1:Int) == 1&&its.toArray.size == its.toArray.size)=true):=by
  intro q;rw[Bool.and_eq_true,Bool.and_eq_true] at q;exact absurd q.1.2 (by decide)
 show wpAny _ _ (if((its.toArray.size:Int)-1 == 0&&(-1:Int) == 1&&its.toArray.size == its.toArray.size)=true then _ else _) _ _ s
 have hp:=ZfF its its.length (Nat.le_refl _);rw[List.take_of_length_le (by simp)] at hp;rw[if_neg hno];simp only[List.size_toArray];rw[hp]
 first
  | exact wpAny_bind (m:=Builtin.Tuple.tupleExact _) (wpAny_newObj_type (wpAny_pure ⟨_,rfl,wpAny_pure h⟩) hok)
  | exact wpAny_bind (m:=Builtin.Tuple.tupleExact _) (wpAny_newObj_type (wpAny_bind (wpAny_pure (wpAny_pure ⟨_,rfl,wpAny_pure h⟩))) hok)
  | exact wpAny_bind (wpAny_bind (m:=Builtin.Tuple.tupleExact _) (wpAny_newObj_type (wpAny_pure (wpAny_pure ⟨_,rfl,wpAny_pure h⟩)) hok))
  | exact wpAny_bind (wpAny_bind (m:=Builtin.Tuple.tupleExact _) (wpAny_newObj_type (wpAny_pure ⟨_,rfl,wpAny_pure h⟩) hok))
end
end HT
namespace L2
open PySem PySem.Spec PyProof.Rows
mutual
inductive Dp(K:PySem.W.Frag)(H:Hp):V->PyData->Prop
 | non:Dp K H .non .none
 | bl (b:Bool):Dp K H (.bl b) (.bool b)
 | int (i:Int):Dp K H (.int i) (.int i)
 | str (x:Str):Dp K H (.str x) (.str x)
 | lst {a:Addr} {xs:List V} {ds:List PyData}:SqL K H a xs->DpAll K H xs ds->Dp K H (.ref a) (.list ds)
 | tup {a:Addr} {xs:List V} {ds:List PyData}:SqT K H a xs->DpAll K H xs ds->Dp K H (.ref a) (.tuple ds)
inductive DpAll(K:PySem.W.Frag)(H:Hp):List V->List PyData->Prop
 | nil:DpAll K H [] []
 | cons {v:V} {vs:List V} {d:PyData} {ds:List PyData}:Dp K H v d->DpAll K H vs ds->DpAll K H (v::vs) (d::ds)
end
section
variable{X:Cx}{pins:List (Addr×Obj)}{σ : St}{H:Hp}{s:Shared}
mutual
theorem Dp.reads(I:Inv X pins σ H s):∀{v:V}{d:PyData}{u:Value},Dp X.K H v d->RelV v u->∃as,Reads s.heap u d as
 | _,_,u,.non,r=>by
  obtain rfl:u=Value.none:=r;exact⟨_,.none⟩
 | _,_,u,.bl b,r=>by
  obtain rfl:u=Value.bool b:=r;exact⟨_,.bool b⟩
 | _,_,_,.int i,⟨t,e⟩=>by
  subst e;exact⟨_,.int i t⟩
 | _,_,_,.str x,⟨t,e⟩=>by
  subst e;exact⟨_,.str x t⟩
 | _,_,u,@Dp.lst _ _ a xs ds hq hall,r=>by
  obtain rfl:u=Value.ref a:=r;obtain⟨its,rv,⟨o,n,e,hc,_,hd⟩,_⟩:=I.list hq;obtain⟨as,ha⟩:=DpAll.reads I hall rv;exact⟨_,.list e hc hd (by simpa using ha)⟩
 | _,_,u,@Dp.tup _ _ a xs ds hq hall,r=>by
  obtain rfl:u=Value.ref a:=r;obtain⟨its,rv,⟨o,e,hc,n,hd⟩,_⟩:=I.tuple hq;obtain⟨as,ha⟩:=DpAll.reads I hall rv;exact⟨_,.tuple e hc hd (by simpa using ha)⟩
theorem DpAll.reads(I:Inv X pins σ H s):∀{vs:List V}{ds:List PyData}{us:List Value},DpAll X.K H vs ds->Vals vs us->∃as,ReadsAll s.heap us ds as
 | _,_,_,.nil,.nil=>⟨_,.nil⟩
 | _,_,_,.cons h t,.cons r rs=>by
  obtain⟨as,ha⟩:=Dp.reads I h r;obtain⟨bs,hb⟩:=DpAll.reads I t rs;exact⟨_,.cons ha hb⟩
end
end
section
variable{X:Cx}
def Zk7(K:PySem.W.Frag)(neg:Bool):R2:=fun x y H Q=>∃d e,Dp K H x d/\Dp K H y e/\d.canLay0=true/\e.canLay0=true/\min d.depth e.depth<=200/\Q (.bl (if neg then !PyData.eqv d e else PyData.eqv d e)) H
theorem ZfN(hu:X.A.units+200<cLine):OpR X (compareOp .Eq) (Zk7 X.K false):=by
 intro pins s σ H x y v u Q I rx ry h;obtain⟨d,e,hx,hy,h1,h2,hd,q⟩:=h;obtain⟨as,ra⟩:=hx.reads I rx;obtain⟨bs,rb⟩:=hy.reads I ry;exact PySem.SeqAt.compareEq_reads ra rb h1 h2 (by lia) ⟨.bl _,H,I,rfl,q⟩
theorem ZkR(hu:X.A.units+200<cLine):OpR X (compareOp .NotEq) (Zk7 X.K true):=by
 intro pins s σ H x y v u Q I rx ry h;obtain⟨d,e,hx,hy,h1,h2,hd,q⟩:=h;obtain⟨as,ra⟩:=hx.reads I rx;obtain⟨bs,rb⟩:=hy.reads I ry;exact PySem.SeqAt.compareNe_reads ra rb h1 h2 (by lia) ⟨.bl _,H,I,rfl,q⟩
theorem Zb4{A:Around}{k:Nat}(hr:Room k A):A.units+200<cLine:=by
 have:=hr.un;lia
end
section
variable{X:Cx}{e:Expr}{te:TE}{pos p2 p3 p4:Pos}{j:Nat}
def ZlD(K:PySem.W.Frag):V->Hp->VK->Prop:=fun x H Q=>∃a xs,x=.ref a/\SqT K H a xs/\∀p,H p=none->Q (.ref p) (upd H p (.tup xs.reverse))
theorem Zhy(he:PE X e te):PE X (.Subscript e (.Slice none none (some (.UnaryOp .USub (.Constant (.int 1) j p4) p3)) p2) pos) (tUn (ZlD X.K) te):=by
 intro pins s σ H Q I h;refine Subscript_ (thn (he pins s σ H _ I h) fun v s1 ⟨x,H1,I1,r1,q1⟩=>?_);obtain⟨a,xs,rfl,hx,q⟩:=q1;cases r1;refine wpAny_Slice (thn (Ze5 pins s1 σ H1 (fun o H'=>o=none/\H'=H1) I1 ⟨rfl,rfl⟩) fun vl s2 ⟨l,H2,I2,pl,el,eh⟩=>?_);subst el eh;refine thn (Ze5 pins s2 σ H2 (fun o H'=>o=none/\H'=H2) I2 ⟨rfl,rfl⟩) fun vu s3 ⟨u,H3,I3,pu,el,eh⟩=>?_;subst el eh;refine thn (Zht (Zg6 Zeu Ze) pins s3 σ H3 (fun o H'=>o=some (-1)/\H'=H3) I3 ⟨1,rfl,-1,rfl,rfl,rfl⟩) fun vt s4 ⟨o,H4,I4,pt,el,eh⟩=>?_;subst el eh;have I5:Inv X pins σ H4 { s4 with heap:=s4.heap.push { cls:=.type "slice",data:=.fields #[vl,vu,vt] } }:=I4.kept (t':=s4.toks) fun b ob q=>Heap.get?_push_of_some _ q;obtain⟨its,r,ht,hz⟩:=I5.tuple hx;have hlen:=r.length;show wpAny (model X.prog X.w) X.A (subscriptTail e (.Slice none none (some (.UnaryOp .USub (.Constant (.int 1) j p4) p3)) p2) (.ref a) (.ref s4.heap.objs.size)) (EP X pins σ Q) X.xe { s4 with heap:=s4.heap.push { cls:=.type "slice",data:=.fields #[vl,vu,vt] } };refine tail_any (ops:=[.ref a,.ref s4.heap.objs.size]) ht.typeIs PyProof.Rows.slot_tuple_getitem.lookup (HT.Zb1 ht (Heap.IsSliceOf.new ..) pl pu pt ?_ (by lia)) (by with_unfolding_all rfl)
 refine⟨.ref _,_,I5.laid (t':=s4.toks) (o:=.tup xs.reverse) (fun b ob q=>Heap.get?_push_of_some _ q) (Nat.le_refl _) ?_,rfl,q _ (I5.hok.fresh (Nat.le_refl _))⟩;exact⟨by rw[List.length_reverse];exact hz,_,r.reverse,IsTup.new _ _⟩
end
def TK(H H':Hp):Prop := ∀b xs,H b=some (.tup xs)->H' b=some (.tup xs)
theorem TK.trans{H H1 H2:Hp}(a:TK H H1)(b:TK H1 H2):TK H H2:=fun c xs h=>b c xs (a c xs h)
theorem TK.new{H:Hp}{p:Addr}{o:HO}(h:H p=none):TK H (upd H p o):=fun b xs q=>by
 rw[Zh (Zm q h)];exact q
theorem TK.lst{H:Hp}{p:Addr}{xs:List V}{o:HO}(h:H p=some (.lst xs)):TK H (upd H p o):=fun b ys q=>by
 by_cases e:b=p
 ·subst e;rw[h] at q;cases q
 ·rw[Zh e];exact q
theorem Zi.tk{H H':Hp}(h:Zi H H'):TK H H':=fun b xs q=>h b _ q
theorem Zi.new{H:Hp}{p:Addr}{o:HO}(h:H p=none):Zi H (upd H p o):=fun b u q=>by
 rw[Zh (Zm q h)];exact q
theorem Zi.upd_new{H H':Hp}{p:Addr}{o:HO}(h:Zi H H')(hp:H p=none):Zi H (upd H' p o):=fun b u q=>by
 rw[Zh (Zm q hp)];exact h b u q
theorem Zi.seqT{K:PySem.W.Frag}{H H':Hp}{a:Addr}{xs:List V}(e:Zi H H')(h:SqT K H a xs):SqT K H' a xs:=by
 rcases h with(h|⟨o,h⟩)|h
 ·exact .inl (.inl (e _ _ h))
 ·exact .inl (.inr ⟨o,e _ _ h⟩)
 ·exact .inr h
theorem ZaG{H:Hp}{p b:Addr}{o:HO}(h:upd H p o b=none):b≠p/\H b=none:=by
 by_cases e:b=p
 ·subst e;rw[Zb] at h;cases h
 ·rw[Zh e] at h;exact⟨e,h⟩
theorem cut{X:Cx}{body:List Stmt}{D:Ends}{σ : St}{H:Hp}(n:Nat)(R:St->Hp->Prop)(h2:∃u,PSs X (body.drop n) u/\∀ σ' H',R σ' H'->u D σ' H')
  (h1:∀u,PSs X (body.drop n) u->(∀ σ' H',R σ' H'->u D σ' H')->∃t,PSs X body t/\t D σ H):∃t,PSs X body t/\t D σ H :=
 let ⟨u,a,b⟩:=h2
 h1 u a b
section
variable{X:Cx}
theorem Zed(hu:X.A.units+200<cLine):OpR X (compareOp .Eq) (fun x y H Q=>∃a xs z,x=.ref a/\y=.str z/\SqT X.K H a xs/\Q (.bl false) H):=by
 intro pins s σ H x y v u Q I rx ry h;obtain⟨a,xs,z,rfl,rfl,hx,q⟩:=h;cases rx;obtain⟨t,rfl⟩:=ry;obtain⟨its,r,⟨o,e,hc,n,hd⟩,_⟩:=I.tuple hx;exact PySem.SeqAt.RcAt.tuple_str z t ⟨o,e,hc,n,hd⟩ (by lia) X.prog X.w X.xe _ ⟨.bl false,H,I,rfl,q⟩
theorem ZjK(hu:X.A.units+200<cLine):OpR X (compareOp .Eq) (fun x y H Q=>(∃a xs z,x=.ref a/\y=.str z/\SqT X.K H a xs/\Q (.bl false) H)\/rEq x y H Q):=(Zed hu).or Zco
end
theorem Paired.app{α β : Type}{F : α -> β -> Prop}:∀{l₁ k₁ : List α}{l₂ k₂ : List β},Paired F l₁ l₂ -> Paired F k₁ k₂ -> Paired F (l₁ ++ k₁) (l₂ ++ k₂)
 | _,_,_,_,.nil,s=>s
 | _,_,_,_,.cons r t,s=>.cons r (Paired.app t s)
theorem Paired.unsnoc{α β : Type}{F : α -> β -> Prop}:∀{l:List α}{a : α}{l₂ : List β},Paired F (l ++ [a]) l₂ -> ∃k b,l₂ = k ++ [b]/\Paired F l k/\F a b
 | [],_,_,.cons r .nil=>⟨[],_,rfl,.nil,r⟩
 | x::l,a,_,.cons r t=>by
  obtain⟨k,b,e,p,f⟩:=Paired.unsnoc (l:=l) t;exact⟨_::k,b,by rw[e];rfl,.cons r p,f⟩
theorem Zj4{α : Type}{l:List α}(h:l ≠ []):∃k a,l=k ++ [a]:=⟨l.dropLast,l.getLast h,(List.dropLast_concat_getLast h).symm⟩
theorem Zem{α : Type}(l:List α)(a : α):(l ++ [a])[(l ++ [a]).length-1]?= some a:=by
 simp
theorem ZeB{α : Type}(l:List α)(a : α):(l ++ [a]).dropLast=l:=by
 simp
end L2
namespace Fg
open PySem L2 FgM
abbrev SL:Str := "/"
inductive RepG(H:Hp):List V->Gr Str->Prop
 | nil:RepG H [] .nil
 | cons {p q:Addr} {t:Str} {ys vs:List V} {w o:Gr Str}:H p=some (.tup [.str t,.ref q])->H q=some (.tup ys)->RepG H ys w->RepG H vs o->RepG H (.ref p::vs) (.cons t w o)
theorem RepG.mono{H H':Hp}(k:TK H H'):∀{vs:List V}{g:Gr Str},RepG H vs g->RepG H' vs g
 | _,_,.nil=>.nil
 | _,_,.cons h1 h2 h3 h4=>.cons (k _ _ h1) (k _ _ h2) (h3.mono k) (h4.mono k)
theorem RepG.length{H:Hp}:∀{vs:List V}{g:Gr Str},RepG H vs g->vs.length<=(words SL g).length
 | _,_,.nil=>Nat.le_refl _
 | _,_,.cons _ _ _ d=>by
  have:=d.length;simp only[List.length_cons,words,List.length_append];lia
def ZjS(H:Hp)(v:V):Item Str->Prop
 | none=>v=.str SL
 | some (t,w)=>∃p q ys,v=.ref p/\H p=some (.tup [.str t,.ref q])/\H q=some (.tup ys)/\RepG H ys w
theorem ZjS.mono{H H':Hp}(k:TK H H'){v:V}:∀{x:Item Str},ZjS H v x->ZjS H' v x
 | none,h=>h
 | some _,⟨p,q,ys,e,a,b,c⟩=>⟨p,q,ys,e,k _ _ a,k _ _ b,c.mono k⟩
theorem RepG.items{H:Hp}:∀{vs:List V}{g:Gr Str},RepG H vs g->Paired (ZjS H) vs (items g)
 | _,_,.nil=>.nil
 | _,_,.cons a b c d=>.cons ⟨_,_,_,rfl,a,b,c⟩ d.items
theorem Zcb{α β : Type}{F : α -> β -> Prop}:∀{l₁ : List α}{l₂ : List β},Paired F l₁ l₂ -> Paired F l₁.reverse l₂.reverse
 | _,_,.nil=>.nil
 | _,_,.cons r t=>by
  rw[List.reverse_cons,List.reverse_cons];exact Paired.app (Zcb t) (.cons r .nil)
theorem ZbS{H H':Hp}(k:TK H H'){vs:List V}{st:List (Item Str)}(h:Paired (ZjS H) vs st):Paired (ZjS H') vs st:=Paired.mapP h fun _ _ r=>r.mono k
def ZdT(t:Str):Prop:=t.cps.toList ≠ []/\∀c∈t.cps.toList,97<=c/\c<=122
def ZiZ(t:Str):Prop := ∀c∈t.cps.toList,97<=c/\c<=122
theorem Zjr(x y:Str):(x++y).cps.toList=x.cps.toList++y.cps.toList:=by
 show(x.cps++y.cps).toList=_;simp
theorem Zib{x y:Str}(hx:ZiZ x)(hy:ZiZ y):ZiZ (x++y):=fun c hc=>by
 rw[Zjr] at hc;exact(List.mem_append.mp hc).elim (hx c) (hy c)
theorem ZdT.let0{t:Str}(h:ZdT t):ZiZ t:=h.2
theorem Zix{c:Nat}(h1:97<=c)(h2:c<=122):ZdT ⟨#[c]⟩:=⟨by simp,fun d hd=>by simp at hd;lia⟩
theorem ZdT.ne{t:Str}(h:ZdT t):t≠SL:=fun e=>by
 subst e;have:=h.2 47 (by decide);lia
theorem ZiZ.ok{t:Str}(h:ZiZ t):PyData.strOk t=true:=by
 unfold PyData.strOk;rw[Array.all_eq_true_iff_forall_mem];intro c hc;have:=h c (by simpa using hc);exact decide_eq_true (by lia)
theorem Zlk:PyData.strOk SL=true:=by decide +kernel
def ABC:Str := "abcdefghijklmnopqrstuvwxyz"
theorem ZjP:∀n:_root_.Fin 26,97<=ABC.cps.toList.getD n.val 0/\ABC.cps.toList.getD n.val 0<=122/\n.val<ABC.cps.toList.length:=by decide
theorem ZkN{i:Int}(h0:0<=i)(h1:i<26):∃c,atI ABC.cps.toList i=some c/\97<=c/\c<=122:=by
 obtain⟨n,rfl⟩:=Int.eq_ofNat_of_zero_le h0;obtain⟨a,b,c⟩:=ZjP ⟨n,by lia⟩;refine⟨_,Zbb (List.getElem?_eq_getElem c),?_,?_⟩
 ·rw[List.getD_eq_getElem?_getD,List.getElem?_eq_getElem c] at a;exact a
 ·rw[List.getD_eq_getElem?_getD,List.getElem?_eq_getElem c] at b;exact b
theorem Zj3{ns:List Int}{k:Int}(h0:0<=k)(h:k<(ns.length:Int)):∃v:Int,atI (ns.map V.int) k=some (.int v):=by
 obtain⟨n,rfl⟩:=Int.eq_ofNat_of_zero_le h0;have hn:n<ns.length:=by lia
 exact⟨ns[n],Zbb (by rw[List.getElem?_map,List.getElem?_eq_getElem hn];rfl)⟩
def Zfr(K:PySem.W.Frag):Sp:=fun vs H Q _=>∃(a:Addr)(xs:List V)(g:Gr Str),vs=[.ref a]/\SqT K H a xs/\RepG H xs g/\(words SL g).length<=1000 /\
 ∀(r:Addr)(H':Hp),Zi H H'->H r=none->H' r=some (.lst ((words SL g).map V.str))->Q (.ref r) H'
theorem ZcQ{n:Nat}(h:n<=100000):n<=sizeLine:=Nat.le_trans h (by decide)
theorem Zz{n:Nat}(h:n<=100000):n<sizeLine:=Nat.lt_of_le_of_lt h (by decide)
theorem Zjs(x y:Str):(x++y).length=x.length+y.length:=by
 show(x.cps++y.cps).size=_;rw[Array.size_append];rfl
theorem ZbF{K:PySem.W.Frag}{H:Hp}:∀ws:List Str,DpAll K H (ws.map V.str) (ws.map PyData.str)
 | []=>.nil
 | w::ws=>.cons (.str w) (ZbF ws)
theorem ZbZ:∀{ws:List Str},(∀w∈ws,PyData.strOk w=true)->PyData.canLayAll0 (ws.map PyData.str)=true
 | [],_=>rfl
 | w::ws,h=>by
  show(PyData.strOk w&&PyData.canLayAll0 (ws.map PyData.str))=true;rw[h w (List.mem_cons_self ..),ZbZ fun x hx=>h x (List.mem_cons_of_mem _ hx)];rfl
theorem Za4:∀ws:List Str,PyData.depthAll (ws.map PyData.str)=0
 | []=>rfl
 | w::ws=>by
  show max (PyData.depth (.str w)) (PyData.depthAll (ws.map PyData.str))=0;rw[Za4 ws];rfl
theorem ZiS(xs:List V)(n:Nat):Zjk xs none (some (n:Int))=xs.take n:=by
 unfold Zjk;rw[HT.Zj9,HT.Zic,List.drop_zero,Nat.sub_zero];by_cases h:n<=xs.length
 ·rw[Nat.min_eq_left h]
 ·rw[Nat.min_eq_right (by lia),List.take_length,List.take_of_length_le (by lia)]
end Fg
namespace L2
open PySem PySem.Spec PyProof.Rows
section
variable{X:Cx}
theorem ZbL(hu:X.A.units+200<cLine):OpR X (compareOp .NotEq) (fun x y H Q=>∃a b xs,x=.ref a/\y=.ref b/\SqL X.K H a xs/\SqL X.K H b []/\Q (.bl (!xs.isEmpty)) H):=by
 intro pins s σ H x y v u Q I rx ry h;obtain⟨a,b,xs,rfl,rfl,ha,hb,q⟩:=h;cases xs with
 | nil=>exact ZkR hu pins s σ H _ _ v u Q I rx ry ⟨.list [],.list [],.lst ha .nil,.lst hb .nil,rfl,rfl,by decide,q⟩
 | cons x xs =>
  cases rx;cases ry;obtain⟨its,r,pl,_⟩:=I.list ha;obtain⟨its2,r2,pl2,_⟩:=I.list hb;have l1:=r.length;have l2:=r2.length;refine PySem.SeqAt.RcNeAt.lists_lengths pl.isList pl2.isList ?_ (by lia) X.prog X.w X.xe _ ⟨.bl _,H,I,rfl,q⟩;rw[List.size_toArray,List.size_toArray,<- l1,<- l2];rfl
end
end L2
namespace Fg
open PySem L2 FgM
def cs(x:Str):List Nat:=x.cps.toList
theorem ZkE{x y:Str}(h:cs x=cs y):x=y:=by
 cases x with
 | mk a =>
  cases y with
  | mk b=>exact congrArg Str.mk (Array.toList_inj.mp h)
theorem Zbc{sl:Str}:∀{g h:Gr Str}{r s:List Str},ZeT sl g->ZeT sl h->(r=[]\/∃r',r=sl::r')->(s=[]\/∃s',s=sl::s')->words sl g++r=words sl h++s->g=h/\r=s
 | .nil,.nil,_,_,_,_,_,_,e=>⟨rfl,e⟩
 | .nil,.cons t w o,r,s,_,hh,hr,_,e=>by
  rcases hr with rfl|⟨r',rfl⟩
  ·exact nomatch e
  ·have e':sl::r'=t::(words sl w++sl::words sl o++s):=by simpa[words] using e
   exact absurd (List.cons.inj e').1.symm hh.1
 | .cons t w o,.nil,r,s,hg,_,_,hs,e=>by
  rcases hs with rfl|⟨s',rfl⟩
  ·exact nomatch e
  ·have e':t::(words sl w++sl::words sl o++r)=sl::s':=by simpa[words] using e
   exact absurd (List.cons.inj e').1 hg.1
 | .cons t w o,.cons t' w' o',r,s,hg,hh,hr,hs,e=>by
  have e':t::(words sl w++(sl::(words sl o++r)))=t'::(words sl w'++(sl::(words sl o'++s))):=by simpa[words] using e
  obtain⟨e1,e2⟩:=List.cons.inj e';obtain⟨e3,e4⟩:=Zbc hg.2.1 hh.2.1 (.inr ⟨_,rfl⟩) (.inr ⟨_,rfl⟩) e2;obtain⟨_,e5⟩:=List.cons.inj e4;obtain⟨e6,e7⟩:=Zbc hg.2.2 hh.2.2 hr hs e5;exact⟨by rw[e1,e3,e6],e7⟩
theorem ZgV{sl:Str}{g h:Gr Str}(hg:ZeT sl g)(hh:ZeT sl h)(e:words sl g=words sl h):g=h :=
 (Zbc (r:=[]) (s:=[]) hg hh (.inl rfl) (.inl rfl) (by simpa using e)).1
end Fg
namespace L2
open PySem PySem.Spec PyProof.Rows
section
variable{prog:Program}{w:World}{A:Around}{s:Shared}{R:Result->Shared->Prop}
abbrev no0:Value->Shared->Prop:=fun _ _=>False
theorem Zgz{elt target iter:Expr}{scope:Scope}{pos:Pos}{it acc:Value}{env:Env}(I:Nat->Shared->Prop)
  (turn:∀n s,I n s->wpAny (model prog w) A (pyNext it) (fun r s1=>match r with
   | none=>R (.ok .next) s1
   | some v=>wpAny (model prog w) A (letOwnedTupleGo target it v) (fun _ s2=>wpAny (model prog w) A (assign target env v) (fun _ s3=>wpAny (model prog w) A (eval elt env) (fun x s4 =>
     wpAny (model prog w) A (call (.builtin "list.append") [acc,x]) (fun _ s5=>∃m,m<n/\I m s5) no0 s4) no0 s3) no0 s2) no0 s1) no0 s)
  (n:Nat) (h:I n s):codeAny (model prog w) A (.compLoop (.ListComp elt [⟨target,iter,[],0⟩] scope pos) 0 it acc env) R s:=by
 refine codeAny_loop rfl I (fun n s hI=>?_) n h;show wpAny _ _ ((compTurn (.ListComp elt [⟨target,iter,[],0⟩] scope pos) 0 it acc env).onRaise (fun x=>do noteFrame x env;theTreesLotGoes x)) _ _ s;refine wpAny_noted ?_;rw[compTurn_list1];refine wpAny_bind (wpAny_standAt (wpAny_bind (wpAny_mono (turn n s hI) (fun r s1 h1=>?_) fun _ _ h'=>h'.elim)));cases r with
 | none=>exact wpAny_pure h1
 | some v =>
  refine wpAny_bind (wpAny_mono h1 (fun _ s2 h2=>?_) fun _ _ h'=>h'.elim);refine wpAny_bind (wpAny_mono h2 (fun _ s3 h3=>?_) fun _ _ h'=>h'.elim);refine wpAny_bind (wpAny_bind (wpAny_mono h3 (fun x s4 h4=>?_) fun _ _ h'=>h'.elim));exact wpAny_bind (wpAny_mono h4 (fun _ s5 h5=>wpAny_pure (wpAny_pure ⟨rfl,h5⟩)) fun _ _ h'=>h'.elim)
end
def Z6(X:Cx)(N:List Str)(scope:Scope)(cl:List (Str×Addr))(C:Addr)(fp:List Addr)(s:Shared)(H:Hp):Cx where
 prog:=X.prog
 w:=X.w
 K:=X.K
 mg:=X.mg
 base:=X.base
 A:=X.A
 N:=N
 s₀ := s
 H₀ := H
 env:=compEnvC scope cl C X.env
 outer:=X.stack
 stack:=X.stack
 ex:=fp
 fn:=fun _=>false
 calm:=X.calm
 pn:=[]
 xe:=no0
section
variable{X:Cx}{pins:List (Addr×Obj)}{σ : St}{H:Hp}{s:Shared}
theorem ZhL{N:List Str}{scope:Scope}{cl:List (Str×Addr)}{C:Addr}{fp:List Addr}(I:Inv X pins σ H s)(hk:scope.kind=.function)(hC:s.heap.objs.size<=C)(hcl:∀x c,cl.lookup x=some c->X.env.cells.lookup x=some c)
  (hhas:∀x,((compEnvC scope cl C X.env).kindOf x=some .cell\/(compEnvC scope cl C X.env).kindOf x=some .free)->∃c,cl.lookup x=some c)
  (hf:∀b∈fp,Za0 X pins H b) (hlt:∀b∈fp,b<s.heap.objs.size):(Z6 X N scope cl C fp s H).Ok where
 mod:=I.ok.mod
 kind:=hk
 glob:=I.ok.glob
 blt:=I.ok.blt
 above:=hC
 inj:=fun x y c e1 e2=>I.ok.inj x y c (hcl x c e1) (hcl y c e2)
 has:=hhas
 cab:=fun x c e=>by cases e
 hd:=I.ok.hd
 frames:=I.ok.frames
 stk:=.inl rfl
 exf:=fun b hb=>⟨fun z=>absurd (Nat.lt_of_lt_of_le (hlt b hb) hC) (by rw[show b=C from z];exact Nat.lt_irrefl _),fun x c e=>(hf b hb).2.2.2.2.1 x c (hcl x c e)⟩
 bs:=fun b o e=>⟨(I.bs b o e).1,(I.bs b o e).2⟩
 bsz:=Nat.le_trans I.ok.bsz I.sz
 noex:=fun b o e hb=>by
  rcases(hf b hb).2.2.2.1 with z|z
  ·exact I.ok.noex b o e z
  ·exact absurd (Nat.lt_of_lt_of_le (Heap.lt_size e) (Nat.le_trans I.ok.bsz z)) (Nat.lt_irrefl _)
 exfs:=fun b hb hm=>by
  rcases List.mem_cons.mp (I.stkSub b hm) with z|z
  ·exact(hf b hb).2.1 z
  ·exact(hf b hb).2.2.1 z
 funs:=I.stack
 frf:=I.stkFree
def capσ(σ : St)(k:Nat)(cap:List (Str×Nat)):St:=List.replicate k none++cap.map fun p=>(σ[p.2]?).getD none
theorem Zci{scope:Scope}{cl:List (Str×Addr)}{fp:List Addr}{tn:List Str}{cap:List (Str×Nat)}{h1:Heap}(I:Inv X pins σ H s)(hk:scope.kind=.function)(hcl:∀x c,cl.lookup x=some c->X.env.cells.lookup x=some c)
  (hhas:∀x,((compEnvC scope cl s.heap.objs.size X.env).kindOf x=some .cell\/(compEnvC scope cl s.heap.objs.size X.env).kindOf x=some .free)->∃c,cl.lookup x=some c)
  (hf:∀b∈fp,Za0 X pins H b) (hlt:∀b∈fp,b<s.heap.objs.size)
  (hcap:∀p∈cap,X.N[p.2]?= some p.1/\X.env.scope.names.lookup p.1=some .cell/\((compEnvC scope cl s.heap.objs.size X.env).kindOf p.1=some .cell\/(compEnvC scope cl s.heap.objs.size X.env).kindOf p.1=some .free))
  (hns:h1.Ns s.heap.objs.size (fun _=>none)) (hkp:∀b o,s.heap.get? b=some o->h1.get? b=some o) :
  Inv (Z6 X (tn++cap.map (·.1)) scope cl s.heap.objs.size fp s H) [] (capσ σ tn.length cap) H { s with heap:=h1 } where
 ok:=ZhL I hk (Nat.le_refl _) hcl hhas hf hlt
 os:=rfl
 bare:=I.bare
 base:=Un.kept hkp
 loc:=by
  refine⟨fun _=>none,hns,fun i x v e1 e2 hv=>?_⟩;unfold capσ at e2;by_cases hi:i<tn.length
  ·rw[List.getElem?_append_left (by rw[List.length_replicate];exact hi),List.getElem?_replicate,if_pos hi] at e2;cases e2
  ·have hN:(cap.map (·.1))[i-tn.length]?= some x:=by
    have:(tn++cap.map (·.1))[i]?= some x:=e1;rw[List.getElem?_append_right (by lia)] at this;exact this
   rw[List.getElem?_append_right (by rw[List.length_replicate];lia),List.length_replicate,List.getElem?_map] at e2;rw[List.getElem?_map] at hN;cases hp:cap[i-tn.length]? with
   | none=>rw[hp] at hN;cases hN
   | some p =>
    rw[hp] at hN e2;have hx:p.1=x:=Option.some.inj hN;have he:(σ[p.2]?).getD none=some v:=Option.some.inj e2;obtain⟨c1,c2,c3⟩:=hcap p (List.mem_of_getElem? hp);subst hx;have hs : σ[p.2]?= some (some v):=by
     cases q : σ[p.2]? with
     | none=>rw[q] at he;cases he
     | some z=>rw[q] at he;rw[show z=some v from he]
    obtain⟨m,hn,hl⟩:=I.loc;obtain⟨u,r,l⟩:=hl p.2 p.1 v c1 hs (.inr (.inl c2));refine⟨u,r,.inr ⟨c3,?_⟩⟩;obtain⟨c,hc⟩:=hhas p.1 c3;refine⟨c,hc,?_⟩;rcases l with⟨l1,_⟩|⟨_,c',l2,o,ho,hd⟩
    ·have:X.env.kindOf p.1=some .cell:=c2;rw[this] at l1;cases l1
    ·have:c=c':=Option.some.inj ((hcl p.1 c hc).symm.trans l2);subst this;exact⟨o,hkp _ _ ho,hd⟩
 cell:=fun x c e=>by
  obtain⟨v,o,ho,hd⟩:=I.cell x c (hcl x c e);exact⟨v,o,hkp _ _ ho,hd⟩
 free:=I.hok.fresh (Nat.le_refl _)
 freeC:=fun x c e=>I.freeC x c (hcl x c e)
 pin:=fun p hp=>by cases hp
 hok:=I.hok.kept hkp
 len:=by
  unfold capσ;show _=(tn++cap.map (·.1)).length;rw[List.length_append,List.length_append,List.length_replicate,List.length_map,List.length_map]
end
def ZkY(wi:TI)(k:Nat)(cap:List (Str×Nat))(g:TG)(te:TE):TE:=fun σ H Q=>wi σ H fun J H1=>∀p,H1 p=none->∃W:Nat->Nat->List V->St->Hp->Prop,(∃m,W 0 m [] (capσ σ k cap) (upd H1 p (.lst []))) /\
 ∀i m ys σc H2,W i m ys σc H2->H2 p=some (.lst ys)/\((J.stop i H2/\Q (.ref p) H2)\/(J.go i H2/\∀x H3,J.yld i H2 x H3->g x σc H3 fun σ3 H4=>te σ3 H4 fun v H5 =>
  H5 p=some (.lst ys)/\ys.length<sizeLine/\∃m',m'<m/\W (i+1) m' (ys ++ [v]) σ3 (upd H5 p (.lst (ys ++ [v])))))
section
variable{X:Cx}{elt iter tg:Expr}{scope:Scope}{pos:Pos}{wi:TI}{g:TG}{te:TE}{cl:List (Str×Addr)}
theorem Zdk{pins:List (Addr×Obj)}{σ : St}{H2:Hp}{s2:Shared}{it:Addr}{fp:List Addr}{tnn:Nat->Heap->Prop}{J:It}{R:Addr->Hp->Prop}{use:Option (Value->Sem Unit)}{Qp:Value->Shared->Prop}(tn:List Str)(cap:List (Str×Nat))(hg:∀C fp s H,PG (Z6 X (tn++cap.map (·.1)) scope cl C fp s H) tg g)(he:∀C fp s H,PE (Z6 X (tn++cap.map (·.1)) scope cl C fp s H) elt te)(hc:X.calm=true)(hcell:∀y∈scope.names,y.2 ≠ .cell)(hk:scope.kind=.function)(hcl:∀x c,cl.lookup x=some c->X.env.cells.lookup x=some c)(hhas:∀C x,((compEnvC scope cl C X.env).kindOf x=some .cell\/(compEnvC scope cl C X.env).kindOf x=some .free)->∃c,cl.lookup x=some c)(hcap:∀C,∀p∈cap,X.N[p.2]?= some p.1/\X.env.scope.names.lookup p.1=some .cell/\((compEnvC scope cl C X.env).kindOf p.1=some .cell\/(compEnvC scope cl C X.env).kindOf p.1=some .free))
  (I2:Inv X pins σ H2 s2) (T:Turn X.prog X.w X.K tg J fp it tnn) (st2:tnn 0 s2.heap) (f2:∀b∈fp,Za0 X pins H2 b) (q2:∀p,H2 p=none->∃W:Nat->Nat->List V->St->Hp->Prop,(∃m,W 0 m [] (capσ σ tn.length cap) (upd H2 p (.lst []))) /\
 ∀i m ys σc H2,W i m ys σc H2->H2 p=some (.lst ys)/\((J.stop i H2/\R p H2)\/(J.go i H2/\∀x H3,J.yld i H2 x H3->g x σc H3 fun σ3 H4=>te σ3 H4 fun v H5=>H5 p=some (.lst ys)/\ys.length<sizeLine/\∃m',m'<m/\W (i+1) m' (ys ++ [v]) σ3 (upd H5 p (.lst (ys ++ [v]))))))
  (hfin:∀(s3:Shared)(H3:Hp),Inv X pins σ H3 s3->(∀b∈fp,Za0 X pins H3 b)->∀(acc:Addr)(σ6:St)(H6:Hp)(s6:Shared),Inv (Z6 X (tn++cap.map (·.1)) scope cl s3.heap.objs.size fp s3 H3) [] σ6 H6 s6->R acc H6->compPost (model X.prog X.w) X.A X.xe use Qp (.ref acc) s3.heap.objs.size (.ok .next) s6) :
  wpAny (model X.prog X.w) X.A (newList []) (fun acc s₃=>wpAny (model X.prog X.w) X.A (newFunctionEnv scope X.env.globals cl [] X.env.qual none Value.none (some X.env)) (fun cenv s₄=>codeAny (model X.prog X.w) X.A (Code.compStart (.ListComp elt [⟨tg,iter,[],0⟩] scope pos) 0 (Value.ref it) acc { cenv with scope:=relabel scope X.env }) (compPost (model X.prog X.w) X.A X.xe use Qp acc cenv.locals) s₄) X.xe s₃) X.xe s2:=by
 have fresh:H2 s2.heap.objs.size=none:=I2.fresh;obtain⟨W,⟨m0,w0⟩,turn⟩:=q2 s2.heap.objs.size fresh;have lt2:∀b∈fp,b<s2.heap.objs.size:=fun b hb=>by
  obtain⟨o,ho,_⟩:=T.obj _ _ st2 b hb;exact Heap.lt_size ho
 have I3:Inv X pins σ (upd H2 s2.heap.objs.size (.lst [])) { s2 with heap:=s2.heap.push { cls:=.type "list",data:=.seq ([]:List Value).toArray } }:=I2.lnew (its:=[]) (t':=s2.toks) .nil (Nat.zero_le _);refine wpAny_newObj_type (wpAny_newFunctionEnv hcell (by intro y hy;simp at hy) (fun h1 hns1 hsb1=>?_) hk);dsimp only at hns1 hsb1 ⊢;generalize hS3:({ s2 with heap:=s2.heap.push { cls:=.type "list",dict:=none,data:=.seq ([]:List Value).toArray } }:Shared)=s3 at I3;have hh3:s2.heap.push { cls:=.type "list",dict:=none,data:=.seq ([]:List Value).toArray }=s3.heap:=by rw[<- hS3]
 rw[hh3] at hns1 hsb1 ⊢;have sz3:s3.heap.objs.size=s2.heap.objs.size+1:=by rw[<- hh3,Heap.size_push]
 have lt3:∀b∈fp,b<s3.heap.objs.size:=fun b hb=>Nat.lt_of_lt_of_le (lt2 b hb) (by rw[sz3];exact Nat.le_succ _);have f3:∀b∈fp,Za0 X pins (upd H2 s2.heap.objs.size (.lst [])) b:=fun b hb=>⟨by rw[Zh (Nat.ne_of_lt (lt2 b hb))];exact(f2 b hb).1,(f2 b hb).2⟩;have keep3:∀b o,s3.heap.get? b=some o->h1.get? b=some o:=fun b o q=>hsb1.extBut b o (Nat.ne_of_lt (Heap.lt_size q)) (Heap.get?_push_of_some _ q);have st3:tnn 0 h1:=T.keep _ _ _ st2 fun b hb o q=>keep3 b o (by rw[<- hh3];exact Heap.get?_push_of_some _ q);have I4:=(Zci (tn:=tn) I3 hk hcl (hhas _) f3 lt3 (hcap _) hns1 keep3).tok (s2.toks+([]:List (Str×Value)).length);have loop:codeAny (model X.prog X.w) X.A (.compLoop (.ListComp elt [⟨tg,iter,[],0⟩] scope pos) 0 (.ref it) (.ref s2.heap.objs.size) (compEnvC scope cl s3.heap.objs.size X.env))
   (compPost (model X.prog X.w) X.A X.xe use Qp (.ref s2.heap.objs.size) s3.heap.objs.size) { s3 with heap:=h1,toks:=s2.toks+([]:List (Str×Value)).length }:=by
  refine Zgz (fun n s'=>∃i ys σ' H',Inv (Z6 X (tn++cap.map (·.1)) scope cl s3.heap.objs.size fp s3 (upd H2 s2.heap.objs.size (.lst []))) [] σ' H' s'/\tnn i s'.heap/\(∀b∈fp,H' b=none)/\W i n ys σ' H') ?_ m0
   ⟨0,[],_,_,I4,st3,fun b hb=>(f3 b hb).1,w0⟩
  rintro n s5 ⟨i,ys,σ5,H5,I5,st5,fr5,w5⟩;obtain⟨hD,alt⟩:=turn i n ys σ5 H5 w5;have stat:∀{H':Hp},(∀b∈fp,H' b=none)->∀b∈fp,Za0 (Z6 X (tn++cap.map (·.1)) scope cl s3.heap.objs.size fp s3 (upd H2 s2.heap.objs.size (.lst []))) [] H' b :=
   fun hn b hb=>⟨hn b hb,(I4.ok.exf b hb).1,I4.ok.exfs b hb,.inl hb,(I4.ok.exf b hb).2,fun p hp=>by cases hp⟩
  rcases alt with⟨stop,qn⟩|⟨go,step⟩
  ·refine thn (T.done (Z6 X (tn++cap.map (·.1)) scope cl s3.heap.objs.size fp s3 (upd H2 s2.heap.objs.size (.lst []))) rfl rfl rfl hc i [] s5 σ5 H5 no0 I5 (stat fr5) st5 stop) fun r s6 ⟨hr,I6⟩=>?_;subst hr;exact hfin s3 _ I3 f3 _ σ5 H5 s6 I6 qn
  ·refine thn (T.item (Z6 X (tn++cap.map (·.1)) scope cl s3.heap.objs.size fp s3 (upd H2 s2.heap.objs.size (.lst []))) rfl rfl rfl hc i [] s5 σ5 H5 no0 I5 (stat fr5) st5 go) fun r s6 ⟨u,hr,h6⟩=>?_;subst hr;refine thn h6 fun _ s7 ⟨x,H7,I7,r7,y7,st7,fr7⟩=>?_;have I7':=I7.pinned (stat fr7) (T.obj _ _ st7);refine thn (hg _ _ _ _ _ s7 σ5 H7 x u _ I7' r7 (step x H7 y7)) fun _ s8 ⟨σ8,H8,I8,q8⟩=>?_;refine thn (he _ _ _ _ _ s8 σ8 H8 _ I8 q8) fun xv s9 ⟨v9,H9,I9,r9,q9⟩=>?_;obtain⟨hD9,hl9,m',hm',w9⟩:=q9;refine thn (ZJ _ s9 σ8 H9 (.ref s2.heap.objs.size) [v9] (.ref s2.heap.objs.size) [xv] (fun z H'=>z=.non/\H'=upd H9 s2.heap.objs.size (.lst (ys ++ [v9]))) I9 rfl (.cons r9 .nil)
    ⟨s2.heap.objs.size,ys,v9,rfl,rfl,hD9,hl9,rfl,rfl⟩) fun z s10 ⟨zv,H10,I10,_,_,eH⟩=>?_
   subst eH;refine⟨m',hm',i+1,ys ++ [v9],σ8,_,I10.unpinned,T.keep _ _ _ st7 fun b hb o q=>(I10.pin (b,o) (List.mem_append_right _ (List.mem_append_right _ (Zau hb q)))).1,fun b hb=>?_,w9⟩;obtain⟨o,q,d⟩:=T.obj _ _ st7 b hb;exact(I10.pin (b,o) (List.mem_append_right _ (List.mem_append_right _ (Zau hb q)))).2.1
 subst hS3;exact codeAny_compStart_list loop (T.self X.A 0 _ _ _ st3 loop)
theorem Zfs(tn:List Str)(cap:List (Str×Nat))(hi:PI X tg iter wi)(hg:∀C fp s H,PG (Z6 X (tn++cap.map (·.1)) scope cl C fp s H) tg g)(he:∀C fp s H,PE (Z6 X (tn++cap.map (·.1)) scope cl C fp s H) elt te)
  (hc:X.calm=true) (hclos:closureFor scope X.env=pure cl) (hcell:∀y∈scope.names,y.2 ≠ .cell) (hk:scope.kind=.function) (hnames:∀y∈scope.names,y.2=.local->scope.names.lookup y.1=some .local)
  (hcl:∀x c,cl.lookup x=some c->X.env.cells.lookup x=some c)
  (hhas:∀C x,((compEnvC scope cl C X.env).kindOf x=some .cell\/(compEnvC scope cl C X.env).kindOf x=some .free)->∃c,cl.lookup x=some c)
  (hcap:∀C,∀p∈cap,X.N[p.2]?= some p.1/\X.env.scope.names.lookup p.1=some .cell/\((compEnvC scope cl C X.env).kindOf p.1=some .cell\/(compEnvC scope cl C X.env).kindOf p.1=some .free))
  (hs:∀v,foldedSetIterable iter X.env v=pure v):PE X (.ListComp elt [⟨tg,iter,[],0⟩] scope pos) (ZkY wi tn.length cap g te):=by
 intro pins s σ H Q I h;rw[eval_ListComp];refine wpAny_comprehension_free (use:=none) rfl hs hclos hk hnames (thn (hi pins s σ H _ I h) fun v s1 h1=>thn h1 fun itv s2 h2=>?_);obtain⟨it,fp,tnn,J,H2,e,I2,T,st2,f2,q2⟩:=h2;subst e;refine Zdk (R:=fun p H6=>Q (.ref p) H6) tn cap hg he hc hcell hk hcl hhas hcap I2 T st2 f2 q2 fun s3 H3 I3 f3 acc σ6 H6 s6 I6 q6=>?_;obtain⟨m,hn,_⟩:=I6.loc;refine⟨m,hn,fun h' sb=>?_⟩;have nC:∀b o,s3.heap.get? b=some o->b≠s3.heap.objs.size:=fun b o q=>Nat.ne_of_lt (Heap.lt_size q);have u:Un (frs X.stack) fp H3 H6 s3.heap h':=by
  have u0:=I6.base;refine⟨fun b o q n hb hx=>(sb.2 b (nC b o q)).trans (u0.keep b o q n hb hx),fun b o q n hb hx=>?_,u0.free,fun b o q hx=>?_,u0.tups,u0.frzs,u0.tbls⟩
  ·obtain⟨sl,e⟩:=u0.slot b o q n hb hx;exact⟨sl,(sb.2 b (nC b o q)).trans e⟩
  ·obtain⟨o',e⟩:=u0.there b o q hx;exact⟨o',(sb.2 b (nC b o q)).trans e⟩
 have free6:H6 s3.heap.objs.size=none:=I6.free;have ok6:HOk X.prog X.w H6 h':=fun b o q=>(I6.hok b o q).stay (fun c v hcv r=>(sb.2 c (by
  rcases hcv with z|z
  ·rw[z];exact Zm q free6
  ·exact Zm z free6)).trans r) (fun _ q=>q) fun _ _ q=>q
 have I':=I3.call (g':=s6.gens) (d':=s6.drawn) (t':=s6.toks) (ch:=fp) u ok6 I6.bare fun b hb=>⟨(f3 b hb).2.2.2.1,(f3 b hb).2.1,(f3 b hb).2.2.2.2.1,(f3 b hb).2.2.2.2.2⟩;have e:({ s6 with heap:=h' }:Shared)= { s3 with heap:=h',gens:=s6.gens,drawn:=s6.drawn,toks:=s6.toks }:=by
  have ho:s6.os=s3.os:=I6.os;obtain⟨a1,a2,a3,a4,a5⟩:=s6;obtain⟨b1,b2,b3,b4,b5⟩:=s3;simp only at ho;subst ho;rfl
 rw[e];exact⟨.ref _,H6,I',rfl,q6⟩
end
section
variable{prog:Program}{w:World}{A:Around}{s:Shared}{R:Result->Shared->Prop}
theorem Zgj{elt ct target iter:Expr}{scope:Scope}{pos:Pos}{it acc:Value}{env:Env}(I:Nat->Shared->Prop)
  (turn:∀n s,I n s->wpAny (model prog w) A (pyNext it) (fun r s1=>match r with
   | none=>R (.ok .next) s1
   | some v=>wpAny (model prog w) A (letOwnedTupleGo target it v) (fun _ s2=>wpAny (model prog w) A (assign target env v) (fun _ s3=>wpAny (model prog w) A (isTrue ct env (eval ct env)) (fun ok s3' =>
     if ok=true then wpAny (model prog w) A (eval elt env) (fun x s4 =>
     wpAny (model prog w) A (call (.builtin "list.append") [acc,x]) (fun _ s5=>∃m,m<n/\I m s5) no0 s4) no0 s3' else ∃m,m<n/\I m s3') no0 s3) no0 s2) no0 s1) no0 s)
  (n:Nat) (h:I n s):codeAny (model prog w) A (.compLoop (.ListComp elt [⟨target,iter,[ct],0⟩] scope pos) 0 it acc env) R s:=by
 refine codeAny_loop rfl I (fun n s hI=>?_) n h;show wpAny _ _ ((compTurn (.ListComp elt [⟨target,iter,[ct],0⟩] scope pos) 0 it acc env).onRaise (fun x=>do noteFrame x env;theTreesLotGoes x)) _ _ s;refine wpAny_noted ?_;rw[compTurn_list];refine wpAny_bind (wpAny_standAt (wpAny_bind (wpAny_mono (turn n s hI) (fun r s1 h1=>?_) fun _ _ h'=>h'.elim)));cases r with
 | none=>exact wpAny_pure h1
 | some v =>
  refine wpAny_bind (wpAny_mono h1 (fun _ s2 h2=>?_) fun _ _ h'=>h'.elim);refine wpAny_bind (wpAny_mono h2 (fun _ s3 h3=>?_) fun _ _ h'=>h'.elim);refine wpAny_bind (wpAny_tests_one (wpAny_mono h3 (fun ok s3' h3'=>?_) fun _ _ h'=>h'.elim));cases ok with
  | true =>
   simp only[if_true] at h3' ⊢;refine wpAny_bind (wpAny_bind (wpAny_mono h3' (fun x s4 h4=>?_) fun _ _ h'=>h'.elim));exact wpAny_bind (wpAny_mono h4 (fun _ s5 h5=>wpAny_pure (wpAny_pure ⟨rfl,h5⟩)) fun _ _ h'=>h'.elim)
  | false =>
   simp only[Bool.false_eq_true,if_false] at h3' ⊢;exact wpAny_pure ⟨rfl,h3'⟩
end
def ZiW(wi:TI)(k:Nat)(cap:List (Str×Nat))(g:TG)(tt:TT)(te:TE):TE:=fun σ H Q=>wi σ H fun J H1=>∀p,H1 p=none->∃W:Nat->Nat->List V->St->Hp->Prop,(∃m,W 0 m [] (capσ σ k cap) (upd H1 p (.lst []))) /\
 ∀i m ys σc H2,W i m ys σc H2->H2 p=some (.lst ys)/\((J.stop i H2/\Q (.ref p) H2)\/(J.go i H2/\∀x H3,J.yld i H2 x H3->g x σc H3 fun σ3 H4=>tt σ3 H4 fun b H4'=>if b=true then te σ3 H4' fun v H5 =>
  H5 p=some (.lst ys)/\ys.length<sizeLine/\∃m',m'<m/\W (i+1) m' (ys ++ [v]) σ3 (upd H5 p (.lst (ys ++ [v])))
  else ∃m',m'<m/\W (i+1) m' ys σ3 H4'))
section
variable{X:Cx}{elt ct iter tg:Expr}{scope:Scope}{pos:Pos}{wi:TI}{g:TG}{tt:TT}{te:TE}{cl:List (Str×Addr)}
theorem Zdi{pins:List (Addr×Obj)}{σ : St}{H2:Hp}{s2:Shared}{it:Addr}{fp:List Addr}{tnn:Nat->Heap->Prop}{J:It}{R:Addr->Hp->Prop}{use:Option (Value->Sem Unit)}{Qp:Value->Shared->Prop}(tn:List Str)(cap:List (Str×Nat))(hg:∀C fp s H,PG (Z6 X (tn++cap.map (·.1)) scope cl C fp s H) tg g)(ht:∀C fp s H,PT (Z6 X (tn++cap.map (·.1)) scope cl C fp s H) ct tt)(he:∀C fp s H,PE (Z6 X (tn++cap.map (·.1)) scope cl C fp s H) elt te)(hc:X.calm=true)(hcell:∀y∈scope.names,y.2 ≠ .cell)(hk:scope.kind=.function)(hcl:∀x c,cl.lookup x=some c->X.env.cells.lookup x=some c)(hhas:∀C x,((compEnvC scope cl C X.env).kindOf x=some .cell\/(compEnvC scope cl C X.env).kindOf x=some .free)->∃c,cl.lookup x=some c)(hcap:∀C,∀p∈cap,X.N[p.2]?= some p.1/\X.env.scope.names.lookup p.1=some .cell/\((compEnvC scope cl C X.env).kindOf p.1=some .cell\/(compEnvC scope cl C X.env).kindOf p.1=some .free))
  (I2:Inv X pins σ H2 s2) (T:Turn X.prog X.w X.K tg J fp it tnn) (st2:tnn 0 s2.heap) (f2:∀b∈fp,Za0 X pins H2 b) (q2:∀p,H2 p=none->∃W:Nat->Nat->List V->St->Hp->Prop,(∃m,W 0 m [] (capσ σ tn.length cap) (upd H2 p (.lst []))) /\
 ∀i m ys σc H2,W i m ys σc H2->H2 p=some (.lst ys)/\((J.stop i H2/\R p H2)\/(J.go i H2/\∀x H3,J.yld i H2 x H3->g x σc H3 fun σ3 H4=>tt σ3 H4 fun b H4'=>if b=true then te σ3 H4' fun v H5=>H5 p=some (.lst ys)/\ys.length<sizeLine/\∃m',m'<m/\W (i+1) m' (ys ++ [v]) σ3 (upd H5 p (.lst (ys ++ [v]))) else ∃m',m'<m/\W (i+1) m' ys σ3 H4')))
  (hfin:∀(s3:Shared)(H3:Hp),Inv X pins σ H3 s3->(∀b∈fp,Za0 X pins H3 b)->∀(acc:Addr)(σ6:St)(H6:Hp)(s6:Shared),Inv (Z6 X (tn++cap.map (·.1)) scope cl s3.heap.objs.size fp s3 H3) [] σ6 H6 s6->R acc H6->compPost (model X.prog X.w) X.A X.xe use Qp (.ref acc) s3.heap.objs.size (.ok .next) s6) :
  wpAny (model X.prog X.w) X.A (newList []) (fun acc s₃=>wpAny (model X.prog X.w) X.A (newFunctionEnv scope X.env.globals cl [] X.env.qual none Value.none (some X.env)) (fun cenv s₄=>codeAny (model X.prog X.w) X.A (Code.compStart (.ListComp elt [⟨tg,iter,[ct],0⟩] scope pos) 0 (Value.ref it) acc { cenv with scope:=relabel scope X.env }) (compPost (model X.prog X.w) X.A X.xe use Qp acc cenv.locals) s₄) X.xe s₃) X.xe s2:=by
 have fresh:H2 s2.heap.objs.size=none:=I2.fresh;obtain⟨W,⟨m0,w0⟩,turn⟩:=q2 s2.heap.objs.size fresh;have lt2:∀b∈fp,b<s2.heap.objs.size:=fun b hb=>by
  obtain⟨o,ho,_⟩:=T.obj _ _ st2 b hb;exact Heap.lt_size ho
 have I3:Inv X pins σ (upd H2 s2.heap.objs.size (.lst [])) { s2 with heap:=s2.heap.push { cls:=.type "list",data:=.seq ([]:List Value).toArray } }:=I2.lnew (its:=[]) (t':=s2.toks) .nil (Nat.zero_le _);refine wpAny_newObj_type (wpAny_newFunctionEnv hcell (by intro y hy;simp at hy) (fun h1 hns1 hsb1=>?_) hk);dsimp only at hns1 hsb1 ⊢;generalize hS3:({ s2 with heap:=s2.heap.push { cls:=.type "list",dict:=none,data:=.seq ([]:List Value).toArray } }:Shared)=s3 at I3;have hh3:s2.heap.push { cls:=.type "list",dict:=none,data:=.seq ([]:List Value).toArray }=s3.heap:=by rw[<- hS3]
 rw[hh3] at hns1 hsb1 ⊢;have sz3:s3.heap.objs.size=s2.heap.objs.size+1:=by rw[<- hh3,Heap.size_push]
 have lt3:∀b∈fp,b<s3.heap.objs.size:=fun b hb=>Nat.lt_of_lt_of_le (lt2 b hb) (by rw[sz3];exact Nat.le_succ _);have f3:∀b∈fp,Za0 X pins (upd H2 s2.heap.objs.size (.lst [])) b:=fun b hb=>⟨by rw[Zh (Nat.ne_of_lt (lt2 b hb))];exact(f2 b hb).1,(f2 b hb).2⟩;have keep3:∀b o,s3.heap.get? b=some o->h1.get? b=some o:=fun b o q=>hsb1.extBut b o (Nat.ne_of_lt (Heap.lt_size q)) (Heap.get?_push_of_some _ q);have st3:tnn 0 h1:=T.keep _ _ _ st2 fun b hb o q=>keep3 b o (by rw[<- hh3];exact Heap.get?_push_of_some _ q);have I4:=(Zci (tn:=tn) I3 hk hcl (hhas _) f3 lt3 (hcap _) hns1 keep3).tok (s2.toks+([]:List (Str×Value)).length);have loop:codeAny (model X.prog X.w) X.A (.compLoop (.ListComp elt [⟨tg,iter,[ct],0⟩] scope pos) 0 (.ref it) (.ref s2.heap.objs.size) (compEnvC scope cl s3.heap.objs.size X.env))
   (compPost (model X.prog X.w) X.A X.xe use Qp (.ref s2.heap.objs.size) s3.heap.objs.size) { s3 with heap:=h1,toks:=s2.toks+([]:List (Str×Value)).length }:=by
  refine Zgj (fun n s'=>∃i ys σ' H',Inv (Z6 X (tn++cap.map (·.1)) scope cl s3.heap.objs.size fp s3 (upd H2 s2.heap.objs.size (.lst []))) [] σ' H' s'/\tnn i s'.heap/\(∀b∈fp,H' b=none)/\W i n ys σ' H') ?_ m0
   ⟨0,[],_,_,I4,st3,fun b hb=>(f3 b hb).1,w0⟩
  rintro n s5 ⟨i,ys,σ5,H5,I5,st5,fr5,w5⟩;obtain⟨hD,alt⟩:=turn i n ys σ5 H5 w5;have stat:∀{H':Hp},(∀b∈fp,H' b=none)->∀b∈fp,Za0 (Z6 X (tn++cap.map (·.1)) scope cl s3.heap.objs.size fp s3 (upd H2 s2.heap.objs.size (.lst []))) [] H' b :=
   fun hn b hb=>⟨hn b hb,(I4.ok.exf b hb).1,I4.ok.exfs b hb,.inl hb,(I4.ok.exf b hb).2,fun p hp=>by cases hp⟩
  rcases alt with⟨stop,qn⟩|⟨go,step⟩
  ·refine thn (T.done (Z6 X (tn++cap.map (·.1)) scope cl s3.heap.objs.size fp s3 (upd H2 s2.heap.objs.size (.lst []))) rfl rfl rfl hc i [] s5 σ5 H5 no0 I5 (stat fr5) st5 stop) fun r s6 ⟨hr,I6⟩=>?_;subst hr;exact hfin s3 _ I3 f3 _ σ5 H5 s6 I6 qn
  ·refine thn (T.item (Z6 X (tn++cap.map (·.1)) scope cl s3.heap.objs.size fp s3 (upd H2 s2.heap.objs.size (.lst []))) rfl rfl rfl hc i [] s5 σ5 H5 no0 I5 (stat fr5) st5 go) fun r s6 ⟨u,hr,h6⟩=>?_;subst hr;refine thn h6 fun _ s7 ⟨x,H7,I7,r7,y7,st7,fr7⟩=>?_;have I7':=I7.pinned (stat fr7) (T.obj _ _ st7);refine thn (hg _ _ _ _ _ s7 σ5 H7 x u _ I7' r7 (step x H7 y7)) fun _ s8 ⟨σ8,H8,I8,q8⟩=>?_;refine thn (ht _ _ _ _ _ s8 σ8 H8 _ I8 q8) fun ok s8' ⟨H8',I8',q8'⟩=>?_;cases ok with
   | true =>
    simp only[if_true] at q8' ⊢;refine thn (he _ _ _ _ _ s8' σ8 H8' _ I8' q8') fun xv s9 ⟨v9,H9,I9,r9,q9⟩=>?_;obtain⟨hD9,hl9,m',hm',w9⟩:=q9;refine thn (ZJ _ s9 σ8 H9 (.ref s2.heap.objs.size) [v9] (.ref s2.heap.objs.size) [xv] (fun z H'=>z=.non/\H'=upd H9 s2.heap.objs.size (.lst (ys ++ [v9]))) I9 rfl (.cons r9 .nil)
     ⟨s2.heap.objs.size,ys,v9,rfl,rfl,hD9,hl9,rfl,rfl⟩) fun z s10 ⟨zv,H10,I10,_,_,eH⟩=>?_
    subst eH;refine⟨m',hm',i+1,ys ++ [v9],σ8,_,I10.unpinned,T.keep _ _ _ st7 fun b hb o q=>(I10.pin (b,o) (List.mem_append_right _ (List.mem_append_right _ (Zau hb q)))).1,fun b hb=>?_,w9⟩;obtain⟨o,q,d⟩:=T.obj _ _ st7 b hb;exact(I10.pin (b,o) (List.mem_append_right _ (List.mem_append_right _ (Zau hb q)))).2.1
   | false =>
    simp only[Bool.false_eq_true,if_false] at q8' ⊢;obtain⟨m',hm',w9⟩:=q8';refine⟨m',hm',i+1,ys,σ8,_,I8'.unpinned,T.keep _ _ _ st7 fun b hb o q=>(I8'.pin (b,o) (List.mem_append_right _ (List.mem_append_right _ (Zau hb q)))).1,fun b hb=>?_,w9⟩;obtain⟨o,q,d⟩:=T.obj _ _ st7 b hb;exact(I8'.pin (b,o) (List.mem_append_right _ (List.mem_append_right _ (Zau hb q)))).2.1
 subst hS3;exact codeAny_compStart_list loop (T.self X.A 0 _ _ _ st3 loop)
theorem ZgA(tn:List Str)(cap:List (Str×Nat))(hi:PI X tg iter wi)(hg:∀C fp s H,PG (Z6 X (tn++cap.map (·.1)) scope cl C fp s H) tg g)(ht:∀C fp s H,PT (Z6 X (tn++cap.map (·.1)) scope cl C fp s H) ct tt)(he:∀C fp s H,PE (Z6 X (tn++cap.map (·.1)) scope cl C fp s H) elt te)
  (hc:X.calm=true) (hclos:closureFor scope X.env=pure cl) (hcell:∀y∈scope.names,y.2 ≠ .cell) (hk:scope.kind=.function) (hnames:∀y∈scope.names,y.2=.local->scope.names.lookup y.1=some .local)
  (hcl:∀x c,cl.lookup x=some c->X.env.cells.lookup x=some c)
  (hhas:∀C x,((compEnvC scope cl C X.env).kindOf x=some .cell\/(compEnvC scope cl C X.env).kindOf x=some .free)->∃c,cl.lookup x=some c)
  (hcap:∀C,∀p∈cap,X.N[p.2]?= some p.1/\X.env.scope.names.lookup p.1=some .cell/\((compEnvC scope cl C X.env).kindOf p.1=some .cell\/(compEnvC scope cl C X.env).kindOf p.1=some .free))
  (hs:∀v,foldedSetIterable iter X.env v=pure v):PE X (.ListComp elt [⟨tg,iter,[ct],0⟩] scope pos) (ZiW wi tn.length cap g tt te):=by
 intro pins s σ H Q I h;rw[eval_ListComp];refine wpAny_comprehension_free (use:=none) rfl hs hclos hk hnames (thn (hi pins s σ H _ I h) fun v s1 h1=>thn h1 fun itv s2 h2=>?_);obtain⟨it,fp,tnn,J,H2,e,I2,T,st2,f2,q2⟩:=h2;subst e;refine Zdi (R:=fun p H6=>Q (.ref p) H6) tn cap hg ht he hc hcell hk hcl hhas hcap I2 T st2 f2 q2 fun s3 H3 I3 f3 acc σ6 H6 s6 I6 q6=>?_;obtain⟨m,hn,_⟩:=I6.loc;refine⟨m,hn,fun h' sb=>?_⟩;have nC:∀b o,s3.heap.get? b=some o->b≠s3.heap.objs.size:=fun b o q=>Nat.ne_of_lt (Heap.lt_size q);have u:Un (frs X.stack) fp H3 H6 s3.heap h':=by
  have u0:=I6.base;refine⟨fun b o q n hb hx=>(sb.2 b (nC b o q)).trans (u0.keep b o q n hb hx),fun b o q n hb hx=>?_,u0.free,fun b o q hx=>?_,u0.tups,u0.frzs,u0.tbls⟩
  ·obtain⟨sl,e⟩:=u0.slot b o q n hb hx;exact⟨sl,(sb.2 b (nC b o q)).trans e⟩
  ·obtain⟨o',e⟩:=u0.there b o q hx;exact⟨o',(sb.2 b (nC b o q)).trans e⟩
 have free6:H6 s3.heap.objs.size=none:=I6.free;have ok6:HOk X.prog X.w H6 h':=fun b o q=>(I6.hok b o q).stay (fun c v hcv r=>(sb.2 c (by
  rcases hcv with z|z
  ·rw[z];exact Zm q free6
  ·exact Zm z free6)).trans r) (fun _ q=>q) fun _ _ q=>q
 have I':=I3.call (g':=s6.gens) (d':=s6.drawn) (t':=s6.toks) (ch:=fp) u ok6 I6.bare fun b hb=>⟨(f3 b hb).2.2.2.1,(f3 b hb).2.1,(f3 b hb).2.2.2.2.1,(f3 b hb).2.2.2.2.2⟩;have e:({ s6 with heap:=h' }:Shared)= { s3 with heap:=h',gens:=s6.gens,drawn:=s6.drawn,toks:=s6.toks }:=by
  have ho:s6.os=s3.os:=I6.os;obtain⟨a1,a2,a3,a4,a5⟩:=s6;obtain⟨b1,b2,b3,b4,b5⟩:=s3;simp only at ho;subst ho;rfl
 rw[e];exact⟨.ref _,H6,I',rfl,q6⟩
end
end L2
namespace PySem.SeqAt
open AutoSeq1 (wpAny_loadPart')
open MeetsSeq MeetsSeq2 MeetsSeq3 SeqRoads2
def Zjh(A:Around)(s:Shared)(y x:Value)(b:Bool):Prop :=
 ∀(prog:Program)(w:World)(E:Value->Shared->Prop)(Q:Value->Shared->Prop),Q (.bool b) s->wpAny (model prog w) A (richCompare .Lt y x) Q E s
inductive LexR(A:Around)(s:Shared):List Value->List Value->Bool->Prop
 | nn:LexR A s [] [] false
 | nc {y:Value} {ys:List Value}:LexR A s [] (y::ys) true
 | cn {x:Value} {xs:List Value}:LexR A s (x::xs) [] false
 | eq {x y:Value} {xs ys:List Value} {b:Bool}:EqAt A s x y true->LexR A s xs ys b->LexR A s (x::xs) (y::ys) b
 | lt {x y:Value} {xs ys:List Value} {b:Bool}:EqAt A s x y false->Zjh A s x y b->LexR A s (x::xs) (y::ys) b
theorem LexR.fin{A:Around}{s:Shared}{xs ys:List Value}{b:Bool}(h:LexR A s xs ys b)(h0:xs=[]\/ys=[]):b=decide (xs.length<ys.length):=by
 cases h with
 | nn=>rfl
 | nc=>simp
 | cn=>simp
 | eq _ _=>rcases h0 with q|q <;> cases q
 | lt _ _=>rcases h0 with q|q <;> cases q
theorem ZhC(l b:Addr)(items items2:Array Value)(n n2:Nat)(dd dd2:Option Addr)(sl sl2:Array (Option Value))(v:Bool)(k:Nat) :
  ∀i:Nat,i+k=min items.size items2.size->Meets (Builtin.«list.__eq__.loop» ⟨[.ref l,.ref b,rawInt i,rawInt 0],[]⟩)
   (fun A R s=>s.heap.get? l=some { cls:=.type "list",dict:=dd,data:=.seq items n,slots:=sl }/\s.heap.get? b=some { cls:=.type "list",dict:=dd2,data:=.seq items2 n2,slots:=sl2 } /\
    LexR A.in1 s (items.toList.drop i) (items2.toList.drop i) v/\R (.ok (.ret (.bool v))) s):=by
 induction k with
 | zero =>
  intro i hk prog w A R s h;obtain⟨hp,g,d,tk,os⟩:=s;obtain⟨hl,hb,he,h⟩:=h;have hv:v=decide (items.size<items2.size):=by
   have h0:items.toList.drop i=[]\/items2.toList.drop i=[]:=by
    rcases Nat.le_total items.size items2.size with q|q
    ·exact .inl (List.drop_of_length_le (by rw[Array.length_toList];lia))
    ·exact .inr (List.drop_of_length_le (by rw[Array.length_toList];lia))
   rw[he.fin h0,List.length_drop,List.length_drop,Array.length_toList,Array.length_toList];by_cases q:items.size<items2.size
   ·rw[decide_eq_true q];exact decide_eq_true (by lia)
   ·rw[decide_eq_false q];exact decide_eq_false (by lia)
  subst hv
  wp_walk using wpAny_loadPart' hl,wpAny_loadPart' hb
  by_cases h1:i<items.size
  ·have hi1:items[((i:Nat):Int).toNat]?= some items[i]:=by simp[h1]
   have hi2:items2[((i:Nat):Int).toNat]?= none:=by simp;lia
   rw[hi1,hi2]
   wp_walk using wpAny_loadPart' hl,wpAny_loadPart' hb
   exact h
  ·have hi1:items[((i:Nat):Int).toNat]?= none:=by simp;lia
   rw[hi1]
   wp_walk using wpAny_loadPart' hl,wpAny_loadPart' hb
   exact h
 | succ k ih =>
  intro i hk prog w A R s h;obtain⟨hp,g,d,tk,os⟩:=s;obtain⟨hl,hb,he,h⟩:=h
  wp_walk using wpAny_loadPart' hl,wpAny_loadPart' hb
  have hlt:i<items.size:=by lia
  have hlt2:i<items2.size:=by lia
  have hi1:items[((i:Nat):Int).toNat]?= some items[i]:=by simp[hlt]
  have hi2:items2[((i:Nat):Int).toNat]?= some items2[i]:=by simp[hlt2]
  have hc:((i:Int)+1)=((i+1:Nat):Int):=by push_cast;rfl
  have d1:items.toList.drop i=items[i]::items.toList.drop (i+1):=by rw[List.drop_eq_getElem_cons (by rw[Array.length_toList];exact hlt)];simp
  have d2:items2.toList.drop i=items2[i]::items2.toList.drop (i+1):=by rw[List.drop_eq_getElem_cons (by rw[Array.length_toList];exact hlt2)];simp
  rw[d1,d2] at he;rw[hi1,hi2];cases he with
  | eq h1 h2 =>
   refine wpAny_bind (h1 prog w _ _ ?_)
   wp_walk
   rw[hc];exact⟨plainId_quiet plain_eq_loop _,codeAny_builtin entry_eq_loop (by
    rw[Around.under_plainId plain_eq_loop _];exact ih (i+1) (by lia) prog w A R _ ⟨hl,hb,h2,h⟩)⟩
  | lt h1 h2 =>
   refine wpAny_bind (h1 prog w _ _ ?_)
   wp_walk using wpAny_loadPart' hl,wpAny_loadPart' hb
   rw[hi1,hi2];refine wpAny_bind (h2 prog w _ _ ?_)
   wp_walk
   exact h
theorem Zhf(l b:Addr)(items items2:Array Value)(n n2:Nat)(dd dd2:Option Addr)(sl sl2:Array (Option Value))(v:Bool) :
  Meets (Builtin.«list.__lt__» ⟨[.ref l,.ref b],[]⟩)
   (fun A R s=>s.heap.get? l=some { cls:=.type "list",dict:=dd,data:=.seq items n,slots:=sl }/\s.heap.get? b=some { cls:=.type "list",dict:=dd2,data:=.seq items2 n2,slots:=sl2 } /\
    LexR A.in1 s items.toList items2.toList v/\R (.ok (.ret (.bool v))) s):=by
 intro prog w A R s h;obtain⟨hp,g,d,tk,os⟩:=s;obtain⟨hl,hb,he,h⟩:=h;have f3:=AutoSeq1.sub_list_list
 wp_walk using wpAny_loadPart' hl,wpAny_loadPart' hb
 exact⟨plainId_quiet plain_eq_loop _,codeAny_builtin entry_eq_loop (by
  rw[Around.under_plainId plain_eq_loop _];exact ZhC l b items items2 n n2 dd dd2 sl sl2 v _ 0 (Nat.zero_add _) prog w A R _ ⟨hl,hb,by simpa using he,h⟩)⟩
theorem Zgl(l b:Addr)(items items2:Array Value)(n n2:Nat)(dd dd2:Option Addr)(sl sl2:Array (Option Value))(v:Bool) :
  Meets (Builtin.«tuple.__lt__» ⟨[.ref l,.ref b],[]⟩)
   (fun A R s=>s.heap.get? l=some { cls:=.type "tuple",dict:=dd,data:=.seq items n,slots:=sl }/\s.heap.get? b=some { cls:=.type "tuple",dict:=dd2,data:=.seq items2 n2,slots:=sl2 } /\
    LexR A.in1 s items.toList items2.toList v/\R (.ok (.ret (.bool v))) s) :=
 .of_wp fun prog w A R s h=>by
  obtain⟨hp,g,d,tk,os⟩:=s;obtain⟨hl,hb,he,h⟩:=h;have f2:=AutoSeq1.sub_tuple_tuple
  wp_walk using wpAny_loadPart' hl,wpAny_loadPart' hb,wpAny_forIn_list _ (fun rest b s'=>b.1=none/\s'=⟨hp,g,d,tk,os⟩/\∃(vs ws:List Value),rest=vs.zip ws /\
   vs.length+items2.size=ws.length+items.size/\LexR A.in1 ⟨hp,g,d,tk,os⟩ vs ws v) _
  case turn =>
   rintro⟨y,x⟩ rest b s' ⟨hb',rfl,vs,ws,hz,hlen,hL⟩;cases hL with
   | nn=>rw[List.zip_nil_left] at hz;cases hz
   | nc=>rw[List.zip_nil_left] at hz;cases hz
   | cn=>rw[List.zip_nil_right] at hz;cases hz
   | eq h1 h2 =>
    rw[List.zip_cons_cons] at hz;injection hz with hyx hrest;injection hyx with hy hx;subst hy hx;simp only[List.length_cons] at hlen;refine wpAny_bind (h1 prog w _ _ ?_)
    wp_walk
    exact⟨rfl,rfl,_,_,hrest,by lia,h2⟩
   | lt h1 h2 =>
    rw[List.zip_cons_cons] at hz;injection hz with hyx hrest;injection hyx with hy hx;subst hy hx;refine wpAny_bind (h1 prog w _ _ ?_);have hri:=h2 prog w
    wp_walk using hri
    exact⟨_,rfl,h⟩
  case fin =>
   rintro⟨b1,b2⟩ s' ⟨hb',rfl,vs,ws,hz,hlen,hL⟩;simp only at hb';subst hb';have hv:v=decide (items.size<items2.size):=by
    rw[hL.fin (by
     cases vs with
     | nil=>exact .inl rfl
     | cons a t=>cases ws with
      | nil=>exact .inr rfl
      | cons c u=>rw[List.zip_cons_cons] at hz;cases hz)]
    by_cases q:items.size<items2.size
    ·rw[decide_eq_true q];exact decide_eq_true (by lia)
    ·rw[decide_eq_false q];exact decide_eq_false (by lia)
   subst hv
   wp_walk
   exact⟨_,rfl,by simpa[Builtin.Tuple.tupleCompareSizes] using h⟩
  case h =>
   exact⟨rfl,rfl,items.toList,items2.toList,rfl,by simp;lia,he⟩
section
variable{A:Around}{s:Shared}
theorem Zjh.lists{l b:Addr}{items items2:Array Value}{v:Bool}(hl:s.heap.IsList l items)(hb:s.heap.IsList b items2)(hu:A.units<cLine)(he:LexR A.in1 s items.toList items2.toList v) :
  Zjh A s (.ref l) (.ref b) v:=fun prog w E Q h=>by
 obtain⟨⟨cls,dd,data,sl⟩,ho,hc,n,hd⟩:=id hl;obtain⟨⟨cls2,dd2,data2,sl2⟩,ho2,hc2,n2,hd2⟩:=id hb;simp only at hc hd hc2 hd2;subst hc hd hc2 hd2;exact richCompare_meets_room (op:=.Lt) ⟨_,ho,rfl⟩ ⟨_,ho2,rfl⟩ F.slot_list_lt F.entry_list_lt (F.args_list_lt_2 _ _) (Zhf l b items items2 n n2 dd dd2 sl sl2 v)
  ⟨ho,ho2,he,show Value.bool v≠Value.notImplemented/\Q (.bool v) s from⟨(fun x=>nomatch x),h⟩⟩ hu
theorem Zjh.tuples{l b:Addr}{items items2:Array Value}{v:Bool}(hl:s.heap.IsTuple l items)(hb:s.heap.IsTuple b items2)(hu:A.units<cLine)(he:LexR A.in1 s items.toList items2.toList v) :
  Zjh A s (.ref l) (.ref b) v:=fun prog w E Q h=>by
 obtain⟨⟨cls,dd,data,sl⟩,ho,hc,n,hd⟩:=id hl;obtain⟨⟨cls2,dd2,data2,sl2⟩,ho2,hc2,n2,hd2⟩:=id hb;simp only at hc hd hc2 hd2;subst hc hd hc2 hd2;exact richCompare_meets_room (op:=.Lt) ⟨_,ho,rfl⟩ ⟨_,ho2,rfl⟩ F.slot_tuple_lt F.entry_tuple_lt (F.args_tuple_lt_2 _ _) (Zgl l b items items2 n n2 dd dd2 sl sl2 v)
  ⟨ho,ho2,he,show Value.bool v≠Value.notImplemented/\Q (.bool v) s from⟨(fun x=>nomatch x),h⟩⟩ hu
end
end PySem.SeqAt
namespace L2
open PySem PySem.Spec PyProof.Rows PySem.SeqAt
mutual
inductive LtD:PyData->PyData->Bool->Prop
 | int (i j:Int):LtD (.int i) (.int j) (decide (i<j))
 | str (x y:Str):LtD (.str x) (.str y) (decide (x.cps.toList<y.cps.toList))
 | lst {xs ys:List PyData} {b:Bool}:LexD xs ys b->LtD (.list xs) (.list ys) b
 | tup {xs ys:List PyData} {b:Bool}:LexD xs ys b->LtD (.tuple xs) (.tuple ys) b
inductive LexD:List PyData->List PyData->Bool->Prop
 | nn:LexD [] [] false
 | nc {y:PyData} {ys:List PyData}:LexD [] (y::ys) true
 | cn {x:PyData} {xs:List PyData}:LexD (x::xs) [] false
 | eq {x y:PyData} {xs ys:List PyData} {b:Bool}:PyData.eqv x y=true->LexD xs ys b->LexD (x::xs) (y::ys) b
 | lt {x y:PyData} {xs ys:List PyData} {b:Bool}:PyData.eqv x y=false->LtD x y b->LexD (x::xs) (y::ys) b
end
mutual
theorem LtD.at{s:Shared}:∀{da db:PyData}{v:Bool},LtD da db v->∀(A:Around){a b:Value}{as bs:List Addr},Reads s.heap a da as->Reads s.heap b db bs->da.canLay0=true->db.canLay0=true->A.units+min da.depth db.depth<cLine->Zjh A s a b v
 | _,_,_,.int i j,A,_,_,_,_,ra,rb,_,_,_=>by
  cases ra;cases rb;exact fun prog w E Q h=>(lt_int h:wpAny (model prog w) A (compareOp .Lt (.int _ _) (.int _ _)) Q E s)
 | _,_,_,.str x y,A,_,_,_,_,ra,rb,_,_,_=>by
  cases ra;cases rb;exact fun prog w E Q h=>(lt_str h:wpAny (model prog w) A (compareOp .Lt (.str _ _) (.str _ _)) Q E s)
 | _,_,_,.lst h,A,_,_,_,_,ra,rb,ha,hb,hu=>by
  cases ra with
  | list h1 h2 h3 h4 =>
   cases rb with
   | list k1 k2 k3 k4=>exact Zjh.lists ⟨_,h1,h2,_,h3⟩ ⟨_,k1,k2,_,k3⟩ (room_here hu) (LexD.at h A.in1 h4 k4 ha hb (room_in hu))
 | _,_,_,.tup h,A,_,_,_,_,ra,rb,ha,hb,hu=>by
  cases ra with
  | tuple h1 h2 h3 h4 =>
   cases rb with
   | tuple k1 k2 k3 k4=>exact Zjh.tuples ⟨_,h1,h2,_,h3⟩ ⟨_,k1,k2,_,k3⟩ (room_here hu) (LexD.at h A.in1 h4 k4 ha hb (room_in hu))
theorem LexD.at{s:Shared}:∀{xs ys:List PyData}{v:Bool},LexD xs ys v->∀(A:Around){vs ws:List Value}{as bs:List Addr},ReadsAll s.heap vs xs as->ReadsAll s.heap ws ys bs->PyData.canLayAll0 xs=true->PyData.canLayAll0 ys=true ->
  A.units+min (PyData.depthAll xs) (PyData.depthAll ys)<cLine->LexR A s vs ws v
 | _,_,_,.nn,A,_,_,_,_,ra,rb,_,_,_=>by
  cases ra;cases rb;exact .nn
 | _,_,_,.nc,A,_,_,_,_,ra,rb,_,_,_=>by
  cases ra;cases rb;exact .nc
 | _,_,_,.cn,A,_,_,_,_,ra,rb,_,_,_=>by
  cases ra;cases rb;exact .cn
 | _,_,_,@LexD.eq x y xs ys b e h,A,_,_,_,_,ra,rb,ha,hb,hu=>by
  have ha':x.canLay0=true/\PyData.canLayAll0 xs=true:=by simpa[PyData.canLayAll0] using ha
  have hb':y.canLay0=true/\PyData.canLayAll0 ys=true:=by simpa[PyData.canLayAll0] using hb
  cases ra with
  | cons r rs =>
   cases rb with
   | cons r' rs' =>
    refine .eq (e ▸ eqAt_reads x y A s _ _ _ _ r r' ha'.1 hb'.1 (room_head hu)) (LexD.at h A rs rs' ha'.2 hb'.2 ?_);have:PyData.depthAll (x::xs)=max x.depth (PyData.depthAll xs):=rfl;have:PyData.depthAll (y::ys)=max y.depth (PyData.depthAll ys):=rfl;lia
 | _,_,_,@LexD.lt x y xs ys b e h,A,_,_,_,_,ra,rb,ha,hb,hu=>by
  have ha':x.canLay0=true/\PyData.canLayAll0 xs=true:=by simpa[PyData.canLayAll0] using ha
  have hb':y.canLay0=true/\PyData.canLayAll0 ys=true:=by simpa[PyData.canLayAll0] using hb
  cases ra with
  | cons r rs =>
   cases rb with
   | cons r' rs'=>exact .lt (e ▸ eqAt_reads x y A s _ _ _ _ r r' ha'.1 hb'.1 (room_head hu)) (LtD.at h A r r' ha'.1 hb'.1 (room_head hu))
end
section
variable{X:Cx}
def Zmk(K:PySem.W.Frag):R2:=fun x y H Q=>∃d e v,Dp K H x d/\Dp K H y e/\d.canLay0=true/\e.canLay0=true/\min d.depth e.depth<=200/\LtD d e v/\Q (.bl v) H
theorem Zkk(hu:X.A.units+200<cLine):OpR X (compareOp .Lt) (Zmk X.K):=by
 intro pins s σ H x y v u Q I rx ry h;obtain⟨d,e,v,hx,hy,h1,h2,hd,hl,q⟩:=h;obtain⟨as,ra⟩:=hx.reads I rx;obtain⟨bs,rb⟩:=hy.reads I ry;exact hl.at X.A ra rb h1 h2 (by lia) X.prog X.w _ _ ⟨.bl _,H,I,rfl,q⟩
end
def Zal(X:Cx):Cx where
 prog:=X.prog
 w:=X.w
 K:=X.K
 mg:=X.mg
 base:=X.base
 A:=X.A.in1
 N:=X.N
 s₀ := X.s₀
 H₀ := X.H₀
 env:=X.env
 outer:=X.outer
 stack:=X.stack
 ex:=X.ex
 fn:=X.fn
 calm:=X.calm
 pn:=X.pn
 xe:=no0
section
variable{X:Cx}{pins:List (Addr×Obj)}{σ : St}{H:Hp}{s:Shared}
theorem Cx.Ok.in1(o:X.Ok):(Zal X).Ok :=
 ⟨o.mod,o.kind,o.glob,o.blt,o.above,o.inj,o.has,o.cab,o.hd,o.frames,o.stk,o.exf,o.bs,o.bsz,o.noex,o.exfs,o.funs,o.frf⟩
theorem Inv.in1(I:Inv X pins σ H s):Inv (Zal X) pins σ H s:=⟨I.ok.in1,I.os,I.bare,I.base,I.loc,I.cell,I.free,I.freeC,I.pin,I.hok,I.len⟩
theorem Inv.out1(o:X.Ok)(I:Inv (Zal X) pins σ H s):Inv X pins σ H s:=⟨o,I.os,I.bare,I.base,I.loc,I.cell,I.free,I.freeC,I.pin,I.hok,I.len⟩
end
def Zkc(K:PySem.W.Frag)(H:Hp)(x y:V)(v:Bool):Prop := ∃d e,Dp K H x d/\Dp K H y e/\d.canLay0=true/\e.canLay0=true/\min d.depth e.depth<=200/\LtD d e v
def ZlJ(K:PySem.W.Frag)(sp:Sp)(l p:Addr)(xs:List V)(Q:VK)(W:Nat->V->V->Hp->Prop):Prop :=
 ∀i bi bk H1,W i bi bk H1->H1 p=some (.lst [bi,bk])/\SqL K H1 l xs /\
  ((xs.length=i+1/\Q bi (upd H1 p (.lst [])))\/∃xi,xs[i+1]?= some xi/\sp [xi] H1 (fun k H2=>H2 p=some (.lst [bi,bk])/\∃v,Zkc K H2 k bk v /\
   if v=true then W (i+1) xi k (upd H2 p (.lst [xi,k])) else W (i+1) bi bk H2) E0)
def Zef(K:PySem.W.Frag)(sp:Sp)(x d:V)(H:Hp)(Q:VK):Prop := ∃l xs,x=.ref l/\SqL K H l xs/\∀p,H p=none->SqL K (upd H p (.lst [])) l xs /\
 ((xs=[]/\Q d (upd H p (.lst [])))\/∃W:Nat->V->V->Hp->Prop,(∃x0,xs[0]?= some x0/\sp [x0] (upd H p (.lst [])) (fun k H1=>H1 p=some (.lst [])/\W 0 x0 k (upd H1 p (.lst [x0,k]))) E0)/\ZlJ K sp l p xs Q W)
section
variable{X:Cx}{pins:List (Addr×Obj)}{σ : St}{H:Hp}{s:Shared}{k:Nat}{f:Addr}{fd:FuncData}{ps:List Str}{sp:Sp}{Q:VK}{l p it:Addr}{xs:List V}{W:Nat->V->V->Hp->Prop}
abbrev ZlL(X:Cx)(pins:List (Addr×Obj))(σ : St)(Q:VK):Result->Shared->Prop:=fun r s'=>match r with | .ok (.ret v)=>EP X pins σ Q v s' | .ok _=>False | .error e=>X.xe e s'
theorem Zct{i:Nat}{x:V}{Q':Option Value->Shared->Prop}{E:Value->Shared->Prop}(I:Inv (Zal X) pins σ H s)(st:s.heap.IsListIter it l i)(hq:SqL X.K H l xs)(hx:xs[i]?= some x)(hf:Za0 (Zal X) pins H it)
  (h:∀u s',Inv (Zal X) pins σ H s'->s'.heap.IsListIter it l (i+1)->RelV x u->Q' (some u) s'):wpAny (model X.prog X.w) X.A.in1 (pyNext (.ref it)) Q' E s:=by
 obtain⟨its,rv,p,hz⟩:=I.list hq;obtain⟨u,hu,ru⟩:=rv.get hx;obtain⟨f0,f1,f2,f3,f4,f5⟩:=hf;exact wpAny_pyNext_list_item st p.isList (x:=u) (by simpa using hu) fun h' st' sb=>h u _ (I.turned (t':=s.toks) (fun b o hb e=>(sb.2 b hb).trans e) f0 f1 f3 f4 f5) st' ru
theorem Ze2{i:Nat}{Q':Option Value->Shared->Prop}{E:Value->Shared->Prop}(hc:X.calm=true)(I:Inv (Zal X) pins σ H s)(st:s.heap.IsListIter it l i)(hq:SqL X.K H l xs)(hx:xs.length<=i)(hf:Za0 (Zal X) pins H it)
  (h:∀s',Inv (Zal X) pins σ H s'->Q' none s'):wpAny (model X.prog X.w) X.A.in1 (pyNext (.ref it)) Q' E s:=by
 obtain⟨its,rv,p,hz⟩:=I.list hq;obtain⟨f0,f1,f2,f3,f4,f5⟩:=hf;have hl:=rv.length;exact wpAny_pyNext_list_end (I.ok.hd hc) st p.isList (by simp;lia) fun h' eb=>h _ (I.turned (t':=s.toks) (fun b o hb e=>eb b o hb e) f0 f1 f3 f4 f5)
end
section
variable{X:Cx}{pins:List (Addr×Obj)}{σ : St}{H:Hp}{s:Shared}{k:Nat}{f:Addr}{fd:FuncData}{ps:List Str}{sp:Sp}{Q:VK}{l p it:Addr}{xs:List V}{W:Nat->V->V->Hp->Prop}{ud:Value}
theorem ZfK{o:HO}(h:Za0 X pins H it)(hp:∃u,H p=some u):Za0 X pins (upd H p o) it:=by
 refine⟨?_,h.2⟩;obtain⟨u,hu⟩:=hp;rw[Zh (Zm hu h.1).symm];exact h.1
theorem Zbq{h:Heap}{i:Nat}(st:h.IsListIter it l i):∃o,h.get? it=some o/\(∀v,o.data ≠ .cell v)/\∀h':Heap,h'.get? it=some o->h'.IsListIter it l i:=by
 obtain⟨o,e,c,d⟩:=st;exact⟨o,e,fun v z=>(by rw[d] at z;cases z),fun h' e'=>⟨o,e',c,d⟩⟩
theorem Zh0{x:V}{u:Value}{i:Nat}{Q2:VK}{Q':Value->Shared->Prop}(F:FnOk X.prog X.w X.K X.mg X.base CX0 k f fd ps sp)(hb:Binds X.K fd ps [])(hr:Room k X.A.in1)(I:Inv (Zal X) pins σ H s)(st:s.heap.IsListIter it l i)(hf:Za0 (Zal X) pins H it)
  (r:RelV x u) (h:sp [x] H Q2 E0) (hQ:∀v kx s' H',Inv (Zal X) pins σ H' s'->s'.heap.IsListIter it l i->Za0 (Zal X) pins H' it->RelV kx v->Q2 kx H'->Q' v s') :
  wpAny (model X.prog X.w) X.A.in1 (call (.ref f) [u]) Q' no0 s:=by
 obtain⟨o,e,hd,back⟩:=Zbq st;have I':Inv (Zal X) (pins ++ [(it,o)]) σ H s:=I.pins_of fun q hq=>(List.mem_append.mp hq).elim (fun z=>I.pin q (List.mem_append_right _ z)) fun z=>by
  rw[List.mem_singleton.mp z];exact⟨e,hf.1,hf.2.1,hf.2.2.1,hd⟩
 refine thn (Zjj (X:=Zal X) (ds:=[]) (dvs:=[]) (E:=E0) (us:=[u]) (vs:=[x]) F hr hb .nil ZkO I' (.cons r .nil) h) fun v s' ⟨kx,H',I2,rk,q⟩=>?_;have pn:=I2.pin (it,o) (List.mem_append_right _ (List.mem_append_right _ (List.mem_singleton.mpr rfl)));exact hQ v kx s' H' I2.unpinned (back _ pn.1) ⟨pn.2.1,hf.2⟩ rk q
theorem ZiJ(hc:X.calm=true)(hu:X.A.in1.units+200<cLine)(F:FnOk X.prog X.w X.K X.mg X.base CX0 k f fd ps sp)(hb:Binds X.K fd ps [])(hr:Room k X.A.in1)(ok:X.Ok)(hW:ZlJ X.K sp l p xs Q W) :
  ∀(r i:Nat)(bi bk:V)(H:Hp)(s:Shared),xs.length-(i+1)=r->W i bi bk H->Inv (Zal X) pins σ H s->s.heap.IsListIter it l (i+1)->Za0 (Zal X) pins H it ->
   codeAny (model X.prog X.w) X.A (.builtin "min.loop" ⟨[.ref it,.ref f,.ref p],[(Str.ofString "default",ud)]⟩) (ZlL X pins σ Q) s:=by
 have hname:(toString "min" ++ toString ".loop" : String)= "min.loop" := by decide
 intro r
 induction r with
 | zero =>
  intro i bi bk H s hr0 w I st hf;obtain⟨hp,hq,alt⟩:=hW i bi bk H w;obtain⟨_,its,n,rv,_,e⟩:=I.lstM hp;obtain⟨ub,uk,rfl,rb,rk⟩:=vals2 rv;refine codeAny_builtin PySem.F.entry_min_loop ?_;rw[Around.under_plainId PySem.F.plain_min_loop _];show wpAny _ X.A.in1 (seqItems? (.ref p) >>= _) _ _ _;refine wpAny_bind (wpAny_seqItems e rfl ?_);show wpAny _ X.A.in1 (tryCatch (pyNext (.ref it)) _ >>= _) _ _ _;rcases alt with⟨hl,q⟩|⟨xi,hx,_⟩
  ·refine wpAny_bind (wpAny_tryCatch (Ze2 hc I st hq (by lia) hf fun s1 I1=>?_));obtain⟨_,its,n,rv,_,e⟩:=I1.lstM hp;show wpAny _ X.A.in1 (updateSeq p (fun _=>#[]) >>= _) _ _ _;refine wpAny_bind (wpAny_updateSeq e rfl (wpAny_bind (wpAny_letGo (wpAny_pure ?_))));exact⟨bi,_,Inv.out1 ok (I1.lset (its':=[]) hp e rfl .nil (Nat.zero_le _)),rb,q⟩
  ·have:=(List.getElem?_eq_some_iff.mp hx).1;lia
 | succ r ih =>
  intro i bi bk H s hr0 w I st hf;obtain⟨hp,hq,alt⟩:=hW i bi bk H w;obtain⟨_,its,n,rv,_,e⟩:=I.lstM hp;obtain⟨ub,uk,rfl,rb,rk⟩:=vals2 rv;refine codeAny_builtin PySem.F.entry_min_loop ?_;rw[Around.under_plainId PySem.F.plain_min_loop _];show wpAny _ X.A.in1 (seqItems? (.ref p) >>= _) _ _ _;refine wpAny_bind (wpAny_seqItems e rfl ?_);show wpAny _ X.A.in1 (tryCatch (pyNext (.ref it)) _ >>= _) _ _ _;rcases alt with⟨hl,q⟩|⟨xi,hx,hsp⟩
  ·lia
  ·refine wpAny_bind (wpAny_tryCatch (Zct I st hq hx hf fun u s1 I1 st1 ru=>?_));show wpAny _ X.A.in1 (tryCatch (holding [u] (call (.ref f) [u])) _ >>= _) _ _ _;refine wpAny_bind (wpAny_tryCatch (wpAny_holding (wpAny_mono (Zh0 F hb hr I1 st1 hf ru hsp (Q':=fun v s'=>∃kx H',Inv (Zal X) pins σ H' s'/\s'.heap.IsListIter it l (i+1+1)/\Za0 (Zal X) pins H' it/\RelV kx v/\H' p=some (.lst [bi,bk])/\∃vv,Zkc X.K H' kx bk vv/\(if vv=true then W (i+1) xi kx (upd H' p (.lst [xi,kx])) else W (i+1) bi bk H'))
    fun v kx s' H' a b c d e'=>⟨kx,H',a,b,c,d,e'⟩) (fun v s2 h2=>?_) fun _ _ hF=>hF.elim)))
   obtain⟨kx,H2,I2,st2,hf2,rkx,hp2,vv,⟨d1,d2,D1,D2,c1,c2,hd,hlt⟩,w2⟩:=h2;obtain⟨as,ra⟩:=D1.reads I2 rkx;obtain⟨bs,rb'⟩:=D2.reads I2 rk;show wpAny _ X.A.in1 (tryCatch (holding [u,v] (richCompare .Lt v uk >>= _)) _ >>= _) _ _ _;refine wpAny_bind (wpAny_tryCatch (wpAny_holding (wpAny_bind (hlt.at X.A.in1 ra rb' c1 c2 (by lia) X.prog X.w _ _ ?_))));refine wpAny_bind (wpAny_holding (wpAny_truthy_bool ?_));refine wpAny_bind (wpAny_letGo (wpAny_pure ?_));obtain⟨_,its2,n2,rv2,_,e2⟩:=I2.lstM hp2;cases vv with
   | true =>
    simp only[if_true] at w2 ⊢;refine wpAny_bind (wpAny_updateSeq e2 rfl (wpAny_bind (wpAny_letGo ?_)));rw[hname];refine wpAny_pure ⟨plainId_quiet PySem.F.plain_min_loop _,ih (i+1) xi kx _ _ (by lia) w2 (I2.lset (t':=s2.toks) (its':=[u,v]) hp2 e2 rfl (.cons ru (.cons rkx .nil)) (by show 2<=sizeLine;decide)) ?_ (ZfK hf2 ⟨_,hp2⟩)⟩;obtain⟨o,eo,_,back⟩:=Zbq st2;exact back _ ((Heap.get?_update_other _ _ (Zm hp2 hf2.1)).trans eo)
   | false =>
    simp only[Bool.false_eq_true,if_false] at w2 ⊢;refine wpAny_bind (wpAny_letGo ?_);rw[hname];exact wpAny_pure ⟨plainId_quiet PySem.F.plain_min_loop _,ih (i+1) bi bk _ _ (by lia) w2 I2 st2 hf2⟩
end
theorem ZeS(a v d:Value):argsOk "min" ⟨[a],[(Str.ofString "key",v),(Str.ofString "default",d)]⟩:=by unfold argsOk;kernel_rfl
section
variable{X:Cx}{pins:List (Addr×Obj)}{σ : St}{H:Hp}{s:Shared}{k:Nat}{f:Addr}{fd:FuncData}{ps:List Str}{sp:Sp}{Q:VK}
theorem Zfp{x d:V}{u ud:Value}(hc:X.calm=true)(hu:X.A.in1.units+200<cLine)(F:FnOk X.prog X.w X.K X.mg X.base CX0 k f fd ps sp)(hb:Binds X.K fd ps [])(hr:Room k X.A.in1)(I:Inv X pins σ H s)(rx:RelV x u)(rd:RelV d ud)(h:Zef X.K sp x d H Q) :
  wpAny (model X.prog X.w) X.A (call (.builtin "min") [u] [(Str.ofString "key",.ref f),(Str.ofString "default",ud)]) (EP X pins σ Q) X.xe s:=by
 have hname:(toString "min" ++ toString ".loop" : String)= "min.loop" := by decide
 obtain⟨l,xs,rfl,hq,alt⟩:=h;cases rx;obtain⟨its,rv,pl,hz⟩:=I.list hq;refine PyProof.Rows.kmk_tree PySem.F.kind_min PySem.F.plain_min PySem.F.entry_min (ZeS _ _ _) ?_;show wpAny _ X.A.in1 (Builtin.Builtins.bindParams "min" ["key","default"] 0 ⟨[],[(Str.ofString "key",.ref f),(Str.ofString "default",ud)]⟩ >>= _) _ _ s;refine wpAny_bind (wpAny_of_eq (show Builtin.Builtins.bindParams "min" ["key","default"] 0 ⟨[],[(Str.ofString "key",.ref f),(Str.ofString "default",ud)]⟩=pure [some (.ref f),some ud] from rfl) ?_);refine wpAny_bind (wpAny_pure ?_);refine wpAny_bind (wpAny_pyIter_list pl.isList ?_);refine wpAny_bind (wpAny_newList ?_ (Nat.zero_le _));rw[hname];refine wpAny_pure ⟨plainId_quiet PySem.F.plain_min_loop _,?_⟩;have hS:(s.heap.push { cls:=.type "list_iterator",data:=.fields #[.ref l,.int 0 0] }).objs.size=s.heap.objs.size+1:=size_push' ..;have I0:Inv (Zal X) pins σ H { s with heap:=s.heap.push { cls:=.type "list_iterator",data:=.fields #[.ref l,.int 0 0] },toks:=s.toks }:=I.in1.kept fun b o e=>Heap.get?_push_of_some _ e;have I1:=I0.lnew (its:=[]) (t':=s.toks) .nil (Nat.zero_le _);have fr:H (s.heap.push { cls:=.type "list_iterator",data:=.fields #[.ref l,.int 0 0] }).objs.size=none:=I0.fresh;have ne:s.heap.objs.size≠(s.heap.push { cls:=.type "list_iterator",data:=.fields #[.ref l,.int 0 0] }).objs.size:=by rw[hS];exact Nat.ne_of_lt (Nat.lt_succ_self _)
 have hf:Za0 (Zal X) pins (upd H (s.heap.push { cls:=.type "list_iterator",data:=.fields #[.ref l,.int 0 0] }).objs.size (.lst [])) s.heap.objs.size:=I.in1.fpOk (Nat.le_refl _) (by rw[Zh ne];exact I.fresh);have st:((s.heap.push { cls:=.type "list_iterator",data:=.fields #[.ref l,.int 0 0] }).push { cls:=.type "list",data:=.seq ([]:List Value).toArray }).IsListIter s.heap.objs.size l 0:=⟨_,Heap.get?_push_of_some _ (Heap.get?_push_size _ rfl),rfl,rfl⟩;have hp0:(upd H (s.heap.push { cls:=.type "list_iterator",data:=.fields #[.ref l,.int 0 0] }).objs.size (.lst [])) (s.heap.push { cls:=.type "list_iterator",data:=.fields #[.ref l,.int 0 0] }).objs.size=some (.lst []):=Zb;obtain⟨_,its0,n0,rv0,_,e0⟩:=I1.lstM hp0;cases rv0;refine codeAny_builtin PySem.F.entry_min_loop ?_;rw[Around.under_plainId PySem.F.plain_min_loop _];show wpAny _ X.A.in1 (seqItems? (.ref _) >>= _) _ _ _;refine wpAny_bind (wpAny_seqItems e0 rfl ?_);show wpAny _ X.A.in1 (tryCatch (pyNext (.ref s.heap.objs.size)) _ >>= _) _ _ _;obtain⟨hq0,alt'⟩:=alt _ fr;rcases alt' with⟨hx,q⟩|⟨W,⟨x0,hx,hsp⟩,hW⟩
 ·subst hx;refine wpAny_bind (wpAny_tryCatch (Ze2 hc I1 st hq0 (Nat.zero_le _) hf fun s1 I2=>?_));refine wpAny_bind (wpAny_rule (wpAny_pure ?_));exact⟨d,_,Inv.out1 I.ok I2,rd,q⟩
 ·refine wpAny_bind (wpAny_tryCatch (Zct I1 st hq0 hx hf fun u s1 I2 st1 ru=>?_));show wpAny _ X.A.in1 (tryCatch (holding [u] (call (.ref f) [u])) _ >>= _) _ _ _;refine wpAny_bind (wpAny_tryCatch (wpAny_holding (wpAny_mono (Zh0 F hb hr I2 st1 hf ru hsp (Q':=fun v s'=>∃kx H',Inv (Zal X) pins σ H' s'/\s'.heap.IsListIter s.heap.objs.size l (0+1)/\Za0 (Zal X) pins H' s.heap.objs.size/\RelV kx v/\H' (s.heap.push { cls:=.type "list_iterator",data:=.fields #[.ref l,.int 0 0] }).objs.size=some (.lst []) /\
    W 0 x0 kx (upd H' (s.heap.push { cls:=.type "list_iterator",data:=.fields #[.ref l,.int 0 0] }).objs.size (.lst [x0,kx])))
   fun v kx s' H' a b c d e'=>⟨kx,H',a,b,c,d,e'⟩) (fun v s2 h2=>?_) fun _ _ hF=>hF.elim)))
  obtain⟨kx,H2,I3,st2,hf2,rkx,hp2,w2⟩:=h2;obtain⟨_,its2,n2,rv2,_,e2⟩:=I3.lstM hp2;refine wpAny_bind (wpAny_updateSeq e2 rfl ?_);rw[hname];refine wpAny_pure ⟨plainId_quiet PySem.F.plain_min_loop _,ZiJ hc hu F hb hr I.ok hW _ 0 x0 kx _ _ rfl w2 (I3.lset (t':=s2.toks) (its':=[u,v]) hp2 e2 rfl (.cons ru (.cons rkx .nil)) (by show 2<=sizeLine;decide)) ?_ (ZfK hf2 ⟨_,hp2⟩)⟩;obtain⟨o,eo,_,back⟩:=Zbq st2;exact back _ ((Heap.get?_update_other _ _ (Zm hp2 hf2.1)).trans eo)
end
section
variable{X:Cx}{x:Str}{ps:List Str}{j k:Nat}{sp:Sp}{e dx:Expr}{te td:TE}{p p2 pos kp kp2:Pos}
theorem Zhu(G:Has X.prog X.w X.K X.mg X.base x ps j sp)(hr:Room (k+1) X.A)(hc:X.calm=true)(hgm:Gl X (Str.ofString "min")) (hmm:X.mg (Str.ofString "min")=none) (hg:Gl X x) (pa:PA X [e] (Zfj te Zkb)) (hde:PE X dx td) (hk:j<=k:=by decide) (hdb:(x == ("__debug__" : Str))=false:=by decide)
  (hst:backTo pos (starEach [e] X.env)=(false,eval e X.env)::backTo pos (starEach [] X.env):=by rfl) (hpl:(backTo pos (starEach [e] X.env)).any (·.1)=false:=by rfl) :
  PE X (.Call (.Name (Str.ofString "min") p) [e] [⟨some (Str.ofString "key"),.Name x p2,kp⟩,⟨some (Str.ofString "default"),dx,kp2⟩] pos) (fun σ H Q=>te σ H fun v H1=>td σ H1 fun d H2=>Zef X.K sp v d H2 Q):=by
 obtain⟨f,fd,F,b,kpn,m⟩:=G.ex;intro pins s σ H Q I h;refine wpAny_Call_Name_kw (ZbQ I hgm hmm Zhq ?_);refine callWith_kw (thn (pa pos pins s σ H (fun vs H1=>match vs with | [v]=>td σ H1 fun d H2=>Zef X.K sp v d H2 Q|_=>False) I h) fun us s1 ⟨vs,H1,I1,r,q⟩=>?_) hst hpl
 match vs,r,q with
 | [v],r,q =>
  obtain⟨u,rfl,ru⟩:=r.one;have pk:PK X [⟨some (Str.ofString "key"),.Name x p2,kp⟩,⟨some (Str.ofString "default"),dx,kp2⟩] (Zfj (tC (.ref f)) (Zfj td Zkb)):=ZhM (Zb9 hg m (v:=.ref f) rfl hdb) (ZhM hde Zkg);refine thn (pk pos pins s1 σ H1 (fun zs H2=>match zs with | [z,d]=>z=.ref f/\Zef X.K sp v d H2 Q|_=>False) I1 ?_) fun ws s2 ⟨zs,H2,I2,rz,q2⟩=>?_
  ·show td σ H1 fun d H2=>V.ref f=.ref f/\Zef X.K sp v d H2 Q
   simpa using q
  ·match zs,rz,q2 with
   | [z,d],rz,q2 =>
    obtain⟨rfl,q2⟩:=q2;obtain⟨uf,ud,rfl,rf,rd⟩:=vals2 rz;cases rf;exact Zfp hc (by have:=(hr.in1).un;lia) (F.room hk) b hr.in1 I2 ru rd q2
end
end L2
namespace Fg
open PySem L2 FgM PySem.SeqAt
def ZeM:List Str->List Str->Bool
 | [],[]=>false
 | [],_::_=>true
 | _::_,[]=>false
 | x::xs,y::ys=>if x=y then ZeM xs ys else decide (x.cps.toList<y.cps.toList)
def ZaK(xs ys:List Str):Bool:=if xs.length=ys.length then ZeM xs ys else decide (xs.length<ys.length)
theorem Zc8:∀xs:List Str,ZeM xs xs=false
 | []=>rfl
 | x::xs=>by rw[ZeM,if_pos rfl];exact Zc8 xs
theorem Zfw(x y:Str):PyData.eqv (.str x) (.str y)=decide (x=y):=by
 show(x == y)=_;by_cases e:x=y
 ·subst e;simp
 ·rw[decide_eq_false e];exact beq_eq_false_iff_ne.mpr e
theorem ZcB:∀xs ys:List Str,PyData.eqvAll (xs.map PyData.str) (ys.map PyData.str)=decide (xs=ys)
 | [],[]=>rfl
 | [],_::_=>by simp[PyData.eqvAll]
 | _::_,[]=>by simp[PyData.eqvAll]
 | x::xs,y::ys=>by
  show(PyData.eqv (.str x) (.str y)&&PyData.eqvAll (xs.map PyData.str) (ys.map PyData.str))=_;rw[Zfw,ZcB xs ys];by_cases e:x=y <;> by_cases e2:xs=ys <;> simp[e,e2]
theorem ZeK:∀xs ys:List Str,LexD (xs.map PyData.str) (ys.map PyData.str) (ZeM xs ys)
 | [],[]=>.nn
 | [],_::_=>.nc
 | _::_,[]=>.cn
 | x::xs,y::ys=>by
  by_cases e:x=y
  ·rw[ZeM,if_pos e];exact .eq (by rw[Zfw];exact decide_eq_true e) (ZeK xs ys)
  ·rw[ZeM,if_neg e];exact .lt (by rw[Zfw];exact decide_eq_false e) (.str x y)
abbrev ZhF(xs:List Str):PyData:=.tuple [.int (xs.length:Nat),.list (xs.map PyData.str)]
theorem Zig(xs ys:List Str):LtD (ZhF xs) (ZhF ys) (ZaK xs ys):=by
 refine .tup ?_;by_cases hn:xs.length=ys.length
 ·refine .eq (by show((xs.length:Int) == (ys.length:Int))=true;rw[hn];simp) ?_;rw[ZaK,if_pos hn];by_cases e:xs=ys
  ·subst e;rw[Zc8];exact .eq (by show PyData.eqvAll _ _=true;rw[ZcB];simp) .nn
  ·exact .lt (by show PyData.eqvAll _ _=false;rw[ZcB];exact decide_eq_false e) (.lst (ZeK xs ys))
 ·rw[ZaK,if_neg hn];have e:decide (xs.length<ys.length)=decide ((xs.length:Int)<(ys.length:Int)):=by
   by_cases q:xs.length<ys.length
   ·rw[decide_eq_true q];exact(decide_eq_true (by lia)).symm
   ·rw[decide_eq_false q];exact(decide_eq_false (by lia)).symm
  rw[e];exact .lt (by show((xs.length:Int) == (ys.length:Int))=false;exact beq_eq_false_iff_ne.mpr (by lia)) (.int _ _)
def Zat(H:Hp)(r p:Addr)(xs:List Str):Prop:=H p=some (.lst (xs.map V.str))/\H r=some (.tup [.int (xs.length:Nat),.ref p])
theorem Zat.dp{K:PySem.W.Frag}{H:Hp}{r p:Addr}{xs:List Str}(h:Zat H r p xs):Dp K H (.ref r) (ZhF xs) :=
 .tup (SqT.of h.2) (.cons (.int _) (.cons (.lst (SqL.of h.1) (ZbF xs)) .nil))
theorem Zat.same{H H':Hp}{r p:Addr}{xs:List Str}(h:Zat H r p xs)(s:Zi H H'):Zat H' r p xs:=⟨s _ _ h.1,s _ _ h.2⟩
theorem Zat.upd{H:Hp}{r p l:Addr}{xs:List Str}{o:HO}(h:Zat H r p xs)(h1:r≠l)(h2:p≠l):Zat (upd H l o) r p xs:=⟨by rw[Zh h2];exact h.1,by rw[Zh h1];exact h.2⟩
theorem ZfC{xs:List Str}(h:∀x∈xs,PyData.strOk x=true):(ZhF xs).canLay0=true:=by
 show(true&&(PyData.canLayAll0 (xs.map PyData.str)&&true))=true;rw[ZbZ h];rfl
theorem Zgx(xs:List Str):(ZhF xs).depth<=2:=by
 show max 0 (max (PyData.depthAll (xs.map PyData.str)+1) 0)+1<=2;rw[Za4];decide
def OkW(ws:List Str):Prop := ∀x∈ws,PyData.strOk x=true
theorem ZeR{K:PySem.W.Frag}{H:Hp}{r r' p p':Addr}{xs ys:List Str}(h1:Zat H r p xs)(h2:Zat H r' p' ys)(o1:OkW xs)(o2:OkW ys):Zkc K H (.ref r) (.ref r') (ZaK xs ys) :=
 ⟨_,_,h1.dp,h2.dp,ZfC o1,ZfC o2,Nat.le_trans (Nat.min_le_left _ _) (Nat.le_trans (Zgx xs) (by decide)),Zig xs ys⟩
def Zh5(K:PySem.W.Frag):Sp:=fun vs H Q _=>∃(a:Addr)(xs:List V)(g:Gr Str),vs=[.ref a]/\SqT K H a xs/\RepG H xs g/\(words SL g).length<=1000 /\
 ∀(r p:Addr)(H':Hp),Zi H H'->H r=none->H p=none->Zat H' r p (words SL g)->Q (.ref r) H'
def Z3:List Str->List (List Str)->List Str
 | b,[]=>b
 | b,w::ws=>Z3 (if ZaK w b=true then w else b) ws
def Zka(K:PySem.W.Frag)(H:Hp)(a:Addr)(ws:List Str):Prop := ∃xs g,SqT K H a xs/\RepG H xs g/\words SL g=ws/\ws.length<=1000/\OkW ws
theorem Zka.same{K:PySem.W.Frag}{H H':Hp}{a:Addr}{ws:List Str}(h:Zka K H a ws)(s:Zi H H'):Zka K H' a ws:=by
 obtain⟨xs,g,h1,h2,h3⟩:=h;exact⟨xs,g,s.seqT h1,h2.mono s.tk,h3⟩
def Zd1(K:PySem.W.Frag):Sp:=fun vs H Q _=>∃(l:Addr)(as:List Addr)(wss:List (List Str)),vs=[.ref l]/\H l=some (.lst (as.map V.ref))/\as.length<=1000/\Paired (Zka K H) as wss /\
 (as=[]->∀H',Zi H H'->Q .non H')/\(∀w ws,wss=w::ws->∀(i:Nat)(a:Addr)(H':Hp),as[i]?= some a->wss[i]?= some (Z3 w ws)->Zi H H'->Q (.ref a) H')
end Fg
namespace L2
open PySem PySem.Spec PyProof.Rows
section
variable{X:Cx}
def Zk9(K:PySem.W.Frag)(n:Nat)(neg:Bool):R2:=fun x y H Q=>∃d e,Dp K H x d/\Dp K H y e/\d.canLay0=true/\e.canLay0=true/\min d.depth e.depth<=n/\Q (.bl (if neg then !PyData.eqv d e else PyData.eqv d e)) H
end
def CW(n:Nat)(Pv:Nat->List V->St->Hp->Prop):Nat->Nat->List V->St->Hp->Prop:=fun i m ys σ H=>m=n-i/\i<=n/\Pv i ys σ H
theorem CW.next{n i:Nat}{Pv:Nat->List V->St->Hp->Prop}{ys:List V}{σ : St}{H:Hp}(hi:i<n)(h:Pv (i+1) ys σ H):∃m',m'<n-i/\CW n Pv (i+1) m' ys σ H:=⟨_,by lia,rfl,hi,h⟩
theorem nd1{x:Str}:[x].Nodup:=by simp
theorem Zep{K:PySem.W.Frag}{a p:Addr}{xs:List V}{g:TG}{te:TE}{R:Hp->Prop}{σ0:St}{H0:Hp}(Pv:Nat->List V->St->Hp->Prop)(h0:Pv 0 [] σ0 H0)
  (hl:∀i ys σ H,i<=xs.length->Pv i ys σ H->SqL K H a xs/\H p=some (.lst ys))
  (hs:∀i ys x σ H,i<xs.length->xs[i]?= some x->Pv i ys σ H->g x σ H fun σ3 H4=>te σ3 H4 fun v H5=>H5 p=some (.lst ys)/\ys.length<sizeLine/\∃m',m'<xs.length-i/\CW xs.length Pv (i+1) m' (ys ++ [v]) σ3 (upd H5 p (.lst (ys ++ [v]))))
  (hd:∀ys σ H,Pv xs.length ys σ H->R H) :
  ∃W:Nat->Nat->List V->St->Hp->Prop,(∃m,W 0 m [] σ0 H0)/\∀i m ys σc H2,W i m ys σc H2->H2 p=some (.lst ys)/\(((Itl K a).stop i H2/\R H2)\/((Itl K a).go i H2/\∀x H3,(Itl K a).yld i H2 x H3->g x σc H3 fun σ3 H4=>te σ3 H4 fun v H5 =>
   H5 p=some (.lst ys)/\ys.length<sizeLine/\∃m',m'<m/\W (i+1) m' (ys ++ [v]) σ3 (upd H5 p (.lst (ys ++ [v]))))):=by
 refine⟨CW xs.length Pv,⟨_,rfl,Nat.zero_le _,h0⟩,?_⟩;rintro i m ys σ H ⟨rfl,hi,hp⟩;obtain⟨h1,h2⟩:=hl i ys σ H hi hp;refine⟨h2,?_⟩;by_cases hlt:i<xs.length
 ·refine .inr ⟨⟨xs,xs[i],h1,List.getElem?_eq_getElem hlt⟩,?_⟩;rintro x H3 ⟨rfl,hx⟩;exact hs i ys x σ _ hlt (hx xs h1) hp
 ·refine .inl ⟨⟨xs,h1,by lia⟩,hd ys σ H ?_⟩;have e:i=xs.length:=by lia
  rw[<- e];exact hp
theorem ZgW{scope:Scope}{env:Env}(h:∀y∈scope.names,y.2 ≠ .cell/\y.2 ≠ .free){cl:List (Str×Addr)}:∀(C:Addr)(x:Str),((compEnvC scope cl C env).kindOf x=some .cell\/(compEnvC scope cl C env).kindOf x=some .free)->∃c,cl.lookup x=some c:=by
 have key:∀(l:List (Str×NameKind))(x:Str),(∀y∈l,y.2 ≠ .cell/\y.2 ≠ .free)->∀k,(l.map fun(n,k)=>if(k ==.free&&env.scope.kind ==.function&&env.kindOf n == some .cell) then(n,.cell) else(n,k)).lookup x=some k->k ≠ .cell/\k ≠ .free:=by
  intro l
  induction l with
  | nil=>intro x _ k e;simp at e
  | cons y l ih =>
   intro x hy k e;obtain⟨n,kd⟩:=y;have hk:=hy _ (List.mem_cons_self ..);have e0:(kd == NameKind.free&&env.scope.kind ==.function&&env.kindOf n == some .cell)=false:=by
    have:(kd == NameKind.free)=false:=by
     cases kd <;> first|rfl|exact absurd rfl hk.2
    rw[this];rfl
   simp only[List.map_cons,e0,Bool.false_eq_true,if_false,List.lookup_cons] at e;cases hx:x == n with
   | true =>
    rw[hx] at e;cases e;exact hk
   | false =>
    rw[hx] at e;exact ih x (fun y hm=>hy y (List.mem_cons_of_mem _ hm)) k e
 intro C x hx;rcases hx with e|e
 ·exact absurd rfl (key _ x h _ e).1
 ·exact absurd rfl (key _ x h _ e).2
section
variable{X:Cx}{elt iter tg:Expr}{scope:Scope}{pos:Pos}{wi:TI}{g:TG}{te:TE}{cl:List (Str×Addr)}
theorem Zbd{y:Str}{py spos:Pos}{n0:Nat}(hN:X.N.Nodup)(hi0:X.N[n0]?= some y)(hx:Loc X.env.scope y)(tn:List Str)(cap:List (Str×Nat))(hi:PI X tg iter wi)(hg:∀C fp s H,PG (Z6 X (tn++cap.map (·.1)) scope cl C fp s H) tg g)(he:∀C fp s H,PE (Z6 X (tn++cap.map (·.1)) scope cl C fp s H) elt te)
  (hc:X.calm=true) (hclos:closureFor scope X.env=pure cl) (hcell:∀y∈scope.names,y.2 ≠ .cell) (hk:scope.kind=.function) (hnames:∀y∈scope.names,y.2=.local->scope.names.lookup y.1=some .local)
  (hcl:∀x c,cl.lookup x=some c->X.env.cells.lookup x=some c)
  (hhas:∀C x,((compEnvC scope cl C X.env).kindOf x=some .cell\/(compEnvC scope cl C X.env).kindOf x=some .free)->∃c,cl.lookup x=some c)
  (hcap:∀C,∀p∈cap,X.N[p.2]?= some p.1/\X.env.scope.names.lookup p.1=some .cell/\((compEnvC scope cl C X.env).kindOf p.1=some .cell\/(compEnvC scope cl C X.env).kindOf p.1=some .free))
  (hs:∀v,foldedSetIterable iter X.env v=pure v) (hsw:swapsWith (.ListComp elt [⟨tg,iter,[],0⟩] scope pos) (some (.Name y py)) spos.line X.env=pure true) (hf:X.fn y=true\/X.env.scope.names.lookup y=some .local:=by first|exact .inl rfl|exact .inr rfl|assumption) :
  PS X (.Assign [.Name y py] (.ListComp elt [⟨tg,iter,[],0⟩] scope pos) spos) (Zk5 (ZkY wi tn.length cap g te) (Ze8 n0)):=by
 intro pins s σ H D I h;rw[exec_Assign_Name_used _ _ _ _ hsw];refine wpAny_bind (wpAny_standAt (wpAny_bind ?_));show wpAny _ X.A (do let _ <- comprehension (.ListComp elt [⟨tg,iter,[],0⟩] scope pos) scope X.env _ (newList []) false (eval iter X.env) (some (assign (.Name y py) X.env))) _ _ s;refine wpAny_bind (wpAny_mono (wpAny_comprehension_free (use:=some (assign (.Name y py) X.env)) (Q:=fun _ s'=>SP X pins D .next s') rfl hs hclos hk hnames (thn (hi pins s σ H _ I h) fun v s1 h1=>thn h1 fun itv s2 h2=>?_)) (fun _ s' hq=>wpAny_pure (wpAny_pure hq)) fun _ _ e=>e)
 obtain⟨it,fp,tnn,J,H2,e,I2,T,st2,f2,q2⟩:=h2;subst e;refine Zdk (R:=fun p H6=>Ze8 n0 (.ref p) σ H6 (fun σ' H'=>D.nx σ' H')) tn cap hg he hc hcell hk hcl hhas hcap I2 T st2 f2 q2 fun s3 H3 I3 f3 acc σ6 H6 s6 I6 q6=>?_;obtain⟨m,hn,_⟩:=I6.loc;have I':Inv X pins σ H6 s6:=I3.call' (ch:=fp) I6.os I6.base I6.hok I6.bare fun b hb=>⟨(f3 b hb).2.2.2.1,(f3 b hb).2.1,(f3 b hb).2.2.2.2.1,(f3 b hb).2.2.2.2.2⟩;have fC:Za0 X pins H6 s3.heap.objs.size:=I3.fpOk (Nat.le_refl _) I6.free;show wpAny _ X.A (assign (.Name y py) X.env (.ref acc)) _ _ s6;refine wpAny_assign_Name (ZcD (v:=.ref acc) I' hN hi0 hx rfl (fun s7 I7 ⟨a,sb,ha⟩=>?_) hf);have nCa:s3.heap.objs.size≠a:=by
  rcases ha with z|z
  ·rw[z];exact fC.2.1
  ·exact(fC.2.2.2.2.1 _ _ z).symm
 exact⟨m,hn.sameBut sb nCa,fun h' sb'=>⟨_,H6,I7.turned (t':=s7.toks) (fun b o hb e=>(sb'.2 b hb).trans e) fC.1 fC.2.1 fC.2.2.2.1 fC.2.2.2.2.1 fC.2.2.2.2.2,q6⟩⟩
end
section
variable{X:Cx}{elt ct iter tg:Expr}{scope:Scope}{pos:Pos}{wi:TI}{g:TG}{tt:TT}{te:TE}{cl:List (Str×Addr)}
theorem ZaE{y:Str}{py spos:Pos}{n0:Nat}(hN:X.N.Nodup)(hi0:X.N[n0]?= some y)(hx:Loc X.env.scope y)(tn:List Str)(cap:List (Str×Nat))(hi:PI X tg iter wi)(hg:∀C fp s H,PG (Z6 X (tn++cap.map (·.1)) scope cl C fp s H) tg g)(ht:∀C fp s H,PT (Z6 X (tn++cap.map (·.1)) scope cl C fp s H) ct tt)(he:∀C fp s H,PE (Z6 X (tn++cap.map (·.1)) scope cl C fp s H) elt te)
  (hc:X.calm=true) (hclos:closureFor scope X.env=pure cl) (hcell:∀y∈scope.names,y.2 ≠ .cell) (hk:scope.kind=.function) (hnames:∀y∈scope.names,y.2=.local->scope.names.lookup y.1=some .local)
  (hcl:∀x c,cl.lookup x=some c->X.env.cells.lookup x=some c)
  (hhas:∀C x,((compEnvC scope cl C X.env).kindOf x=some .cell\/(compEnvC scope cl C X.env).kindOf x=some .free)->∃c,cl.lookup x=some c)
  (hcap:∀C,∀p∈cap,X.N[p.2]?= some p.1/\X.env.scope.names.lookup p.1=some .cell/\((compEnvC scope cl C X.env).kindOf p.1=some .cell\/(compEnvC scope cl C X.env).kindOf p.1=some .free))
  (hs:∀v,foldedSetIterable iter X.env v=pure v) (hsw:swapsWith (.ListComp elt [⟨tg,iter,[ct],0⟩] scope pos) (some (.Name y py)) spos.line X.env=pure true) (hf:X.fn y=true\/X.env.scope.names.lookup y=some .local:=by first|exact .inl rfl|exact .inr rfl|assumption) :
  PS X (.Assign [.Name y py] (.ListComp elt [⟨tg,iter,[ct],0⟩] scope pos) spos) (Zk5 (ZiW wi tn.length cap g tt te) (Ze8 n0)):=by
 intro pins s σ H D I h;rw[exec_Assign_Name_used _ _ _ _ hsw];refine wpAny_bind (wpAny_standAt (wpAny_bind ?_));show wpAny _ X.A (do let _ <- comprehension (.ListComp elt [⟨tg,iter,[ct],0⟩] scope pos) scope X.env _ (newList []) false (eval iter X.env) (some (assign (.Name y py) X.env))) _ _ s;refine wpAny_bind (wpAny_mono (wpAny_comprehension_free (use:=some (assign (.Name y py) X.env)) (Q:=fun _ s'=>SP X pins D .next s') rfl hs hclos hk hnames (thn (hi pins s σ H _ I h) fun v s1 h1=>thn h1 fun itv s2 h2=>?_)) (fun _ s' hq=>wpAny_pure (wpAny_pure hq)) fun _ _ e=>e)
 obtain⟨it,fp,tnn,J,H2,e,I2,T,st2,f2,q2⟩:=h2;subst e;refine Zdi (R:=fun p H6=>Ze8 n0 (.ref p) σ H6 (fun σ' H'=>D.nx σ' H')) tn cap hg ht he hc hcell hk hcl hhas hcap I2 T st2 f2 q2 fun s3 H3 I3 f3 acc σ6 H6 s6 I6 q6=>?_;obtain⟨m,hn,_⟩:=I6.loc;have I':Inv X pins σ H6 s6:=I3.call' (ch:=fp) I6.os I6.base I6.hok I6.bare fun b hb=>⟨(f3 b hb).2.2.2.1,(f3 b hb).2.1,(f3 b hb).2.2.2.2.1,(f3 b hb).2.2.2.2.2⟩;have fC:Za0 X pins H6 s3.heap.objs.size:=I3.fpOk (Nat.le_refl _) I6.free;show wpAny _ X.A (assign (.Name y py) X.env (.ref acc)) _ _ s6;refine wpAny_assign_Name (ZcD (v:=.ref acc) I' hN hi0 hx rfl (fun s7 I7 ⟨a,sb,ha⟩=>?_) hf);have nCa:s3.heap.objs.size≠a:=by
  rcases ha with z|z
  ·rw[z];exact fC.2.1
  ·exact(fC.2.2.2.2.1 _ _ z).symm
 exact⟨m,hn.sameBut sb nCa,fun h' sb'=>⟨_,H6,I7.turned (t':=s7.toks) (fun b o hb e=>(sb'.2 b hb).trans e) fC.1 fC.2.1 fC.2.2.2.1 fC.2.2.2.2.1 fC.2.2.2.2.2,q6⟩⟩
end
theorem Zli{P:Program}{w:World}{k:Key}{u:Value}(r:RelV (kV k) u):(ZaZ P w).is k u=true:=by
 cases k with
 | inl i=>obtain⟨t,e⟩:=(show ∃t,u=Value.int i t from r);subst e;exact Zfm P w i t
 | inr x=>obtain⟨t,e⟩:=(show ∃t,u=Value.str x t from r);subst e;exact Ze3 P w x t
theorem Zev{P:Program}{w:World}:∀{ks:List Key}{us:List Value},Vals (ks.map kV) us->ItemsAre (ZaZ P w) ks us
 | [],_,r=>by rw[List.map_nil] at r;cases r;exact .nil
 | k::ks,_,r=>by
  rw[List.map_cons] at r;cases r with
  | cons h t=>exact .cons (Zli h) (Zev t)
section
variable{P:Program}{w:World}{H:Hp}{h:Heap}{a:Addr}
theorem Zkx{ks:List Key}(ok:HOk P w H h)(e:H a=some (.tup (ks.map kV))):(tupleKind (ZaZ P w)).is h ks a:=by
 obtain⟨_,its,r,o,h1,h2,n,h3⟩:=(show Zaw P w H h a (.tup (ks.map kV)) from ok a _ e);exact⟨o,its.toArray,n,h1,h2,h3,by simpa using Zev r⟩
end
theorem Zh4{X:Cx}:ZbU X (.type "int") (fun xs H Q=>∃b,xs=[.bl b]/\Q (.int (if b=true then 1 else 0)) H):=by
 intro pins s σ H xs us Q I r h;obtain⟨b,rfl,q⟩:=h;obtain⟨u,rfl,ru⟩:=vals1 r;cases ru;exact call_int_bool ⟨.int (if b=true then 1 else 0),H,I.tok _,⟨_,rfl⟩,q⟩
section
variable{X:Cx}
def Zlt(K:PySem.W.Frag):R2:=fun x y H Q=>∃l b xs zs,x=.ref l/\y=.ref b/\H l=some (.tup xs)/\H b=some (.tup zs)/\xs.length+zs.length<=sizeLine/\∀p H',Zi H H'->H' p=some (.tup (xs++zs))->Q (.ref p) H'
theorem Ze1:OpR X (binaryOp .Add) (Zlt X.K):=by
 intro pins s σ H x y v u Q I rx ry h;obtain⟨l,b,xs,zs,rfl,rfl,hl,hb,hz,q⟩:=h;cases rx;cases ry;obtain⟨its,r,p1,z1⟩:=I.tuple (SqT.of hl);obtain⟨its2,r2,p2,z2⟩:=I.tuple (SqT.of hb);obtain⟨⟨c1,d1,t1,s1⟩,ho,hc,n,hd⟩:=p1;obtain⟨⟨c2,d2,t2,s2⟩,ho2,hc2,n2,hd2⟩:=p2;simp only at hc hd hc2 hd2;subst hc hd hc2 hd2;have k1:=r.length;have k2:=r2.length;by_cases e1:its=[]
 ·subst e1;cases r;refine concat_meets ⟨_,ho,rfl⟩ ⟨_,ho2,rfl⟩ noFill_tuple_add seq_tuple_add PySem.F.slot_tuple_add PySem.F.entry_tuple_add (PySem.F.args_tuple_add_2 _ _) (tuple_addW0 l b _ _ n n2 d1 d2 s1 s2 rfl) ⟨ho,ho2,?_⟩;exact⟨.ref b,H,I.tok _,rfl,q b H (Zi.refl H) hb⟩
 by_cases e2:its2=[]
 ·subst e2;cases r2;refine concat_meets ⟨_,ho,rfl⟩ ⟨_,ho2,rfl⟩ noFill_tuple_add seq_tuple_add PySem.F.slot_tuple_add PySem.F.entry_tuple_add (PySem.F.args_tuple_add_2 _ _) (tuple_addW1 l b _ _ n n2 d1 d2 s1 s2 (by simpa using e1) rfl) ⟨ho,ho2,?_⟩;exact⟨.ref l,H,I.tok _,rfl,q l H (Zi.refl H) (by rw[List.append_nil];exact hl)⟩
 ·refine concat_meets ⟨_,ho,rfl⟩ ⟨_,ho2,rfl⟩ noFill_tuple_add seq_tuple_add PySem.F.slot_tuple_add PySem.F.entry_tuple_add (PySem.F.args_tuple_add_2 _ _) (tuple_addW2 l b _ _ n n2 d1 d2 s1 s2 (by simpa using e1) (by simpa using e2) (by rw[List.size_toArray,List.size_toArray];lia)) ⟨ho,ho2,?_⟩;have ea:its.toArray++its2.toArray=(its++its2).toArray:=by simp
  rw[ea];have hf:H s.heap.objs.size=none:=I.hok.fresh (Nat.le_refl _);refine⟨.ref s.heap.objs.size,upd H s.heap.objs.size (.tup (xs++zs)),I.laid (t':=s.toks) (fun b u e=>Heap.get?_push_of_some _ e) (Nat.le_refl _) ?_,rfl,q _ _ (Zi.new hf) Zb⟩;exact⟨by rw[List.length_append];exact hz,its++its2,r.append r2,_,Heap.get?_push_size _ rfl,rfl,_,rfl⟩
end
end L2
namespace Fg
open PySem L2 FgM
theorem Zhl{K:PySem.W.Frag}{H:Hp}{a b:Addr}{xs ys:List Str}{n:Nat}{neg:Bool}{Q:VK}(hA:SqL K H a (xs.map V.str))(hB:SqL K H b (ys.map V.str))(o1:OkW xs)(o2:OkW ys)(hn:1<=n)
  (q:Q (.bl (if neg then !decide (xs=ys) else decide (xs=ys))) H):Zk9 K n neg (.ref a) (.ref b) H Q:=by
 refine⟨.list (xs.map PyData.str),.list (ys.map PyData.str),.lst hA (ZbF xs),.lst hB (ZbF ys),ZbZ o1,ZbZ o2,?_,?_⟩
 ·show min (PyData.depthAll (xs.map PyData.str)+1) (PyData.depthAll (ys.map PyData.str)+1)<=n;rw[Za4,Za4];exact hn
 ·have e:PyData.eqv (.list (xs.map PyData.str)) (.list (ys.map PyData.str))=decide (xs=ys):=ZcB xs ys;rw[e];exact q
theorem ZjM(x y:Str)(h:x≠y):decide (x.cps.toList<y.cps.toList)= !decide (y.cps.toList<x.cps.toList):=by
 have hne:x.cps.toList≠y.cps.toList:=fun e=>h (ZkE e);by_cases h1:x.cps.toList<y.cps.toList
 ·rw[decide_eq_true h1,decide_eq_false (fun h2=>List.lt_irrefl _ (List.lt_trans h1 h2))];rfl
 ·rw[decide_eq_false h1];have h2:y.cps.toList<x.cps.toList:=by
   have:=List.not_lt.mp h1;rcases List.le_iff_lt_or_eq.mp this with z|z
   ·exact z
   ·exact absurd z.symm hne
  rw[decide_eq_true h2];rfl
theorem ZfI:∀{xs ys:List Str},xs.length=ys.length->xs≠ys->ZeM xs ys= !ZeM ys xs
 | [],[],_,h=>absurd rfl h
 | [],_::_,h,_=>by simp at h
 | _::_,[],h,_=>by simp at h
 | x::xs,y::ys,hl,hn=>by
  rw[ZeM,ZeM];by_cases e:x=y
  ·subst e;rw[if_pos rfl,if_pos rfl];exact ZfI (by simpa using hl) fun z=>hn (by rw[z])
  ·rw[if_neg e,if_neg (Ne.symm e)];exact ZjM x y e
theorem ZfG{xs ys:List Str}(h:xs≠ys):ZaK xs ys= !ZaK ys xs:=by
 unfold ZaK;by_cases e:xs.length=ys.length
 ·rw[if_pos e,if_pos e.symm];exact ZfI e h
 ·rw[if_neg e,if_neg (Ne.symm e)];by_cases q:xs.length<ys.length
  ·rw[decide_eq_true q,decide_eq_false (by lia)];rfl
  ·rw[decide_eq_false q,decide_eq_true (by lia)];rfl
end Fg
namespace L2
open PySem PySem.Spec PyProof.Rows
theorem lookup_mem{β : Type}{x:Str}{c : β}:∀{l:List (Str × β)},l.lookup x=some c->(x,c)∈l
 | [],h=>by cases h
 | (y,d)::l,h=>by
  rw[List.lookup_cons] at h;cases e:x == y with
  | true =>
   rw[e] at h;cases h;rw[beq_iff_eq.mp e];exact List.mem_cons_self ..
  | false =>
   rw[e] at h;exact List.mem_cons_of_mem _ (lookup_mem h)
theorem Zbg{env:Env}{cl:List (Str×Addr)}(h:∀p∈cl,env.cells.lookup p.1=some p.2):∀x c,cl.lookup x=some c->env.cells.lookup x=some c:=fun x c e=>h (x,c) (lookup_mem e)
theorem ZaV{scope:Scope}{env:Env}{cl:List (Str×Addr)}(h:∀y∈scope.names,(y.2=.cell\/y.2=.free)->∃c,cl.lookup y.1=some c):∀(C:Addr)(x:Str),((compEnvC scope cl C env).kindOf x=some .cell\/(compEnvC scope cl C env).kindOf x=some .free)->∃c,cl.lookup x=some c:=by
 have key:∀(k:NameKind)(x:Str),(k=.cell\/k=.free)->(scope.names.map fun(n,k)=>if(k ==.free&&env.scope.kind ==.function&&env.kindOf n == some .cell) then(n,.cell) else(n,k)).lookup x=some k->∃c,cl.lookup x=some c:=by
  intro k x hk e;obtain⟨⟨n,k0⟩,hy,he⟩:=List.mem_map.mp (lookup_mem e);by_cases hc:(k0 ==.free&&env.scope.kind ==.function&&env.kindOf n == some .cell)=true
  ·simp only[hc,if_true] at he;have h0:k0=.free:=by
    simp only[Bool.and_eq_true] at hc;have:=hc.1.1;cases k0 <;> first|rfl|exact absurd this (by decide)
   injection he with e1 e2;subst e1;exact h _ hy (.inr h0)
  ·simp only[hc] at he;injection he with e1 e2;subst e1 e2;exact h _ hy hk
 intro C x hx;rcases hx with e|e
 ·exact key _ x (.inl rfl) e
 ·exact key _ x (.inr rfl) e
theorem ZhV{X:Cx}{K:PySem.W.Frag}(h:X.K=K):IxR X (ZlO K):=by
 subst h;exact ZP
theorem ZaM{X:Cx}{b:List Stmt}{D:Ends}{σ : St}{H:Hp}(s:List Stmt){t:TS}(h:PSs X s t)(k:∀u,PSs X s u->u=t->∃t,PSs X b t/\t D σ H):∃t,PSs X b t/\t D σ H:=k t h rfl
theorem Zaz{u t:TS}(e:u=t){D:Ends}{σ : St}{H:Hp}(h:t D σ H):u D σ H:=e ▸ h
theorem ZgI{α : Type}:∀{us:List α},us.length=1->∃a,us=[a]
 | [a],_=>⟨a,rfl⟩
theorem Zlx{α : Type}{n:Nat}:∀{us:List α},us.length=n+1->∃a vs,us=a::vs/\vs.length=n
 | a::vs,h=>⟨a,vs,rfl,Nat.succ.inj h⟩
theorem Zjg{α : Type}{us:List α}(h:us.length=2):∃a b,us=[a,b]:=by
 obtain⟨a,vs,rfl,h2⟩:=Zlx h;obtain⟨b,rfl⟩:=ZgI h2;exact⟨a,b,rfl⟩
theorem Zlq{α : Type}{us:List α}(h:us.length=3):∃a b c,us=[a,b,c]:=by
 obtain⟨a,vs,rfl,h2⟩:=Zlx h;obtain⟨b,c,rfl⟩:=Zjg h2;exact⟨a,b,c,rfl⟩
theorem Zl3{α : Type}{us:List α}(h:us.length=4):∃a b c d,us=[a,b,c,d]:=by
 obtain⟨a,vs,rfl,h2⟩:=Zlx h;obtain⟨b,c,d,rfl⟩:=Zlq h2;exact⟨a,b,c,d,rfl⟩
def XO(e:Addr)(C:Value)(d:Option Addr):Heap->Prop:=fun h=>∃oe vs,h.get? e=some oe/\oe.cls=C/\oe.dict=d/\oe.data=.fields vs/\4<vs.size
theorem XO.ext_ok{P:Program}{w:World}{H:Hp}{h:Heap}{e:Addr}{C:Value}{d:Option Addr}(x:XO e C d h):Zaw P w H h e (.ext (XO e C d)):=by
 refine⟨x,?_,fun h1 h2 p k=>?_⟩
 ·obtain⟨oe,_,ho,_⟩:=x;exact⟨oe,ho⟩
 ·obtain⟨oe,vs,ho,r⟩:=p;exact⟨oe,vs,k oe ho,r⟩
theorem Ziu{H:Hp}{a:Addr}{o:HO}(h:H a=some o):upd H a o=H:=by
 funext b
 unfold upd;by_cases e:b=a
 ·subst e;rw[if_pos rfl,h]
 ·rw[if_neg e]
section
variable{X:Cx}{pins:List (Addr×Obj)}{σ : St}{H:Hp}{s:Shared}{e T:Addr}{C:Value}{d:Option Addr}{M:Model}{A:Around}{E:Value->Shared->Prop}{Q:Unit->Shared->Prop}
theorem Inv.xo(I:Inv X pins σ H s)(he:H e=some (.ext (XO e C d))):XO e C d s.heap:=(I.hok e _ he).1
theorem Inv.poke{h':Heap}{t':Nat}(I:Inv X pins σ H s)(he:H e=some (.ext (XO e C d)))(k:∀b u,b≠e->s.heap.get? b=some u->h'.get? b=some u)(x:XO e C d h'):Inv X pins σ H { s with heap:=h',toks:=t' }:=by
 have:=I.write (x:=e) (e:=e) (o:=.ext (XO e C d)) (h':=h') (t':=t') (by rw[he];trivial) (.inl rfl) k (by obtain⟨oe,_,ho,_⟩:=x;exact⟨oe,ho⟩) x.ext_ok
 rwa [Ziu he] at this
def XHead(X:Cx)(pins:List (Addr×Obj))(H:Hp)(h:Heap)(e:Addr)(fl:Value):Prop :=
 ∃T oT ts oe vs,h.get? e=some oe/\oe.data=.fields vs/\vs[1]?= some (.ref T)/\Za0 X pins H T/\h.get? T=some oT/\oT.data=.fields ts/\ts[3]?= some fl
def XSt(X:Cx)(pins:List (Addr×Obj))(H:Hp)(h:Heap)(e:Addr):Prop:=(∃oe vs,h.get? e=some oe/\oe.data=.fields vs/\vs[1]?= some .none)\/XHead X pins H h e .none
theorem Zf3{h:Heap}{a:Addr}{o:Obj}{vs:Array Value}(i:Nat)(x:Value)(ho:h.get? a=some o)(hd:o.data=.fields vs) :
  (h.update a (Obj.mapFields (·.setIfInBounds i x))).get? a=some (o.mapFields (·.setIfInBounds i x)):=Heap.get?_update_self _ ho (Obj.isFreed_of_fields (Obj.data_mapFields hd _))
theorem ZiN(o:Obj)(f:Array Value->Array Value):(o.mapFields f).dict=o.dict:=by
 obtain⟨c,d,dt,sl⟩:=o;cases dt <;> rfl
theorem XO.put{h:Heap}(x:XO e C d h)(i:Nat)(v:Value):XO e C d (h.update e (Obj.mapFields (·.setIfInBounds i v))):=by
 obtain⟨oe,vs,ho,hc,hdd,hd,hz⟩:=x;exact⟨_,_,Zf3 i v ho hd,(Obj.cls_mapFields ..).trans hc,(ZiN ..).trans hdd,Obj.data_mapFields hd _,by simpa using hz⟩
theorem Inv.slots{h':Heap}(I:Inv X pins σ H s)(hs:Heap.SlotsOnly (frs X.stack) s.heap h'):Inv X pins σ H { s with heap:=h' }:=by
 refine I.call' (s':={ s with heap:=h' }) (ch:=[]) rfl ⟨fun b o q n hb _=>(hs.2.1 b hb).trans q,fun b o q _ _ _=>hs.2.2 b o q,fun _ _ _ n _=>n,fun b o q _=>let ⟨sl,e⟩:=hs.2.2 b o q;⟨_,e⟩,fun _ _ q=>q,fun _ _ _ q=>q,fun _ ps q=>⟨#[],by rw[q];simp⟩⟩ ?_ I.bare (fun b z=>absurd z (by simp));intro b o q;have hfr:=I.stkFree;refine(I.hok b o q).stay (fun c u hc z=>?_) (fun _ z=>z) (fun _ _ z=>z);have hn:c∉frs X.stack:=by
  intro hm;rcases hc with rfl|hc
  ·rw[hfr _ hm] at q;cases q
  ·rw[hfr _ hm] at hc;cases hc
 exact(hs.2.1 c hn).trans z
theorem Zfx{head:Value}{hadNext:Bool}(hA:A.frames=some (X.env::X.outer))(hstk:X.stack=X.env::X.outer)(hf:X.env.frame=some X.env.locals)(I:Inv X pins σ H s)(he:H e=some (.ext (XO e C d)))
  (h:∀h',Inv X pins σ H { s with heap:=h' }->XHead X pins H h' e (rawInt X.env.locals)->Q () { s with heap:=h' }) :
  wpAny M A (frameOf X.env >>= fun a=>entryPlaceOf X.env.locals hadNext >>= fun pl=>EntryCells.newEntry head a .none (rawInt X.env.locals) .none pl >>= fun b=>setField (.ref e) 1 b) Q E s:=by
 have hl:s.heap.FunFrames X.base (X.env::X.outer):=hstk ▸ I.stack;refine wpAny_bind (wpAny_frameOf_fun hA hl hf fun h1 hs1=>?_);have I1:Inv X pins σ H { s with heap:=h1 }:=I.slots (by rw[hstk];exact hs1);refine wpAny_bind (wpAny_entryPlaceOf fun pl hpl=>?_);unfold EntryCells.newEntry newFields;refine wpAny_bind (wpAny_newObj_type ?_ (hpl.sizeOk5 _ _ _ _ _));generalize hob:({ cls:=Value.type "traceback",dict:=none,data:=Data.fields ([head,Value.ref X.env.locals,Value.none,rawInt X.env.locals,Value.none]++(if pl.isEmpty then List.replicate 6 Value.none else pl)).toArray }:Obj)=ob
 have I2:Inv X pins σ H { s with heap:=h1.push ob }:=I1.kept (h':=h1.push ob) (t':=s.toks) fun b u q=>Heap.get?_push_of_some _ q;obtain⟨oe,vs,ho,hc,hdd,hd,hz⟩:=I2.xo he;refine wpAny_setField ho hd (by lia) (h _ (I2.poke (t':=s.toks) he (fun b u hb q=>(Heap.get?_update_other _ _ (Ne.symm hb)).trans q) ((I2.xo he).put 1 _)) ?_);have hT:(h1.push ob).get? h1.objs.size=some ob:=Heap.get?_push_size _ (by rw[<- hob];rfl);have hne:e≠h1.objs.size:=fun z=>by
  have:=I1.hok.lt he;rw[z] at this;exact absurd this (Nat.lt_irrefl _)
 refine⟨h1.objs.size,ob,([head,Value.ref X.env.locals,Value.none,rawInt X.env.locals,Value.none]++(if pl.isEmpty then List.replicate 6 Value.none else pl)).toArray,_,_,Zf3 1 _ ho hd,Obj.data_mapFields hd _,?_,I1.fpOk (Nat.le_refl _) (I1.hok.fresh (Nat.le_refl _)),(Heap.get?_update_other _ _ hne).trans hT,?_,?_⟩
 ·rw[Array.getElem?_setIfInBounds_self_of_lt (by lia)]
 ·rw[<- hob]
 ·simp
theorem ZhQ(hA:A.frames=some (X.env::X.outer))(hstk:X.stack=X.env::X.outer)(hf:X.env.frame=some X.env.locals)(I:Inv X pins σ H s)(he:H e=some (.ext (XO e C d)))(x:XSt X pins H s.heap e)
  (h:∀h',Inv X pins σ H { s with heap:=h' }->XHead X pins H h' e (rawInt X.env.locals)->Q () { s with heap:=h' }):wpAny M A (noteFrame (.ref e) X.env) Q E s:=by
 unfold noteFrame;simp only[hf];rcases x with⟨oe,vs,ho,hd,h1⟩|⟨T,oT,ts,oe,vs,ho,hd,h1,fT,hT,hdT,h3⟩
 ·refine wpAny_bind (wpAny_field ho hd h1 ?_);rw[if_neg (by decide)];exact Zfx hA hstk hf I he h
 ·refine wpAny_bind (wpAny_field ho hd h1 ?_);rw[if_pos (show(Value.ref T != Value.none)=true by simp)];refine wpAny_bind (wpAny_field hT hdT h3 ?_);rw[if_neg (show ¬ ((Value.none == rawInt X.env.locals)=true) by simp[rawInt])];refine wpAny_bind (wpAny_setField hT hdT (Array.getElem?_eq_some_iff.mp h3).1 ?_);obtain⟨f0,f1,f2,f3,f4,f5⟩:=fT;have I1:=I.turned (t':=s.toks) (h':=s.heap.update T (Obj.mapFields (·.setIfInBounds 3 Value.none))) (fun b u hb q=>(Heap.get?_update_other _ _ (Ne.symm hb)).trans q) f0 f1 f3 f4 f5;exact Zfx hA hstk hf I1 he h
theorem ZgK{fl:Value}(I:Inv X pins σ H s)(he:H e=some (.ext (XO e C d)))(x:XHead X pins H s.heap e fl)
  (h:∀h',Inv X pins σ H { s with heap:=h' }->XHead X pins H h' e .none->Q () { s with heap:=h' }):wpAny M A (setFlight (.ref e) none) Q E s:=by
 obtain⟨T,oT,ts,oe,vs,ho,hd,h1,fT,hT,hdT,h3⟩:=x;unfold setFlight;refine wpAny_bind (wpAny_field ho hd h1 ?_);rw[if_pos (show(Value.ref T != Value.none)=true by simp)];refine wpAny_setField hT hdT (Array.getElem?_eq_some_iff.mp h3).1 ?_;obtain⟨f0,f1,f2,f3,f4,f5⟩:=id fT;have hne:T≠e:=fun z=>by subst z;rw[f0] at he;cases he
 refine h _ (I.turned (t':=s.toks) (fun b u hb q=>(Heap.get?_update_other _ _ (Ne.symm hb)).trans q) f0 f1 f3 f4 f5) ⟨T,_,_,oe,vs,(Heap.get?_update_other _ _ hne).trans ho,hd,h1,fT,Zf3 3 _ hT hdT,Obj.data_mapFields hdT _,?_⟩;rw[Array.getElem?_setIfInBounds_self_of_lt (Array.getElem?_eq_some_iff.mp h3).1];rfl
end
abbrev XKS:=St->XK
def CXE(P:Program)(w:World):CXT:=fun outer H s E ev s'=>∃(e:Addr)(C:Value)(d:Option Addr)(H':Hp),ev=.ref e/\s'.os=s.os/\AllBare s'.gens/\Un (frs outer) [] H H' s.heap s'.heap/\HOk P w H' s'.heap /\
 H' e=some (.ext (XO e C d))/\s.heap.objs.size<=e/\(∃T oT ts oe vs,s'.heap.get? e=some oe/\oe.data=.fields vs/\vs[1]?= some (.ref T)/\H' T=none/\s.heap.objs.size<=T/\s'.heap.get? T=some oT/\oT.data=.fields ts/\ts[3]?= some .none)/\E C d H'
def Zfc(X:Cx)(E:XKS):Prop := ∀(pins:List (Addr×Obj))(σ : St)(H:Hp)(s:Shared)(e:Addr)(C:Value)(d:Option Addr),Inv X pins σ H s->H e=some (.ext (XO e C d))->(X.ex=[]->X.s₀.heap.objs.size<=e)->XSt X pins H s.heap e->E σ C d H->X.xe (.ref e) s
theorem ZhO{P:Program}{w:World}{K:PySem.W.Frag}{mg:Str->Option Value}{base:Heap}{N:List Str}{qual:Str}{scope:Scope}{f:Addr}{cd:Value}{A:Around}{outer:List Env}{s:Shared}{H:Hp}{E:XK} :
  Zfc (Zia (CXE P w) P w K mg base N qual scope f cd A outer s H E) (fun _=>E):=by
 intro pins σ H1 s1 e C d I he hy x hE;show wpAny _ _ (leaving _ _) _ _ s1;unfold leaving;refine wpAny_bind (ZhQ (X:=Zia (CXE P w) P w K mg base N qual scope f cd A outer s H E) I.ok.frames rfl rfl I he x fun h2 I2 x2=>ZgK I2 he x2 fun h3 I3 x3=>?_);obtain⟨T,oT,ts,oe,vs,ho,hd,h1,fT,hT,hdT,h3'⟩:=x3;refine⟨e,C,d,H1,rfl,I3.os,I3.bare,I3.base,I3.hok,he,hy rfl,⟨T,oT,ts,oe,vs,ho,hd,h1,fT.1,?_,hT,hdT,h3'⟩,hE⟩;rcases fT.2.2.2.1 with z|z
 ·exact absurd z (by show T∉([]:List Addr);simp)
 ·exact z
theorem ZgF{X:Cx}{E:XKS}(hT:Zfc X E){pins:List (Addr×Obj)}{σ : St}{H:Hp}{s s':Shared}{ev:Value}(I:Inv X pins σ H s)(h:CXE X.prog X.w X.stack H s (E σ) ev s'):X.xe ev s':=by
 obtain⟨e,C,d,H',rfl,os,bare,un,hok,he,hes,⟨T,oT,ts,oe,vs,ho,hd,h1,hTn,hTs,hT',hdT,h3⟩,hE⟩:=h;have I1:=I.call' (ch:=[]) os un hok bare (fun b z=>absurd z (by simp));exact hT pins σ H' s' e C d I1 he (fun _=>Nat.le_trans I.sz hes) (.inr ⟨T,oT,ts,oe,vs,ho,hd,h1,I.fpOk hTs hTn,hT',hdT,h3⟩) hE
structure HasX(P:Program)(w:World)(K:PySem.W.Frag)(mg:Str->Option Value)(base:Heap)(x:Str)(ps:List Str)(k:Nat)(sp:Sp):Prop where
 ex:∃(f:Addr)(fd:FuncData),FnOk P w K mg base (CXE P w) k f fd ps sp/\Binds K fd ps []/\PySem.W.keepIn K (.ref f)=true/\mg x=some (.ref f)
def Zkm(sp:Sp)(E:XKS)(t:TA):TE:=fun σ H Q=>t σ H fun vs H1=>sp vs H1 Q (E σ)
section
variable{X:Cx}{j k:Nat}{f:Addr}{fd:FuncData}{ps:List Str}{sp:Sp}{E:XKS}{x:Str}{p pos:Pos}{e:Expr}{es:List Expr}{t:TA}
theorem ZjI{pins:List (Addr×Obj)}{σ : St}{H:Hp}{s:Shared}{Q:VK}{us:List Value}{vs:List V}(F:FnOk X.prog X.w X.K X.mg X.base (CXE X.prog X.w) k f fd ps sp)(hr:Room k X.A)(hb:Binds X.K fd ps [])(hT:Zfc X E)
  (I:Inv X pins σ H s) (r:Vals vs us) (h:sp vs H Q (E σ)):wpAny (model X.prog X.w) X.A (call (.ref f) us) (EP X pins σ Q) X.xe s:=by
 have hl:us.length=ps.length:=by rw[<- r.length];exact F.len _ _ _ _ h
 have hbb:=hb s us I.kIn (by rw[List.append_nil];exact hl);rw[List.append_nil] at hbb;refine wpAny_call (codeAny_mono (F.run X.A X.stack s H ⟨us,[]⟩ us vs Q (E σ) hr I.env0 hbb r h) fun r s' hq=>?_);cases r with
 | error e=>exact ZgF hT I hq
 | ok fl =>
  cases fl with
  | ret u=>exact I.after hq
  | next=>exact False.elim hq
  | brk=>exact False.elim hq
  | cont=>exact False.elim hq
theorem Zhb(G:HasX X.prog X.w X.K X.mg X.base x ps j sp)(hT:Zfc X E)(hr:Room k X.A)(hg:Gl X x)(ha:PA X (e::es) t)(hk:j<=k:=by decide)(hdb:(x == ("__debug__" : Str))=false:=by decide)
  (he:starEach (e::es) X.env=(false,eval e X.env)::starEach es X.env:=by rfl) (hpl:(backTo pos (starEach es X.env)).any (·.1)=false:=by rfl) :
  PE X (.Call (.Name x p) (e::es) [] pos) (Zkm sp E t):=by
 obtain⟨f,fd,F,b,kp,m⟩:=G.ex;intro pins s σ H Q I h;refine wpAny_Call_Name_kw (Zdz I hg m ?_ hdb);refine PySem.W.callWith_K (h₀ := X.base) I.ok.mod.kin kp (thn (ha pos pins s σ H _ I h) fun us s1 ⟨vs,H1,I1,r,q⟩=>⟨I1.kIn,?_⟩) he hpl;exact ZjI (F.room hk) hr b hT I1 r q
end
theorem Fun.okX{P:Program}{w:World}{K:PySem.W.Frag}{mg:Str->Option Value}{base:Heap}{x qual:Str}{st:Stmt}{f:Addr}{fd:FuncData}{N ps:List Str}{k:Nat}{sp:Sp}(F:Fun K x qual st f fd)(S:FnScope N ps (Zg st))(len:∀vs H Q E,sp vs H Q E->vs.length=ps.length)
  (hbody:∀(cdv:Value)(A:Around)(outer:List Env)(s:Shared)(H:Hp)(vs:List V)(Q:VK)(E:XK),Room k (A.deeper (envOfC qual (Zg st) s.heap.objs.size f cdv))->sp vs H Q E ->
   ∃t,PSs (Zia (CXE P w) P w K mg base N qual (Zg st) f cdv A outer s H E) (Zj st) t/\t { nx:=fun _ H'=>Q .non H',rt:=Q } (start N vs) H):FnOk P w K mg base (CXE P w) (k+1) f fd ps sp:=by
 obtain⟨oc,od,kV,doc,pm,an,cdv,ct,osl,rfl,lk,hcd⟩:=F.ex;exact ZjH lk hcd S len fun A outer s H vs Q E hr hsp=>hbody cdv A outer s H vs Q E hr hsp
structure XCl(K:PySem.W.Frag)(D:Addr):Prop where
 cl:PySem.W.isClsIn K D=true
 exc:PySem.W.mroIn K D (.type "BaseException")=some true
 nt:PySem.W.instIn K (.ref D) (.type "tuple")=some false
inductive Spec(K:PySem.W.Frag)(H:Hp):V->List Addr->Prop
 | one {D:Addr}:XCl K D->Spec K H (.ref D) [D]
 | many {p:Addr} {Ds:List Addr}:SqT K H p (Ds.map V.ref)->(∀D∈Ds,XCl K D)->Spec K H (.ref p) Ds
theorem ZeF:∀{Ds:List Addr}{us:List Value},Vals (Ds.map V.ref) us->us=Ds.map Value.ref
 | [],_,.nil=>rfl
 | D::Ds,_,.cons r t=>by
  rw[ZeF t];obtain rfl:_=Value.ref D:=r;rfl
section
variable{M:Model}{A:Around}{E:Value->Shared->Prop}{s:Shared}{K:PySem.W.Frag}{D:Addr}
theorem XCl.isExc(x:XCl K D)(X:K.In s.heap){Q:Bool->Shared->Prop}(h:Q true s):wpAny M A (isExcClass (.ref D)) Q E s:=by
 have hc:=x.cl;unfold PySem.W.isClsIn PySem.W.clsIn at hc
 split at hc
 ·rename_i ho
  unfold isExcClass;refine wpAny_bind ?_;show wpAny M A (loadHead D >>= _) _ _ s;refine wpAny_bind (wpAny_loadPart (X _ _ ho) (wpAny_pure ?_));dsimp only;rw[if_pos rfl];exact(PySem.W.looks_mroIn X x.exc).here h
 ·cases hc
theorem Zfn{g:Value->PUnit->Sem (ForInStep PUnit)}:∀(Ls:List Addr),(∀D∈Ls,∀{Q:ForInStep PUnit->Shared->Prop},Q (.yield PUnit.unit) s->wpAny M A (g (.ref D) PUnit.unit) Q E s)->∀{Q:PUnit->Shared->Prop},Q PUnit.unit s->wpAny M A (forIn (Ls.map Value.ref) PUnit.unit g) Q E s
 | [],_,_,h=>wpAny_pure h
 | D::Ls,hg,_,h=>by
  rw[List.map_cons,List.forIn_cons];exact wpAny_bind (hg D (List.mem_cons_self ..) (Zfn Ls (fun y hy=>hg y (List.mem_cons_of_mem _ hy)) h))
theorem ZgT{f:Addr->Bool}{g:Value->Option Bool×Unit->Sem (ForInStep (Option Bool×Unit))}:∀(Ls:List Addr),(∀D∈Ls,∀{Q:ForInStep (Option Bool×Unit)->Shared->Prop},Q (if f D=true then .done (some true,()) else .yield (none,())) s->wpAny M A (g (.ref D) (none,())) Q E s) ->
  ∀{Q:Option Bool×Unit->Shared->Prop},Q (if Ls.any f=true then some true else none,()) s->wpAny M A (forIn (Ls.map Value.ref) ((none,()):Option Bool×Unit) g) Q E s
 | [],_,_,h=>wpAny_pure h
 | D::Ls,hg,_,h=>by
  rw[List.map_cons,List.forIn_cons];rw[List.any_cons] at h;refine wpAny_bind (hg D (List.mem_cons_self ..) ?_);cases hf:f D with
  | true =>
   rw[hf] at h;exact wpAny_pure h
  | false =>
   rw[hf] at h;exact ZgT Ls (fun y hy=>hg y (List.mem_cons_of_mem _ hy)) h
theorem Zla{X:Cx}{pins:List (Addr×Obj)}{σ : St}{H:Hp}{f:Addr->Bool}{C e:Addr}{oe:Obj}{Q:Bool->Shared->Prop}{v:V}{u:Value}{Ds:List Addr}(I:Inv X pins σ H s)(hv:Spec X.K H v Ds)(r:RelV v u)(he:s.heap.get? e=some oe)(hc:oe.cls=.ref C)
  (hb:∀D∈Ds,PySem.W.mroIn X.K C (.ref D)=some (f D)) (h:Q (Ds.any f) s):wpAny M A (excMatches (.ref e) u) Q E s:=by
 cases hv with
 | @one D hD =>
  obtain rfl:u=Value.ref D:=r;unfold excMatches;refine wpAny_bind ((PySem.W.looks_instIn I.kIn hD.nt).here ?_);dsimp only;rw[if_neg Bool.false_ne_true];refine wpAny_bind (wpAny_pure ?_);refine wpAny_bind (Zfn [D] (fun y hy {Q} q=>?_) (wpAny_bind (wpAny_typeOf_ref he (wpAny_bind (ZgT (f:=f) [D] (fun y hy {Q} q=>?_) ?_)))))
  ·obtain rfl:=List.mem_singleton.mp hy;exact wpAny_bind (hD.isExc I.kIn (wpAny_pure q))
  ·rw[hc];refine wpAny_bind ((PySem.W.looks_mroIn I.kIn (hb y hy)).here ?_);cases hf:f y with
   | true=>rw[hf] at q;exact wpAny_pure q
   | false=>rw[hf] at q;exact wpAny_pure q
  ·cases hf:[D].any f with
   | true=>rw[hf] at h;exact wpAny_pure h
   | false=>rw[hf] at h;exact wpAny_pure h
 | @many p _ hp hD =>
  obtain rfl:u=Value.ref p:=r;obtain⟨its,rv,⟨o,ho,hcl,n,hd⟩,_⟩:=I.tuple hp;unfold excMatches;refine wpAny_bind (wpAny_isInstance (T := "tuple") ⟨o,ho,hcl⟩ (show isSubtype (.type "tuple") (.type "tuple")=pure true by rw[isSubtype_type];kernel_rfl) ?_);dsimp only;rw[if_pos rfl];refine wpAny_bind (wpAny_seqItems ho hd (wpAny_bind (wpAny_pure ?_)));have e1:((some its.toArray).getD #[]).toList=Ds.map Value.ref:=by
   rw[<- ZeF rv];rfl
  rw[e1];refine wpAny_bind (Zfn Ds (fun y hy {Q} q=>?_) (wpAny_bind (wpAny_typeOf_ref he (wpAny_bind (ZgT (f:=f) Ds (fun y hy {Q} q=>?_) ?_)))))
  ·exact wpAny_bind ((hD y hy).isExc I.kIn (wpAny_pure q))
  ·rw[hc];refine wpAny_bind ((PySem.W.looks_mroIn I.kIn (hb y hy)).here ?_);cases hf:f y with
   | true=>rw[hf] at q;exact wpAny_pure q
   | false=>rw[hf] at q;exact wpAny_pure q
  ·cases hf:Ds.any f with
   | true=>rw[hf] at h;exact wpAny_pure h
   | false=>rw[hf] at h;exact wpAny_pure h
end
abbrev Cx.tr(X:Cx)(pins:List (Addr×Obj))(E:Value->Shared->Prop):Cx:={ X with pn:=X.pn++pins,xe:=E }
abbrev Cx.hd(X:Cx)(e:Addr):Cx:={ X with A:=X.A.mark (some (.ref e)),calm:=false,xe:=fun _ _=>False }
section
variable{X:Cx}{pins pins':List (Addr×Obj)}{σ : St}{H:Hp}{s:Shared}{e:Addr}{E:Value->Shared->Prop}
theorem Inv.tr(I:Inv X pins σ H s)(E:Value->Shared->Prop):Inv (X.tr pins E) [] σ H s :=
 ⟨⟨I.ok.mod,I.ok.kind,I.ok.glob,I.ok.blt,I.ok.above,I.ok.inj,I.ok.has,I.ok.cab,I.ok.hd,I.ok.frames,I.ok.stk,I.ok.exf,I.ok.bs,I.ok.bsz,I.ok.noex,I.ok.exfs,I.ok.funs,I.ok.frf⟩,I.os,I.bare,I.base,I.loc,I.cell,I.free,I.freeC,fun p hp=>I.pin p (by simpa using hp),I.hok,I.len⟩
theorem Inv.untr(I:Inv (X.tr pins E) pins' σ H s):Inv X pins σ H s :=
 ⟨⟨I.ok.mod,I.ok.kind,I.ok.glob,I.ok.blt,I.ok.above,I.ok.inj,I.ok.has,I.ok.cab,I.ok.hd,I.ok.frames,I.ok.stk,I.ok.exf,I.ok.bs,I.ok.bsz,I.ok.noex,I.ok.exfs,I.ok.funs,I.ok.frf⟩,I.os,I.bare,I.base,I.loc,I.cell,I.free,I.freeC,fun p hp=>I.pin p (List.mem_append_left _ hp),I.hok,I.len⟩
theorem Za0.untr{T:Addr}(f:Za0 (X.tr pins E) pins' H T):Za0 X pins H T:=⟨f.1,f.2.1,f.2.2.1,f.2.2.2.1,f.2.2.2.2.1,fun p hp=>f.2.2.2.2.2 p (List.mem_append_left _ hp)⟩
theorem Inv.hd(I:Inv X pins σ H s)(e:Addr):Inv (X.hd e) pins σ H s :=
 ⟨⟨I.ok.mod,I.ok.kind,I.ok.glob,I.ok.blt,I.ok.above,I.ok.inj,I.ok.has,I.ok.cab,(fun z=>nomatch z),I.ok.frames,I.ok.stk,I.ok.exf,I.ok.bs,I.ok.bsz,I.ok.noex,I.ok.exfs,I.ok.funs,I.ok.frf⟩,I.os,I.bare,I.base,I.loc,I.cell,I.free,I.freeC,I.pin,I.hok,I.len⟩
theorem Inv.unhd(I:Inv (X.hd e) pins σ H s)(ok:X.Ok):Inv X pins σ H s:=⟨ok,I.os,I.bare,I.base,I.loc,I.cell,I.free,I.freeC,I.pin,I.hok,I.len⟩
theorem Inv.drop1{p:Addr×Obj}(I:Inv X (p::pins) σ H s):Inv X pins σ H s:=I.pins_of fun q hq=>I.pin q (List.mem_append_right _ (List.mem_cons_of_mem _ hq))
theorem SP.untr{D:Ends}{f:Flow}{s':Shared}(h:SP (X.tr pins E) pins' D f s'):SP X pins D f s':=by
 cases f with
 | next=>obtain⟨σ',H',I,q⟩:=h;exact⟨σ',H',I.untr,q⟩
 | brk=>obtain⟨σ',H',I,q⟩:=h;exact⟨σ',H',I.untr,q⟩
 | cont=>obtain⟨σ',H',I,q⟩:=h;exact⟨σ',H',I.untr,q⟩
 | ret u=>obtain⟨v,σ',H',I,r,q⟩:=h;exact⟨v,σ',H',I.untr,r,q⟩
end
def Known(e:Addr)(oe:Obj):HO:=.ext fun h=>h.get? e=some oe
theorem Ziq{P:Program}{w:World}{H:Hp}{h:Heap}{e:Addr}{oe:Obj}(x:h.get? e=some oe):Zaw P w H h e (Known e oe):=⟨x,⟨oe,x⟩,fun _ _ p k=>k _ p⟩
abbrev THS:=Ends->St->Hp->Addr->Obj->Prop
def PH(X:Cx)(hs:List ExceptHandler)(t:THS):Prop := ∀(pins:List (Addr×Obj))(s:Shared)(σ : St)(H:Hp)(D:Ends)(e:Addr)(oe:Obj)(T:Addr)(oT:Obj)(ts vs:Array Value),
 Inv X ((T,oT)::pins) σ H s->Za0 X pins H T->oe.data=.fields vs->vs[1]?= some (.ref T)->oT.data=.fields ts->ts[3]?= some .none->H e=some (Known e oe)->t D σ H e oe ->
 wpAny (model X.prog X.w) X.A (handleBy (.ref e) X.env hs) (SP X pins D) X.xe s
def ZlU(tb:XKS->TS)(th:THS):TS:=fun D σ H=>∃E:XKS,tb E D σ H/\∀(σ':St)(C:Value)(d:Option Addr)(H':Hp)(e:Addr)(oe:Obj),E σ' C d H'->H' e=some (.ext (XO e C d))->oe.cls=C->oe.dict=d->(∃vs,oe.data=.fields vs)->th D σ' (upd H' e (Known e oe)) e oe
section
variable{X:Cx}{body:List Stmt}{h₀ : ExceptHandler}{hs rest:List ExceptHandler}{tb:XKS->TS}{th tr:THS}{pos:Pos}
theorem Zkf(hstk:X.stack=X.env::X.outer)(hf:X.env.frame=some X.env.locals)
  (hb:∀(E:XKS)(pins:List (Addr×Obj))(E₁ : Value->Shared->Prop),Zfc (X.tr pins E₁) E->PassesOwn (model X.prog X.w) X.A X.env E₁ -> PSs (X.tr pins E₁) body (tb E)) (hh:PH X (h₀ :: hs) th):PS X (.Try body (h₀ :: hs) [] [] pos) (ZlU tb th):=by
 intro pins s σ H D I h;obtain⟨E,h1,h2⟩:=h;refine wpAny_Try_except ?_;refine wpAny_mono (hb E pins _ ?_ PassesOwn.looking [] s σ H D (I.tr _) h1) (fun f s1 q=>?_) fun e s1 q=>q
 ·intro pins' σ' H' s1 e C d I1 he hy x hE;refine ZhQ (X:=X.tr pins _) (by rw[I.ok.frames,hstk]) hstk hf I1 he x fun h2' I2 x2=>ZgK I2 he x2 fun h3 I3 x3=>?_;obtain⟨T,oT,ts,oe,vs,ho,hd,hv1,fT,hT,hdT,h3'⟩:=x3;obtain⟨oe',vs',ho',hc,hdd,_⟩:=I3.xo he;rw[ho] at ho';cases ho';have I4:=I3.untr;have I5:=I4.write (x:=e) (e:=e) (o:=Known e oe) (t':=s1.toks) (h':=h3) (by rw[he];trivial) (.inl rfl) (fun b u _ z=>z) ⟨oe,ho⟩ (Ziq ho);have fT':=fT.untr;have hne:T≠e:=fun z=>by subst z;rw[fT'.1] at he;cases he
  have fT2:Za0 X pins (upd H' e (Known e oe)) T:=⟨by rw[Zh hne];exact fT'.1,fT'.2⟩;have I6:Inv X ((T,oT)::pins) σ' (upd H' e (Known e oe)) { s1 with heap:=h3 }:=I5.pins_of fun p hp=>by
   rcases List.mem_cons.mp hp with rfl|hp
   ·exact⟨hT,fT2.1,fT2.2.1,fT2.2.2.1,fun v z=>by rw[hdT] at z;cases z⟩
   ·exact I5.pin p (List.mem_append_right _ hp)
  exact hh pins _ σ' _ D e oe T oT ts vs I6 fT2 hd hv1 hdT h3' Zb (h2 σ' C d H' e oe hE he hc hdd ⟨vs,hd⟩)
 ·cases f with
  | next =>
   obtain⟨σ',H',I',q⟩:=q;exact wpAny_execs_nil ⟨σ',H',I'.untr,q⟩
  | brk=>exact SP.untr q
  | cont=>exact SP.untr q
  | ret u=>exact SP.untr q
theorem ZbW{M:Model}{A:Around}{E:Value->Shared->Prop}{pins:List (Addr×Obj)}{σ : St}{H:Hp}{s:Shared}{i:Nat}{n:Str}{Q:Unit->Shared->Prop}(I:Inv X pins σ H s)(hN:X.N.Nodup)(hi:X.N[i]?= some n)(hk:X.env.scope.names.lookup n=some .local)
  (h:∀s',Inv X pins (σ.set i none) H s'->Q () s'):wpAny M A (bindName X.env n .none >>= fun _=>unbindBehindTheSuite X.env n pos) Q E s:=by
 obtain⟨m,hn,hl⟩:=id I.loc;have hcls:(X.env.scope.kind ==.class || (X.env.scope.kind ==.module&&X.env.locals != X.env.globals))=false:=by rw[I.ok.kind];rfl
 have hl0:X.env.kindOf n=some .local:=hk;refine wpAny_bind (wpAny_bindName (wpAny_storeName_local hl0 hn (fun ha hna hsa=>?_) hcls));unfold unbindBehindTheSuite;refine wpAny_onRaise ?_;unfold unbindName deleteName;refine wpAny_bind (wpAny_point (wpAny_bind ?_));simp only[hl0,hcls];rw[if_neg (by decide)];refine wpAny_bind (wpAny_nsDel_keeps hna fun hb v hnb hsb=>?_);simp only[if_true,Option.isSome_some,Bool.not_true,Bool.false_eq_true,if_false];refine wpAny_pure (wpAny_point (h _ ?_));have hs:=hsa.trans hsb;obtain⟨oL,_,_,hoL,_⟩:=id hn;have cne:=I.cne;refine⟨I.ok,I.os,I.bare,⟨fun b o e n hb hx=>?_,fun b o e n hb hx=>?_,I.base.free,fun b o e hx=>?_,I.base.tups,I.base.frzs,I.base.tbls⟩,⟨_,hnb,fun j y v' e1 e2 e3=>?_⟩,fun y c e=>?_,I.free,I.freeC,fun p hp=>?_,fun b ob e=>?_,by simpa using I.len⟩
 ·exact(hs.2 b (Nat.ne_of_lt (Nat.lt_of_lt_of_le (Heap.lt_size e) I.ok.above))).trans (I.base.keep b o e n hb hx)
 ·obtain⟨sl,e1⟩:=I.base.slot b o e n hb hx;exact⟨sl,(hs.2 b (Nat.ne_of_lt (Nat.lt_of_lt_of_le (Heap.lt_size e) I.ok.above))).trans e1⟩
 ·obtain⟨o',e1⟩:=I.base.there b o e hx;exact⟨o',(hs.2 b (Nat.ne_of_lt (Nat.lt_of_lt_of_le (Heap.lt_size e) I.ok.above))).trans e1⟩
 ·by_cases hj:j=i
  ·subst hj;by_cases hlt:j < σ.length
   ·rw[List.getElem?_set_self hlt] at e2;cases e2
   ·rw[List.getElem?_eq_none (by rw[List.length_set];lia)] at e2;cases e2
  ·rw[List.getElem?_set_ne (Ne.symm hj)] at e2;obtain⟨u',r',q⟩:=hl j y v' e1 e2 e3;refine⟨u',r',?_⟩;rcases q with⟨k,e⟩|⟨k,c,e,z⟩
   ·refine .inl ⟨k,?_⟩;have:y≠n:=fun e=>hj (Zd4 hN e1 (e ▸ hi));simp[this,e]
   ·exact .inr ⟨k,c,e,z.sameBut hs (cne y c e)⟩
 ·obtain⟨w',z⟩:=I.cell y c e;exact⟨w',z.sameBut hs (cne y c e)⟩
 ·obtain⟨e,n,ne,nf,d⟩:=I.pin p hp;exact⟨(hs.2 p.1 ne).trans e,n,ne,nf,d⟩
 ·refine(I.hok b ob e).stay (fun c w' hc q=>(hs.2 c ?_).trans q) (fun _ q=>q) fun _ _ q=>q;rintro rfl;rcases hc with rfl|hc
  ·rw[I.free] at e;cases e
  ·rw[I.free] at hc;cases hc
def unb(D:Ends)(i:Nat):Ends:={ nx:=fun σ H=>D.nx (σ.set i none) H,rt:=D.rt,bk:=fun σ H=>D.bk (σ.set i none) H,ct:=fun σ H=>D.ct (σ.set i none) H }
theorem Ze6{M:Model}{A:Around}{E:Value->Shared->Prop}{s:Shared}{e T:Addr}{oe oT:Obj}{vs ts:Array Value}{Q:Unit->Shared->Prop}(ho:s.heap.get? e=some oe)(hd:oe.data=.fields vs)(h1:vs[1]?= some (.ref T))(hT:s.heap.get? T=some oT)(hdT:oT.data=.fields ts)(h3:ts[3]?= some .none)(h:Q () s) :
  wpAny M A (setFlight (.ref e) none) Q E s:=by
 unfold setFlight;refine wpAny_bind (wpAny_field ho hd h1 ?_);rw[if_pos (show(Value.ref T != Value.none)=true by simp)];refine wpAny_setField hT hdT (Array.getElem?_eq_some_iff.mp h3).1 ?_;show Q () { s with heap:=s.heap.update T (Obj.mapFields (·.setIfInBounds 3 Value.none)) };rw[Heap.update_setField_same s.heap T oT ts 3 .none hT hdT h3];exact h
theorem Zlf{t:Expr}{n:Str}{b₀ : Stmt}{sb:List Stmt}{tt:TE}{tu:TS}{i:Nat}(ht:∀e,PE (X.hd e) t tt)(hN:X.N.Nodup)(hi:X.N[i]?= some n)(hk:X.env.scope.names.lookup n=some .local)(hs:∀e,PSs (X.hd e) (b₀ :: sb) tu):PH X (.ExceptHandler (some t) (some n) (b₀ :: sb) pos::rest)
  (fun D σ H e oe=>tt σ H fun v H1=>∃Ds C f,Spec X.K H1 v Ds/\oe.cls=.ref C/\(∀D∈Ds,PySem.W.mroIn X.K C (.ref D)=some (f D))/\Ds.any f=true/\H1 e=some (Known e oe)/\tu (unb D i) (σ.set i (some (.ref e))) H1):=by
 intro pins s σ H D e oe T oT ts vs I fT hd h1 hdT h3 he h;refine wpAny_handleBy_cons (codeAny_handlers_test (wpAny_mono ((ht e) ((T,oT)::pins) s σ H _ (I.hd e) h) (fun u s1 q=>?_) fun _ _ z=>z.elim)) (by intro z;cases z);obtain⟨v,H1,I1,r,Ds,C,f,hsp,hc,hb,hany,hkn,q⟩:=q;have I1':=I1.unhd I.ok;have hoe:=(I1'.hok e _ hkn).1;refine Zla (f:=f) I1' hsp r hoe hc hb ?_;rw[hany];refine codeAny_handlers_suite_as ?_;have hTo:=(I1'.pin (T,oT) (List.mem_append_right _ (List.mem_cons_self ..))).1;refine Ze6 hoe hd h1 hTo hdT h3 ?_;refine Zd0 I1'.drop1 hN hi (.inl hk) (show RelV (.ref e) (.ref e) from rfl) (fun s2 I2=>?_) (.inr hk);refine wpAny_mono ((hs e) pins s2 _ H1 (unb D i) (I2.hd e) q) (fun fl s3 q3=>?_) fun _ _ z=>z.elim;show wpAny _ X.A (bindName X.env n .none >>= fun _=>unbindBehindTheSuite X.env n pos) _ _ s3;cases fl with
 | next =>
  obtain⟨σ',H',I3,q3⟩:=q3;exact ZbW (I3.unhd I.ok) hN hi hk fun s' I'=>⟨_,_,I',q3⟩
 | brk =>
  obtain⟨σ',H',I3,q3⟩:=q3;exact ZbW (I3.unhd I.ok) hN hi hk fun s' I'=>⟨_,_,I',q3⟩
 | cont =>
  obtain⟨σ',H',I3,q3⟩:=q3;exact ZbW (I3.unhd I.ok) hN hi hk fun s' I'=>⟨_,_,I',q3⟩
 | ret u =>
  obtain⟨v3,σ',H',I3,r3,q3⟩:=q3;exact ZbW (I3.unhd I.ok) hN hi hk fun s' I'=>⟨v3,_,_,I',r3,q3⟩
end
end L2
namespace L2
open PySem PySem.Spec PyProof.Rows PySem.W
abbrev bmV:List Value:=[.type "ValueError",.type "Exception",.type "BaseException",.type "object"]
def keysOk(es:Array DictEntry):Bool:=es.toList.all fun e=>match e.key with | .str _ _=>true|_=>false
structure XMid(K:Frag)(G:Addr):Prop where
 ob:∃c0 dd cd sl oc od es ep sl',K.lookup G=some ⟨c0,dd,.cls cd,sl⟩/\K.lookup cd.ns=some ⟨oc,od,.dict es ep,sl'⟩/\keysOk es=true/\nsIn K cd.ns "__init__" = some none
structure XTop(K:Frag)(C G:Addr):Prop where
 ob:∃nm q N bs hdct sn sub ab col dd k0 k1 k2 k3 k5,K.lookup C=some (excClassObj nm q C N bs (.ref G::bmV) hdct sn sub ab col dd k0 k1 k2 k3 k5 "ValueError.__new__")
 mid:XMid K G
 call:specialIn K (.ref C) "__call__" = some (some (.builtin "type.__call__"))
 typ:instIn K (.ref C) (.type "type")=some true
 kp:keepIn K (.ref C)=true
theorem XMid.tail{K:Frag}{G:Addr}{h:Heap}(x:XMid K G)(X:K.In h):OwnTail h bmV (.ref G::bmV):=by
 obtain⟨c0,dd,cd,sl,oc,od,es,ep,sl',h1,h2,h3,h4⟩:=x.ob;have hns:h.isNs cd.ns=true:=by
  unfold Heap.isNs;rw[X _ _ h2];have h5:=h3;unfold keysOk at h5;rw[Array.all_toList] at h5;exact h5
 have hN:=Heap.Ns.of_isNs hns;exact .own (X _ _ h1) hN (ns_none_of X hN h4) .base
theorem XTop.mro{K:Frag}{C G:Addr}(x:XTop K C G):∃cd,clsIn K C=some cd/\cd.mro=.ref C :: .ref G::bmV:=by
 obtain⟨nm,q,N,bs,hdct,sn,sub,ab,col,dd,k0,k1,k2,k3,k5,h1⟩:=x.ob;have e:clsIn K C=some { name:=nm,bases:=bs,mro:=.ref C :: .ref G::bmV,ns:=N,qualname:=q,hasDict:=hdct,slotNames:=sn,subclasses:=sub,abstract:=ab,collection:=col,hasDel:=false }:=by
  unfold clsIn;rw[h1]
 exact⟨_,e,rfl⟩
abbrev Zan(C t:Addr):Obj:={ cls:=.ref C,data:=.fields #[.ref t,.none,.none,.none,.bool false,.none] }
abbrev Z7(vs:List Value):Obj:={ cls:=.type "tuple",data:=.seq vs.toArray }
section
variable{prog:Program}{w:World}{A:Around}{K:Frag}{C G f:Addr}{R:Result->Shared->Prop}{s:Shared}
theorem Zgg{us:List Value}{init:Value}(x:XTop K C G)(X:K.In s.heap)(hi:findIn K (.ref C) "__init__" = some (some init)) (b0:∀self,Looks (model prog w) s.heap (bindSpecial init self) (init,[self])) (hl:us.length<=sizeLine)
  (hq:codeAny (model prog w) (A.under (.builtin "type.__call__" ⟨.ref C::us,[]⟩)) (.call init ⟨.ref (s.heap.objs.size+1)::us,[]⟩) (InitBack (s.heap.objs.size+1) R)
   { s with heap:=(s.heap.push (Z7 us)).push (Zan C s.heap.objs.size) }) :
  codeAny (model prog w) A (.call (.ref C) ⟨us,[]⟩) R s:=by
 obtain⟨hh,g,d,t,os⟩:=s;obtain⟨nm,q,N,bs,hdct,sn,sub,ab,col,dd,k0,k1,k2,k3,k5,hK⟩:=x.ob;have hC:=X _ _ hK;have T:=x.mid.tail X;have call:=looks_specialIn (M:=model prog w) X x.call;have typ:=looks_instIn (M:=model prog w) X x.typ;have i0:=looks_findIn (M:=model prog w) X hi;refine codeAny_of_tree ?_;show wpAny _ _ (callAny (.ref C) _) _ _ _;refine nd_load hC ?_;show wpAny _ _ (callAny.viaDunder (.ref C) _) _ _ _;unfold callAny.viaDunder;refine wpAny_bind (call.at ?_);dsimp only;rw[tc_bind];refine wpAny_bind (wpAny_pure (wpAny_bind (wpAny_pure ?_)));refine wpAny_pure (a:=Fin.again (.call (.builtin "type.__call__") ⟨.ref C::us,[]⟩)) ⟨rfl,?_⟩;refine codeAny_call_builtin_at (Code.quiet_builtin _ (by decide +kernel)) entry_typeCall (check_slot tc_kind tc_split typ (tc_args _ _ _) ?_)
 repeat (first|with_reducible refine wpAny_loadPart_at hC ?_|with_reducible refine wpAny_madeBy_exc hC ?_|wp_step)
 refine codeAny_call_builtin_code (Code.quiet_builtin _ F.excBase_ValueError.quiet) (wpAny_check_new_subT F.excBase_ValueError T hC (codeAny_exc_new_subT F.excBase_ValueError T hC ?_ hl));show wpAny _ _ _ _ _ _;have k:∀b o,hh.get? b=some o->((hh.push (Z7 us)).push (Zan C hh.objs.size)).get? b=some o:=fun b o e=>Heap.get?_push_of_some _ (Heap.get?_push_of_some _ e);have hx:((hh.push (Z7 us)).push (Zan C hh.objs.size)).get? (hh.objs.size+1)=some (Zan C hh.objs.size):=by heap_get
 have t1:Looks (model prog w) ((hh.push (Z7 us)).push (Zan C hh.objs.size)) (typeOf (.ref (hh.objs.size+1))) (.ref C):=(Looks.ld hx).andThen .now;have s1:Looks (model prog w) ((hh.push (Z7 us)).push (Zan C hh.objs.size)) (isSubtype (.ref C) (.ref C)) true:=by
  obtain⟨cd,hc,hm⟩:=x.mro;refine(looks_mroIn X ?_).keeps k;unfold mroIn;rw[hc,Option.bind_some,hm];simp
 have i1:=i0.keeps k;have b1:=(b0 (.ref (hh.objs.size+1))).keeps k;unfold isInstance callSpecial? specialOf
 repeat (first|with_reducible refine wpAny_call ?_|lk)
 refine codeAny_mono hq fun r s' z=>?_;rcases r with e|(v|_|_|_) <;> first|exact z|exact z.elim|skip
 obtain⟨rfl,z⟩:=z;exact wpAny_pure (wpAny_pure z)
end
end L2
namespace L2
open PySem PySem.Spec PyProof.Rows PySem.W Builtin Builtin.ObjectAttr
section
variable{prog:Program}{w:World}{A:Around}{E:Value->Shared->Prop}{K:Frag}{C G x:Addr}{s:Shared}
theorem ZfZ(a b:Value):argsOk "BaseException.__getattribute__" ⟨[a,b],[]⟩:=F.args_bexc_ga a b
end
end L2
namespace L2
open PySem PySem.Spec PyProof.Rows PySem.W
def Zl6(x:Addr)(C:Value)(d:Option Addr):Heap->Prop:=fun h=>∃ox vs t,h.get? x=some ox/\ox.cls=C/\ox.dict=d/\ox.data=.fields vs/\4<vs.size/\vs[0]?= some (.ref t)/\vs[1]?= some .none
theorem Zih{M:Model}{A:Around}{E:Value->Shared->Prop}{s:Shared}{env:Env}{K:Frag}{C G:Addr}{x0:Sem Value}{Q:Flow->Shared->Prop}(hh:A.handled=none)(y:XTop K C G)
  (h:wpAny M A x0 (fun v s1=>∃x d,v=.ref x/\K.In s1.heap/\Zl6 x (.ref C) d s1.heap/\E (.ref x) s1) E s):wpAny M A (raiseStmt env (some x0) none) Q E s:=by
 unfold raiseStmt;refine wpAny_bind (wpAny_mono h (fun v s1 q=>?_) fun _ _ z=>z);obtain⟨x,d,rfl,X,⟨ox,vs,t,ho,hc,hd,hf,hz,h0,h1⟩,hE⟩:=q;obtain⟨cd,hcd,hmro⟩:=y.mro;have ty:Looks M s1.heap (typeOf (.ref x)) (.ref C):=hc ▸ (Looks.ld ho).andThen .now;have isb:Looks M s1.heap (isInstance (.ref x) (.type "BaseException")) true:=ty.andThen (looks_mroIn X (by unfold mroIn;rw[hcd,Option.bind_some,hmro];rfl));have nt:Looks M s1.heap (isType (.ref x)) false:=by
  intro A' Q' E' s' k q;unfold isType loadHead;refine wpAny_bind (wpAny_loadPart (k _ _ ho) ?_);rw[hf];exact wpAny_pure q
 obtain⟨nm,q,N,bs,hdct,sn,sub,ab,col,dd,k0,k1,k2,k3,k5,hK⟩:=y.ob;have tt:Looks M s1.heap (typeOf (.ref C)) (.type "type"):=(Looks.ld (X _ _ hK)).andThen .now;refine wpAny_bind (wpAny_pure (wpAny_bind (wpAny_holding ?_)));unfold excFromValue isExcClass;refine wpAny_bind (wpAny_bind (nt.here ?_));rw[if_neg Bool.false_ne_true];refine wpAny_pure ?_;rw[if_neg Bool.false_ne_true];refine wpAny_bind (isb.here ?_);rw[if_pos rfl];refine wpAny_pure ?_;refine wpAny_bind (nt.here ?_);rw[if_neg Bool.false_ne_true];unfold raisedInstance;refine wpAny_bind (wpAny_bind (ty.here (wpAny_bind (tt.here ?_))));rw[if_pos (by decide)];refine wpAny_pure ?_;unfold setFlight;refine wpAny_bind (wpAny_bind (wpAny_field ho hf h1 ?_));rw[if_neg (by decide)];exact wpAny_pure (wpAny_raiseNew_none hh hE)
structure XBas(K:Frag)(G:Addr):Prop where
 ga:specialIn K (.ref G) "__getattribute__" = some (some (.builtin "type.__getattribute__"))
 rd:readsIn K G (.type "type")=true
 fi:findCls K (.ref G) (.type "type") "__init__" = some (.val (.builtin "ValueError.__init__"))
section
variable{X:Cx}{C G:Addr}{g:Str}{p pos apos:Pos}{e:Expr}{es:List Expr}{t:TA}
structure XFld(K:Frag)(C:Addr)(f:Str):Prop where
 sa:findIn K (.ref C) "__setattr__" = some (some (.builtin "object.__setattr__"))
 no:findIn K (.ref C) f=some none
 hd:hasDictIn K C=true
 ga:findIn K (.ref C) "__getattribute__" = some (some (.builtin "BaseException.__getattribute__"))
 gt:findIn K (.ref C) "__getattr__" = some none
 mb:mroIn K C (.type "BaseException")=some true
end
theorem Zio{prog:Program}{w:World}{A:Around}{E:Value->Shared->Prop}{s:Shared}{K:Frag}{x:Addr}{C c:Value}{Q:Value->Shared->Prop}(X:K.In s.heap)(ty:∀M,Looks M s.heap (typeOf (.ref x)) C)(hne:(C == c)=false)(e:kitCls K C c=some true)
  (h:Q (.bool true) s):wpAny (model prog w) A (call (.builtin "isinstance") [.ref x,c]) Q E s:=by
 refine call_isinstance (S:=fun _ R s=>(K.In s.heap/\∀M,Looks M s.heap (typeOf (.ref x)) C)/\R (.ok (.ret (.bool true))) s) (fun prog w A R s hs=>isinstance_outer ?_ (fun z=>nomatch z)) ⟨⟨X,ty⟩,h⟩
 ·obtain⟨⟨X,LT⟩,hq⟩:=hs;obtain⟨h0,g,d,tt,os⟩:=s;unfold Builtin.«isinstance.nested»;refine wpAny_bind ((LT _).at ?_);rw[if_neg (by rw[hne];decide)];obtain⟨hty,his,hsub⟩:=kit_cls (M:=model prog w) X e;refine wpAny_bind (hty.at ?_);rw[if_pos (by decide)]
  k_delta "plainIsInstance"
  refine wpAny_bind (wpAny_bind (his.at ?_));simp only[Bool.not_true,Bool.false_eq_true,if_false];refine wpAny_bind (((LT _).andThen hsub).at ?_)
  first|exact wpAny_pure (wpAny_pure hq)|(simp only[if_true];first|exact wpAny_pure (wpAny_pure hq)|exact wpAny_pure hq)
section
variable{prog:Program}{w:World}{A:Around}{K:Frag}{C G:Addr}{R:Result->Shared->Prop}{s:Shared}
theorem Zkz{us:List Value}(x:XTop K C G)(X:K.In s.heap)(hi:findIn K (.ref C) "__init__" = some (some (.builtin "ValueError.__init__"))) (hl:us.length<=sizeLine)
  (hq:R (.ok (.ret (.ref (s.heap.objs.size+1)))) { s with heap:=(((s.heap.push (Z7 us)).push (Zan C s.heap.objs.size)).push (Z7 us)).update (s.heap.objs.size+1) (Obj.mapFields (·.setIfInBounds 0 (.ref (s.heap.objs.size+2)))) }) :
  codeAny (model prog w) A (.call (.ref C) ⟨us,[]⟩) R s:=by
 have F0:=F.excBase_ValueError;refine Zgg x X hi (fun self=>Looks.of_pure (F0.init.bind self)) hl ?_;obtain⟨hh,g,d,tk,os⟩:=s;obtain⟨nm,q,N,bs,hdct,sn,sub,ab,col,dd,k0,k1,k2,k3,k5,hK⟩:=x.ob;have k:∀b o,hh.get? b=some o->((hh.push (Z7 us)).push (Zan C hh.objs.size)).get? b=some o:=fun b o e=>Heap.get?_push_of_some _ (Heap.get?_push_of_some _ e);have hx:((hh.push (Z7 us)).push (Zan C hh.objs.size)).get? (hh.objs.size+1)=some (Zan C hh.objs.size):=by heap_get
 have X2:=X.keeps k;refine codeAny_call_builtin F0.init.plain F0.initEntry (wpAny_check_init_subT F0 (x.mid.tail X2) (X2 _ _ hK) hx rfl ?_);have hx2:(((hh.push (Z7 us)).push (Zan C hh.objs.size)).push (Z7 us)).get? (hh.objs.size+1)=some (Zan C hh.objs.size):=Heap.get?_push_of_some _ hx;unfold Builtin.«BaseException.__init__»;refine wpAny_bind (wpAny_newTuple ?_ hl);unfold Builtin.BaseException.bexcPut;refine wpAny_bind (wpAny_bind (wpAny_field (s:=⟨((hh.push (Z7 us)).push (Zan C hh.objs.size)).push (Z7 us),g,d,tk,os⟩) hx2 rfl (x:=.ref hh.objs.size) rfl (wpAny_bind (wpAny_setField (s:=⟨((hh.push (Z7 us)).push (Zan C hh.objs.size)).push (Z7 us),g,d,tk,os⟩) hx2 rfl (by simp) ?_))))
 wp_walk
 refine⟨rfl,?_⟩;have e2:((hh.push (Z7 us)).push (Zan C hh.objs.size)).objs.size=hh.objs.size+2:=by rw[Heap.size_push,Heap.size_push]
 rw[<- e2] at hq;exact hq
end
def ZjX(C:Addr)(E:XKS)(t:TA):TS:=fun _ σ H=>t σ H fun vs H1=>vs.length<=1000/\∀y,H1 y=none->E σ (.ref C) none (upd H1 y (.ext (XO y (.ref C) none)))
section
variable{X:Cx}{j k:Nat}{C G:Addr}{E:XKS}{x:Str}{p pos cpos:Pos}{e:Expr}{es:List Expr}{t:TA}
theorem ZgU(Z:XTop X.K C G)(hi:findIn X.K (.ref C) "__init__" = some (some (.builtin "ValueError.__init__"))) (nm:X.mg x=some (.ref C)) (hT:Zfc X E) (hr:Room k X.A) (hg:Gl X x) (ha:PA X (e::es) t) (hdb:(x == ("__debug__" : Str))=false:=by decide)
  (he:starEach (e::es) X.env=(false,eval e X.env)::starEach es X.env:=by rfl) (hpl:(backTo cpos (starEach es X.env)).any (·.1)=false:=by rfl) :
  PS X (.Raise (some (.Call (.Name x p) (e::es) [] cpos)) none pos) (ZjX C E t):=by
 intro pins s σ H D I h;show wpAny _ _ (standAt pos >>= fun _=>raiseStmt X.env (some (eval (.Call (.Name x p) (e::es) [] cpos) X.env >>= fun v=>standAt pos >>= fun _=>pure v)) none) _ _ s;refine wpAny_bind (wpAny_standAt (Zih (hr.hd) Z (wpAny_bind ?_)));refine wpAny_Call_Name_kw (Zdz I hg nm ?_ hdb);refine PySem.W.callWith_K (h₀ := X.base) I.ok.mod.kin Z.kp (thn (ha cpos pins s σ H _ I h) fun us s1 ⟨vs,H1,I1,r,hl,q⟩=>⟨I1.kIn,?_⟩) he hpl;have hlu:us.length<=sizeLine:=by rw[<- r.length];exact Nat.le_trans hl (by decide)
 have hy:H1 (s1.heap.objs.size+1)=none:=I1.hok.fresh (Nat.le_succ _);have hE:=q (s1.heap.objs.size+1) hy;refine wpAny_call (Zkz Z I1.kIn hi hlu ?_);have hx:((s1.heap.push (Z7 us)).push (Zan C s1.heap.objs.size)).get? (s1.heap.objs.size+1)=some (Zan C s1.heap.objs.size):=by heap_get
 have hx2:(((s1.heap.push (Z7 us)).push (Zan C s1.heap.objs.size)).push (Z7 us)).get? (s1.heap.objs.size+1)=some (Zan C s1.heap.objs.size):=Heap.get?_push_of_some _ hx;have I2:Inv X pins σ (upd H1 (s1.heap.objs.size+1) (.ext (XO (s1.heap.objs.size+1) (.ref C) none))) { s1 with heap:=(s1.heap.push (Z7 us)).push (Zan C s1.heap.objs.size) }:=by
  have a:=I1.kept (t':=s1.toks) (h':=s1.heap.push (Z7 us)) fun b u q=>Heap.get?_push_of_some _ q;exact a.laid (t':=s1.toks) (fun b u q=>Heap.get?_push_of_some _ q) (by show(s1.heap.push (Z7 us)).objs.size<=_;rw[Heap.size_push];exact Nat.le_refl _) (XO.ext_ok ⟨_,_,hx,rfl,rfl,rfl,by simp⟩)
 have I3:=I2.kept (t':=s1.toks) (h':=((s1.heap.push (Z7 us)).push (Zan C s1.heap.objs.size)).push (Z7 us)) fun b u q=>Heap.get?_push_of_some _ q;have I4:=I3.poke (t':=s1.toks) (h':=(((s1.heap.push (Z7 us)).push (Zan C s1.heap.objs.size)).push (Z7 us)).update (s1.heap.objs.size+1) (Obj.mapFields (·.setIfInBounds 0 (.ref (s1.heap.objs.size+2))))) Zb (fun b u hb z=>(Heap.get?_update_other _ _ (Ne.symm hb)).trans z) (XO.put ⟨_,_,hx2,rfl,rfl,rfl,by simp⟩ 0 _);have hget:=Zf3 0 (.ref (s1.heap.objs.size+2)) hx2 rfl;refine wpAny_bind (wpAny_standAt (wpAny_pure ⟨_,none,rfl,I4.kIn,⟨_,_,s1.heap.objs.size+2,hget,rfl,rfl,rfl,by simp,rfl,rfl⟩,?_⟩));exact hT pins σ _ _ _ (.ref C) none I4 Zb (fun _=>Nat.le_trans I1.sz (Nat.le_succ _)) (.inl ⟨_,_,hget,rfl,rfl⟩) hE
end
section
variable{X:Cx}
theorem Zd9:ZbU X (.builtin "isinstance") (fun xs H Q=>∃a oe C D,xs=[.ref a,.ref D]/\H a=some (Known a oe)/\oe.cls=.ref C/\C≠D/\isClsIn X.K D=true/\typeIn X.K (.ref D)=some (.type "type")/\mroIn X.K C (.ref D)=some true/\Q (.bl true) H):=by
 intro pins s σ H xs us Q I r h;obtain⟨a,oe,C,D,rfl,hk,hc,hne,h1,h2,h3,q⟩:=h;obtain⟨u,v,rfl,rx,ry⟩:=Vals.two r;obtain rfl:u=Value.ref a:=rx;obtain rfl:v=Value.ref D:=ry;have ho:s.heap.get? a=some oe:=(I.hok a _ hk).1;refine Zio I.kIn (C:=.ref C) (fun M=>hc ▸ (Looks.ld ho).andThen .now) (by simpa using hne) ?_ ⟨.bl true,H,I,rfl,q⟩;unfold kitCls;dsimp only;unfold isClsIn at h1;rw[h1,h2,if_pos (by decide)];exact h3
end
variable{X:Cx}
end L2
namespace Srt
open PySem PyProof.Rows
def Ze4:Bool->Keyed->Array Keyed->Nat->Nat->Nat->StateT SortSt Sem (Option Nat):=sortPriv% PySem.Builtin.gallop
def ZiT:Array Keyed->Array Keyed->StateT SortSt Sem (Array Keyed):=sortPriv% PySem.Builtin.mergeLo
def Zid:Array Keyed->Array Keyed->StateT SortSt Sem (Array Keyed):=sortPriv% PySem.Builtin.mergeHi
structure Like(st st':SortSt):Prop where
 arr:arrOf st'=arrOf st
 kind:kindOf st'=kindOf st
 fail:failedOf st'=failedOf st
 pend:pendingOf st'=pendingOf st
theorem Like.refl(st:SortSt):Like st st:=⟨rfl,rfl,rfl,rfl⟩
theorem Like.trans{a b c:SortSt}(x:Like a b)(y:Like b c):Like a c:=⟨y.arr.trans x.arr,y.kind.trans x.kind,y.fail.trans x.fail,y.pend.trans x.pend⟩
section
variable{prog:Program}{w:World}{A:Around}{E:Value->Shared->Prop}{s:Shared}{κ : SortKind}{Ok:Keyed->Prop}{st:SortSt}
theorem Zy{arr:Array Keyed}{i:Nat}{Q:Keyed->SortSt->Prop}(hi:i<arr.size)(h:∀p,p∈arr.toList->arr[i]?= some p->Q p st):wpS (model prog w) A E s (elem' arr i) Q st:=by
 have e:arr[i]?= some arr[i]:=getElem?_pos arr i hi;rw[elem'_eq,e];exact wpS_pure (h _ (by simp) e)
end
def Out(a b:Array Keyed)(out:Array Keyed)(ia ib:Nat):Prop:=out.toList.Perm (a.toList.take ia++b.toList.take ib)
section
variable{a b out:Array Keyed}{ia ib:Nat}
theorem Zke{α : Type}(x y z w:List α):(x++y++(z++w)).Perm (x++z++(y++w)):=by
 rw[List.append_assoc,List.append_assoc];refine List.Perm.append_left x ?_;rw[<- List.append_assoc,<- List.append_assoc];exact List.Perm.append_right w List.perm_append_comm
theorem Out.done(h:Out a b out ia ib):(out++a.extract ia a.size++b.extract ib b.size).toList.Perm (a.toList++b.toList):=by
 rw[Array.toList_append,Array.toList_append,Array.toList_extract,Array.toList_extract];have e1:a.toList.extract ia a.size=a.toList.drop ia:=by rw[List.extract_eq_drop_take];apply List.take_of_length_le;rw[List.length_drop,Array.length_toList];exact Nat.le_refl _
 have e2:b.toList.extract ib b.size=b.toList.drop ib:=by rw[List.extract_eq_drop_take];apply List.take_of_length_le;rw[List.length_drop,Array.length_toList];exact Nat.le_refl _
 rw[e1,e2,List.append_assoc];refine(List.Perm.append_right _ h).trans ((Zke ..).trans ?_);rw[List.take_append_drop,List.take_append_drop]
theorem Out.last(h:Out a b out ia ib):(out++b.extract ib b.size++a.extract ia a.size).toList.Perm (a.toList++b.toList):=by
 refine List.Perm.trans ?_ h.done;rw[Array.toList_append,Array.toList_append,Array.toList_append,Array.toList_append,List.append_assoc,List.append_assoc];exact List.Perm.append_left _ List.perm_append_comm
theorem Out.extA{k:Nat}(h:Out a b out ia ib)(hk:ia+k<=a.size):Out a b (out++a.extract ia (ia+k)) (ia+k) ib:=by
 unfold Out;rw[Array.toList_append,Array.toList_extract,List.extract_eq_drop_take];have e:a.toList.take (ia+k)=a.toList.take ia++(a.toList.drop ia).take k:=List.take_add ..;rw[e,show ia+k-ia=k by lia];refine(List.Perm.append_right _ h).trans ?_;rw[List.append_assoc,List.append_assoc];exact List.Perm.append_left _ List.perm_append_comm
theorem Out.extB{k:Nat}(h:Out a b out ia ib)(hk:ib+k<=b.size):Out a b (out++b.extract ib (ib+k)) ia (ib+k):=by
 unfold Out;rw[Array.toList_append,Array.toList_extract,List.extract_eq_drop_take];have e:b.toList.take (ib+k)=b.toList.take ib++(b.toList.drop ib).take k:=List.take_add ..;rw[e,show ib+k-ib=k by lia];refine(List.Perm.append_right _ h).trans ?_;rw[List.append_assoc]
theorem ZdX{α : Type}{xs:List α}{i:Nat}{p : α}(h:xs[i]?= some p):xs.take (i+1)=xs.take i ++ [p]:=by
 obtain⟨hi,e⟩:=List.getElem?_eq_some_iff.mp h;rw[List.take_succ_eq_append_getElem hi,e]
theorem Out.pushA{p:Keyed}(h:Out a b out ia ib)(hp:a[ia]?= some p):Out a b (out.push p) (ia+1) ib:=by
 have hp':a.toList[ia]?= some p:=by rw[<- hp];simp
 unfold Out;rw[Array.toList_push,ZdX hp'];refine(List.Perm.append_right _ h).trans ?_;rw[List.append_assoc,List.append_assoc];exact List.Perm.append_left _ List.perm_append_comm
theorem Out.pushB{p:Keyed}(h:Out a b out ia ib)(hp:b[ib]?= some p):Out a b (out.push p) ia (ib+1):=by
 have hp':b.toList[ib]?= some p:=by rw[<- hp];simp
 unfold Out;rw[Array.toList_push,ZdX hp'];refine(List.Perm.append_right _ h).trans ?_;rw[List.append_assoc]
theorem Zl1{p:Keyed}(hp:b[0]?= some p):Out a b #[p] 0 1:=by
 have h0:Out a b #[] 0 0:=by
  unfold Out;rw[List.take_zero,List.take_zero];exact List.Perm.refl _
 exact h0.pushB hp
end
section
variable{prog:Program}{w:World}{A:Around}{E:Value->Shared->Prop}{s:Shared}{κ : SortKind}{Ok:Keyed->Prop}{st:SortSt}
theorem ZaC(st:SortSt)(g:Nat):Like st (SortSt.mk' (kindOf st) (arrOf st) (pendingOf st) g (failedOf st)):=⟨rfl,rfl,rfl,rfl⟩
end
def ZcC(a b:Array Keyed)(out:Array Keyed)(na nb:Nat):Prop:=out.toList.Perm (a.toList.drop na++b.toList.drop nb)
section
variable{a b out:Array Keyed}{na nb:Nat}
theorem ex0(a:Array Keyed)(n:Nat):(a.extract 0 n).toList=a.toList.take n:=by
 rw[Array.toList_extract,List.extract_eq_drop_take,List.drop_zero,Nat.sub_zero]
theorem ZcC.done(h:ZcC a b out na nb):(a.extract 0 na++b.extract 0 nb++out.reverse).toList.Perm (a.toList++b.toList):=by
 rw[Array.toList_append,Array.toList_append,ex0,ex0,Array.toList_reverse];refine(List.Perm.append_left _ ((List.reverse_perm _).trans h)).trans ((Zke ..).trans ?_);rw[List.take_append_drop,List.take_append_drop]
theorem ZcC.first(h:ZcC a b out na nb):(b.extract 0 nb++a.extract 0 na++out.reverse).toList.Perm (a.toList++b.toList):=by
 refine List.Perm.trans ?_ h.done;rw[Array.toList_append,Array.toList_append,Array.toList_append,Array.toList_append];exact List.Perm.append_right _ List.perm_append_comm
theorem ZfL{α : Type}{xs:List α}{i:Nat}{p : α}(h:xs[i]?= some p):xs.drop i=p::xs.drop (i+1):=by
 obtain⟨hi,e⟩:=List.getElem?_eq_some_iff.mp h;rw[<- e];exact List.drop_eq_getElem_cons hi
theorem ZcC.pushA{p:Keyed}(h:ZcC a b out na nb)(h1:1<=na)(hp:a[na-1]?= some p):ZcC a b (out.push p) (na-1) nb:=by
 have hp':a.toList[na-1]?= some p:=by rw[<- hp];simp
 unfold ZcC;rw[Array.toList_push,ZfL hp',Nat.sub_add_cancel h1];refine(List.Perm.append_right _ h).trans ?_;exact List.perm_append_comm
theorem ZcC.pushB{p:Keyed}(h:ZcC a b out na nb)(h1:1<=nb)(hp:b[nb-1]?= some p):ZcC a b (out.push p) na (nb-1):=by
 have hp':b.toList[nb-1]?= some p:=by rw[<- hp];simp
 unfold ZcC;rw[Array.toList_push,ZfL hp',Nat.sub_add_cancel h1];refine(List.Perm.append_right _ h).trans ?_;rw[List.append_assoc];refine List.Perm.append_left _ ?_;exact List.perm_append_comm
theorem Zf5{α : Type}(xs:List α){i j:Nat}(h:i<=j):xs.drop i=(xs.drop i).take (j-i)++xs.drop j:=by
 have:=List.take_append_drop (j-i) (xs.drop i);rw[List.drop_drop,Nat.add_sub_cancel' h] at this;exact this.symm
theorem ZcC.extA{k:Nat}(h:ZcC a b out na nb)(hk:k<=na):ZcC a b (out++(a.extract k na).reverse) k nb:=by
 unfold ZcC;rw[Array.toList_append,Array.toList_reverse,Array.toList_extract,List.extract_eq_drop_take];refine(List.Perm.append h (List.reverse_perm _)).trans ?_;refine List.perm_append_comm.trans ?_;rw[<- List.append_assoc,<- Zf5 a.toList hk]
theorem ZcC.extB{k:Nat}(h:ZcC a b out na nb)(hk:k<=nb):ZcC a b (out++(b.extract k nb).reverse) na k:=by
 unfold ZcC;rw[Array.toList_append,Array.toList_reverse,Array.toList_extract,List.extract_eq_drop_take];refine(List.Perm.append h (List.reverse_perm _)).trans ?_;rw[List.append_assoc];refine List.Perm.append_left _ (List.perm_append_comm.trans ?_);rw[<- Zf5 b.toList hk]
theorem Zld{p:Keyed}(h1:1<=a.size)(hp:a[a.size-1]?= some p):ZcC a b #[p] (a.size-1) b.size:=by
 have h0:ZcC a b #[] a.size b.size:=by
  unfold ZcC;rw[List.drop_eq_nil_of_le (by rw[Array.length_toList];exact Nat.le_refl _),List.drop_eq_nil_of_le (by rw[Array.length_toList];exact Nat.le_refl _)];exact List.Perm.refl _
 exact h0.pushA h1 hp
end
structure Pm(st st':SortSt):Prop where
 arr:(arrOf st').toList.Perm (arrOf st).toList
 kind:kindOf st'=kindOf st
 fail:failedOf st'=failedOf st
 pend:pendingOf st'=pendingOf st
theorem Pm.refl(st:SortSt):Pm st st:=⟨List.Perm.refl _,rfl,rfl,rfl⟩
theorem Pm.trans{a b c:SortSt}(x:Pm a b)(y:Pm b c):Pm a c:=⟨y.arr.trans x.arr,y.kind.trans x.kind,y.fail.trans x.fail,y.pend.trans x.pend⟩
theorem Pm.size{a b:SortSt}(x:Pm a b):(arrOf b).size=(arrOf a).size:=by
 have:=x.arr.length_eq;rw[Array.length_toList,Array.length_toList] at this;exact this
theorem Pm.ok{a b:SortSt}{Ok:Keyed->Prop}(x:Pm a b)(h:∀p∈(arrOf a).toList,Ok p):∀p∈(arrOf b).toList,Ok p:=fun p hp=>h p (x.arr.mem_iff.mp hp)
theorem Pm.mirror(st:SortSt)(i j:Nat):Pm st (setArr st (mirror (arrOf st) i j ((j-i) / 2))):=⟨Array.perm_iff_toList_perm.mp (mirror_perm _ _ _ _),rfl,rfl,rfl⟩
theorem Pm.bubble(st:SortSt)(i j:Nat):Pm st (setArr st (bubble (arrOf st) i (i-j))):=⟨Array.perm_iff_toList_perm.mp (bubble_perm _ _ _),rfl,rfl,rfl⟩
def Cov:List (Nat×Nat×Nat)->Nat->Nat->Prop
 | [],lo,hi=>lo=hi
 | x::r,lo,hi=>x.1=lo/\1<=x.2.1/\Cov r (lo+x.2.1) hi
theorem Cov.le:∀{l:List (Nat×Nat×Nat)}{lo hi:Nat},Cov l lo hi->lo+l.length<=hi
 | [],lo,hi,h=>Nat.le_of_eq h
 | x::r,lo,hi,⟨_,h1,h2⟩=>by
  have:=Cov.le h2;rw[List.length_cons];lia
theorem Cov.push:∀{l:List (Nat×Nat×Nat)}{lo hi n p:Nat},Cov l lo hi->1<=n->Cov (l ++ [(hi,n,p)]) lo (hi+n)
 | [],lo,hi,n,p,h,h1=>by
  have e:lo=hi:=h;subst e;exact⟨rfl,h1,rfl⟩
 | x::r,lo,hi,n,p,⟨a,b,c⟩,h1=>⟨a,b,c.push h1⟩
theorem Cov.at:∀{l:List (Nat×Nat×Nat)}{i lo hi sa na p sb nb q:Nat},Cov l lo hi->l[i]?= some (sa,na,p)->l[i+1]?= some (sb,nb,q) ->
  sb=sa+na/\1<=na/\1<=nb/\sb+nb<=hi/\Cov ((l.set i (sa,na+nb,p)).eraseIdx (i+1)) lo hi
 | x::y::r,0,lo,hi,sa,na,p,sb,nb,q,⟨a,b,c1,c2,c3⟩,h1,h2=>by
  have e1:x=(sa,na,p):=by simpa using h1
  have e2:y=(sb,nb,q):=by simpa using h2
  subst e1;subst e2;have a':sa=lo:=a;have c1':sb=lo+na:=c1;have hle:=c3.le;subst a';refine⟨c1',b,c2,?_,rfl,?_,?_⟩
  ·have:sa+na+nb<=hi:=by
    have h3:sa+na+nb+r.length<=hi:=hle;lia
   lia
  ·show 1<=na+nb;have:1<=na:=b;lia
  ·show Cov r (sa+(na+nb)) hi;rw[<- Nat.add_assoc];exact c3
 | x::r,i+1,lo,hi,sa,na,p,sb,nb,q,⟨a,b,c⟩,h1,h2=>by
  obtain⟨k1,k2,k3,k4,k5⟩:=Cov.at (l:=r) (i:=i) c (by simpa using h1) (by simpa using h2);exact⟨k1,k2,k3,k4,a,b,k5⟩
 | [x],0,_,_,_,_,_,_,_,_,_,_,h2=>by simp at h2
 | [],_,_,_,_,_,_,_,_,_,_,h1,_=>by simp at h1
theorem Cov.last:∀{l:List (Nat×Nat×Nat)}{lo hi:Nat}(f:Nat×Nat×Nat->Nat×Nat×Nat)(_:∀x,(f x).1=x.1/\(f x).2.1=x.2.1)(i:Nat),Cov l lo hi->Cov (l.modify i f) lo hi
 | [],lo,hi,f,hf,i,h=>by cases i <;> exact h
 | x::r,lo,hi,f,hf,0,⟨a,b,c⟩=>by
  refine⟨(hf x).1.trans a,by rw[(hf x).2];exact b,?_⟩;rw[(hf x).2];exact c
 | x::r,lo,hi,f,hf,i+1,⟨a,b,c⟩=>⟨a,b,Cov.last f hf i c⟩
theorem splice(base:Nat):∀(m:List Keyed)(n:Nat)(arr:Array Keyed),base+n+m.length<=arr.size ->
  ((m.zipIdx n).foldl (fun(a:Array Keyed)(x:Keyed×Nat)=>match x with|(p,j)=>a.setIfInBounds (base+j) p) arr).toList=arr.toList.take (base+n)++m++arr.toList.drop (base+n+m.length)
 | [],n,arr,_=>by
  show arr.toList=_;rw[List.append_nil,List.length_nil,Nat.add_zero,List.take_append_drop]
 | p::m,n,arr,h=>by
  rw[List.length_cons] at h;rw[List.zipIdx_cons,List.foldl_cons];have hs:(arr.setIfInBounds (base+n) p).size=arr.size:=Array.size_setIfInBounds;rw[splice base m (n+1) _ (by rw[hs];lia),Array.toList_setIfInBounds];have hl:base+n<arr.toList.length:=by rw[Array.length_toList];lia
  rw[<- Nat.add_assoc,List.take_set,List.drop_set_of_lt (by lia)];have e1:(arr.toList.take (base+n+1)).set (base+n) p=arr.toList.take (base+n) ++ [p]:=by
   rw[List.take_succ_eq_append_getElem hl,List.set_append_right _ _ (by rw[List.length_take];lia)];rw[show base+n-(arr.toList.take (base+n)).length=0 by rw[List.length_take];lia];rfl
  rw[e1,List.length_cons,show base+n+1+m.length=base+n+(m.length+1) by lia];simp
section
variable{prog:Program}{w:World}{A:Around}{E:Value->Shared->Prop}{s:Shared}{κ : SortKind}{Ok:Keyed->Prop}{st:SortSt}
structure SB(a₀ : Array Keyed)(κ : SortKind)(hi:Nat)(st:SortSt):Prop where
 arr:(arrOf st).toList.Perm a₀.toList
 kind:kindOf st= κ
 fail:failedOf st=none
 cov:Cov (pendingOf st).toList 0 hi
theorem SB.size{a₀ : Array Keyed}{hi:Nat}(x:SB a₀ κ hi st):(arrOf st).size=a₀.size:=by
 have:=x.arr.length_eq;rw[Array.length_toList,Array.length_toList] at this;exact this
theorem SB.ok{a₀ : Array Keyed}{hi:Nat}(x:SB a₀ κ hi st)(h:∀p∈a₀.toList,Ok p):∀p∈(arrOf st).toList,Ok p:=fun p hp=>h p (x.arr.mem_iff.mp hp)
theorem SB.pm{a₀ : Array Keyed}{hi:Nat}{st':SortSt}(x:SB a₀ κ hi st)(p:Pm st st'):SB a₀ κ hi st':=⟨p.arr.trans x.arr,p.kind.trans x.kind,p.fail.trans x.fail,by rw[p.pend];exact x.cov⟩
theorem Zjw{v:SortSt}{Q:PUnit->SortSt->Prop}(h:Q ⟨⟩ v):wpS (model prog w) A E s (set v:StateT SortSt Sem PUnit) Q st:=by
 unfold wpS;rw[StateT.run_set];exact wpAny_pure ⟨rfl,h⟩
theorem ZhG(base:Nat)(m:List Keyed)(arr:Array Keyed)(h:base+m.length<=arr.size) :
  (m.zipIdx.foldl (fun(a:Array Keyed)(x:Keyed×Nat)=>a.setIfInBounds (base+x.2) x.1) arr).toList=arr.toList.take base++m++arr.toList.drop (base+m.length):=splice base m 0 arr h
theorem Zi2(L:List Keyed){m b e:Nat}(h1:m<=b)(h2:b<=e):L.extract m b++L.extract b e=(L.drop m).take (e-m):=by
 rw[List.extract_eq_drop_take,List.extract_eq_drop_take,show e-m=(b-m)+(e-b) by lia,List.take_add,List.drop_drop,Nat.add_sub_cancel' h1]
theorem ZfA{L r:List Keyed}{m c:Nat}(h:r.Perm ((L.drop m).take c))(hc:r.length=c):(L.take m++r++L.drop (m+r.length)).Perm L:=by
 subst hc;have e:L=L.take m++(L.drop m).take r.length++L.drop (m+r.length):=by
  rw[List.append_assoc,<- List.drop_drop,List.take_append_drop,List.take_append_drop]
 refine List.Perm.trans ?_ (List.Perm.of_eq e.symm);exact List.Perm.append_right _ (List.Perm.append_left _ h)
end
section
variable{prog:Program}{w:World}{A:Around}{E:Value->Shared->Prop}{s:Shared}
theorem Zex{vs:List Value}{xs:Array Keyed}(h:xs.toList.Perm (pairsOf vs).toList):(xs.map (·.2)).toList.Perm vs:=by
 rw[Array.toList_map];refine(h.map (·.2)).trans (List.Perm.of_eq ?_);rw[pairsOf_toList,show(fun p:Keyed=>p.2)=Prod.snd from rfl,List.map_snd_zip (Nat.le_refl _)]
end
end Srt
namespace L2
open PySem PySem.Spec PyProof.Rows
theorem Zbs:∀{vs:List V}{us:List Value},Vals vs us->∀u∈us,∃v∈vs,RelV v u
 | _,_,.cons a t,u,hu=>by
  rcases List.mem_cons.mp hu with rfl|hu
  ·exact⟨_,List.mem_cons_self ..,a⟩
  ·obtain⟨v,hv,r⟩:=Zbs t u hu;exact⟨v,List.mem_cons_of_mem _ hv,r⟩
end L2
namespace Sts
open PySem
def nx(m i:Nat):Nat:=(i*5+1) % (m+1)
def itn(m:Nat):Nat->Nat->Nat
 | 0,i=>i
 | n+1,i=>itn m n (nx m i)
theorem Zd3(m:Nat):∀a b i,itn m (a+b) i=itn m b (itn m a i)
 | 0,b,i=>by rw[Nat.zero_add];rfl
 | a+1,b,i=>by rw[Nat.add_right_comm];exact Zd3 m a b (nx m i)
def seen(m:Nat):Nat->Nat->Nat->Nat
 | 0,_,acc=>acc
 | n+1,i,acc=>seen m n (nx m i) (acc ||| (1 <<< i))
theorem ZfH(m:Nat):∀n i acc j,(seen m n i acc).testBit j=true->acc.testBit j=true\/∃k,k<n/\itn m k i=j
 | 0,_,_,_,h=>.inl h
 | n+1,i,acc,j,h=>by
  rcases ZfH m n (nx m i) _ j h with h|⟨k,hk,e⟩
  ·rw[Nat.testBit_or,Bool.or_eq_true] at h;rcases h with h|h
   ·exact .inl h
   ·rw[Nat.testBit_shiftLeft] at h;have h2:i<=j/\(1:Nat).testBit (j-i)=true:=by simpa using h
    have h3:j-i=0:=by
     have:=h2.2;rw[Nat.testBit_one_eq_true_iff_self_eq_zero] at this;exact this
    exact .inr ⟨0,Nat.succ_pos _,by show i=j;lia⟩
  ·exact .inr ⟨k+1,Nat.succ_lt_succ hk,e⟩
def Good(m:Nat):Prop:=m=7\/m=15\/m=31\/m=63\/m=127\/m=255\/m=511\/m=1023\/m=2047\/m=4095
def Zlc(m:Nat):Bool:=seen m (m+1) 0 0 == 2 ^ (m+1)-1&&itn m (m+1) 0 == 0
theorem ZgJ{m:Nat}(h:Good m):Zlc m=true:=by
 rcases h with h|h|h|h|h|h|h|h|h|h <;> subst h <;> decide +kernel
theorem from0{m j:Nat}(h:Good m)(hj:j<=m):∃n,n<=m/\itn m n 0=j:=by
 have hc:=ZgJ h;unfold Zlc at hc;rw[Bool.and_eq_true] at hc;have h1:=eq_of_beq hc.1;have hb:(seen m (m+1) 0 0).testBit j=true:=by
  rw[h1,Nat.testBit_two_pow_sub_one];exact decide_eq_true (by lia)
 rcases ZfH m (m+1) 0 0 j hb with h|⟨k,hk,e⟩
 ·simp at h
 ·exact⟨k,by lia,e⟩
theorem Zlo{m:Nat}(h:Good m):itn m (m+1) 0=0:=by
 have hc:=ZgJ h;unfold Zlc at hc;rw[Bool.and_eq_true] at hc;exact eq_of_beq hc.2
theorem reach{m i j:Nat}(h:Good m)(hi:i<=m)(hj:j<=m):∃n,n<=m/\itn m n i=j:=by
 obtain⟨a,ha,ea⟩:=from0 h hi;obtain⟨b,hb,eb⟩:=from0 h hj;by_cases hab:a<=b
 ·refine⟨b-a,by lia,?_⟩;rw[<- ea,<- Zd3,Nat.add_sub_cancel' hab];exact eb
 ·refine⟨m+1-a+b,by lia,?_⟩;rw[<- ea,<- Zd3,show a+(m+1-a+b)=(m+1)+b by lia,Zd3,Zlo h];exact eb
def ZdO(t:SetTable):Nat->SetTable.Probe->SetTable.Probe
 | 0,p=>p
 | n+1,p=>ZdO t n (t.advance p)
theorem Zd5(t:SetTable):∀a b p,ZdO t (a+b) p=ZdO t b (ZdO t a p)
 | 0,b,p=>by rw[Nat.zero_add];rfl
 | a+1,b,p=>by rw[Nat.add_right_comm];exact Zd5 t a b (t.advance p)
def lp(t:SetTable)(p:SetTable.Probe):SetTable.Probe:={ p with j:=(p.i*5+1+p.perturb / 32) % (t.mask+1),more:=SetTable.runEnd t.mask ((p.i*5+1+p.perturb / 32) % (t.mask+1))-(p.i*5+1+p.perturb / 32) % (t.mask+1),i:=(p.i*5+1+p.perturb / 32) % (t.mask+1),perturb:=p.perturb / 32 }
theorem Zjn(t:SetTable):∀(n:Nat)(p:SetTable.Probe),p.more=n->ZdO t (n+1) p=lp t p
 | 0,p,h=>by
  show t.advance p=lp t p;unfold SetTable.advance;rw[if_neg (by lia)];rfl
 | n+1,p,h=>by
  show ZdO t (n+1) (t.advance p)=lp t p;have e:t.advance p= { p with j:=p.j+1,more:=p.more-1 }:=by
   unfold SetTable.advance;rw[if_pos (by lia)]
  rw[e,Zjn t n { p with j:=p.j+1,more:=p.more-1 } (by show p.more-1=n;lia)];rfl
def lpn(t:SetTable):Nat->SetTable.Probe->SetTable.Probe
 | 0,p=>p
 | n+1,p=>lpn t n (lp t p)
theorem ZjR(t:SetTable)(p:SetTable.Probe):(lp t p).more<=9:=by
 show SetTable.runEnd t.mask _-_<=9;unfold SetTable.runEnd
 split <;> lia
theorem ZhD(t:SetTable):∀(k:Nat)(p:SetTable.Probe),p.more<=9->∃n,n<=10*k/\ZdO t n p=lpn t k p
 | 0,p,_=>⟨0,Nat.le_refl _,rfl⟩
 | k+1,p,h=>by
  obtain⟨n,hn,e⟩:=ZhD t k (lp t p) (ZjR t p);refine⟨p.more+1+n,by lia,?_⟩;rw[Zd5,Zjn t p.more p rfl,e];rfl
theorem Zcu(t:SetTable):∀(k:Nat)(p:SetTable.Probe),lpn t (k+1) p=lp t (lpn t k p)
 | 0,_=>rfl
 | k+1,p=>Zcu t k (lp t p)
theorem Zfg(t:SetTable):∀(k:Nat)(p:SetTable.Probe),(lpn t k p).perturb=p.perturb / 32 ^ k
 | 0,p=>by simp[lpn]
 | k+1,p=>by
  show(lpn t k (lp t p)).perturb=_;rw[Zfg t k (lp t p)];show p.perturb / 32 / 32 ^ k=_;rw[Nat.div_div_eq_div_mul,Nat.pow_succ,Nat.mul_comm]
theorem ZdH(t:SetTable):∀(n:Nat)(p:SetTable.Probe),p.perturb=0->(lpn t n p).i=itn t.mask n p.i/\(1<=n->(lpn t n p).j=(lpn t n p).i)/\(lpn t n p).perturb=0
 | 0,p,h=>⟨rfl,fun z=>absurd z (by decide),h⟩
 | n+1,p,h=>by
  have h0:(lp t p).perturb=0:=by show p.perturb / 32=0;rw[h]
  have hi:(lp t p).i=nx t.mask p.i:=by show(p.i*5+1+p.perturb / 32) % (t.mask+1)=_;rw[h];rfl
  obtain⟨a,b,c⟩:=ZdH t n (lp t p) h0;refine⟨?_,fun _=>?_,c⟩
  ·show(lpn t n (lp t p)).i=_;rw[a,hi];rfl
  ·cases n with
   | zero=>rfl
   | succ n=>exact b (by lia)
theorem meets{t:SetTable}{p:SetTable.Probe}(hg:Good t.mask)(hm:p.more<=9)(hp:p.perturb<2 ^ 64){j:Nat}(hj:j<=t.mask):∃n,n<10*SetTable.turns t.mask/\(ZdO t n p).j=j:=by
 have h0:(lpn t 13 p).perturb=0:=by
  rw[Zfg];exact Nat.div_eq_of_lt (Nat.lt_of_lt_of_le hp (by decide))
 have hi:(lpn t 13 p).i<=t.mask:=by
  rw[Zcu];exact Nat.le_of_lt_succ (Nat.mod_lt _ (Nat.succ_pos _))
 have hji:(lpn t 13 p).j=(lpn t 13 p).i:=by
  rw[Zcu];rfl
 obtain⟨n,hn,e⟩:=reach hg hi hj;obtain⟨a,b,_⟩:=ZdH t n (lpn t 13 p) h0;have hl:(lpn t n (lpn t 13 p)).j=j:=by
  cases n with
  | zero=>exact hji.trans e
  | succ n=>rw[b (by lia),a,e]
 have hcat:∀(a b:Nat)(p:SetTable.Probe),lpn t (a+b) p=lpn t b (lpn t a p):=by
  intro a
  induction a with
  | zero=>intro b p;rw[Nat.zero_add];rfl
  | succ a ih=>intro b p;rw[Nat.add_right_comm];exact ih b (lp t p)
 obtain⟨c,hc,ec⟩:=ZhD t (13+n) p hm;refine⟨c,?_,?_⟩
 ·unfold SetTable.turns;lia
 ·rw[ec,hcat];exact hl
theorem Zcx(t:SetTable)(h:Int):(t.probeStart h).more<=9/\(t.probeStart h).perturb<2 ^ 64/\(t.probeStart h).dummy=none:=by
 refine⟨?_,?_,rfl⟩
 ·show SetTable.runEnd t.mask _-_<=9;unfold SetTable.runEnd
  split <;> lia
 ·show SetTable.bits h<2 ^ 64;unfold SetTable.bits;have h1:=Int.emod_nonneg h (by decide:((2:Int) ^ 64)≠0);have h2:=Int.emod_lt_of_pos h (by decide:(0:Int)<2 ^ 64);lia
theorem Zgs{t:SetTable}(hd:t.dummies=#[])(hf:t.fill<=t.mask):∃j,j<=t.mask/\t.slot j=.empty:=by
 apply Classical.byContradiction;intro hn;have hall:∀j,j<=t.mask->j∈t.place.toList:=fun j hj=>by
  have h1:t.slot j ≠ .empty:=fun z=>hn ⟨j,hj,z⟩;unfold SetTable.slot at h1;dsimp only at h1
  split at h1
  ·rename_i h2
   have h3:=eq_of_beq h2;rw[<- Array.getElem?_toList] at h3;exact List.mem_of_getElem? h3
  ·exfalso;rw[hd] at h1;exact h1 rfl
 have hsub:(List.range (t.mask+1)) ⊆ t.place.toList:=fun j hj=>hall j (by have:=List.mem_range.mp hj;lia);have hlen:=(List.nodup_range (n:=t.mask+1)).length_le_of_subset hsub;rw[List.length_range,Array.length_toList] at hlen;unfold SetTable.fill at hf;lia
theorem ZdI{t:SetTable}(hd:t.dummies=#[])(ha:Nat->Int)(h:Int):∀(n fuel:Nat)(p:SetTable.Probe),p.dummy=none->n<fuel->t.slot (ZdO t n p).j=.empty ->
  (∃j,SetTable.probe.go t ha h fuel p=some (.empty j none)/\t.slot j=.empty)\/∃k j i,k<n/\SetTable.probe.go t ha h fuel p=some (.candidate j i (ZdO t (k+1) p))/\t.slot j=.live i
 | n,0,_,_,hn,_=>absurd hn (Nat.not_lt_zero _)
 | n,fuel+1,p,hp,hn,he=>by
  unfold SetTable.probe.go;cases hs:t.slot p.j with
  | empty=>exact .inl ⟨p.j,by rw[hp],hs⟩
  | dummy =>
   exfalso;unfold SetTable.slot at hs;dsimp only at hs
   split at hs
   ·cases hs
   ·rw[hd] at hs;exact SetTable.Slot.noConfusion hs
  | live i =>
   dsimp only;cases n with
   | zero =>
    rw[show(ZdO t 0 p).j=p.j from rfl,hs] at he;cases he
   | succ n =>
    by_cases hh:(ha i == h)=true
    ·rw[if_pos hh];exact .inr ⟨0,p.j,i,Nat.succ_pos _,rfl,hs⟩
    ·rw[if_neg hh];have hdm:(t.advance p).dummy=none:=by
      unfold SetTable.advance
      split
      ·exact hp
      ·exact hp
     rcases ZdI hd ha h n fuel (t.advance p) hdm (by lia) he with a|⟨k,j,i',hk,e,hl⟩
     ·exact .inl a
     ·exact .inr ⟨k+1,j,i',by lia,e,hl⟩
theorem Zhc{t:SetTable}{p:SetTable.Probe}(hg:Good t.mask)(hp:p.perturb<2 ^ 64){j:Nat}(hj:j<=t.mask):∃k,k<=13+t.mask/\(lpn t k p).i=j:=by
 have h0:(lpn t 13 p).perturb=0:=by
  rw[Zfg];exact Nat.div_eq_of_lt (Nat.lt_of_lt_of_le hp (by decide))
 have hi:(lpn t 13 p).i<=t.mask:=by
  rw[Zcu];exact Nat.le_of_lt_succ (Nat.mod_lt _ (Nat.succ_pos _))
 obtain⟨n,hn,e⟩:=reach hg hi hj;obtain⟨a,_,_⟩:=ZdH t n (lpn t 13 p) h0;have hcat:∀(a b:Nat)(p:SetTable.Probe),lpn t (a+b) p=lpn t b (lpn t a p):=by
  intro a
  induction a with
  | zero=>intro b p;rw[Nat.zero_add];rfl
  | succ a ih=>intro b p;rw[Nat.add_right_comm];exact ih b (lp t p)
 exact⟨13+n,by lia,by rw[hcat,a,e]⟩
theorem Zey{t:SetTable}{owner:Array (Option Nat)}{j:Nat}(ho:owner.getD j (some 0)=none):∀(k fuel:Nat)(p:SetTable.Probe),k<fuel->(lpn t k p).i=j ->
  ∃j',SetTable.layClean.free t.mask owner fuel p.i p.perturb=some j'/\owner.getD j' (some 0)=none
 | k,0,_,h,_=>absurd h (Nat.not_lt_zero _)
 | k,fuel+1,p,hk,e=>by
  unfold SetTable.layClean.free;cases hf:(List.range (SetTable.runEnd t.mask p.i+1-p.i)).find? fun k=>(owner.getD (p.i+k) (some 0)).isNone with
  | some k' =>
   have h1:=List.find?_some hf;exact⟨p.i+k',rfl,Option.isNone_iff_eq_none.mp h1⟩
  | none =>
   cases k with
   | zero =>
    exfalso;have e':p.i=j:=e;have h1:=List.find?_eq_none.mp hf 0 (List.mem_range.mpr (by unfold SetTable.runEnd;split <;> lia))
    rw[Nat.add_zero,e',ho] at h1;exact h1 rfl
   | succ k =>
    exact Zey ho k fuel (lp t p) (by lia) e
theorem Zby{β : Type}{g g':Nat->Option β}:∀l:List Nat,(∀k∈l,g' k=g k)->l.filterMap g'=l.filterMap g
 | [],_=>rfl
 | y::l,h=>by
  have ih:=Zby l fun k hk=>h k (List.mem_cons_of_mem _ hk);have hy:=h y (List.mem_cons_self ..);cases hg:g y with
  | none=>rw[List.filterMap_cons_none (by rw[hy,hg]),List.filterMap_cons_none hg,ih]
  | some z=>rw[List.filterMap_cons_some (by rw[hy,hg]),List.filterMap_cons_some hg,ih]
theorem Zcf{β : Type}{g g':Nat->Option β}{j:Nat}{x : β}(h0:g j=none)(h1:g' j=some x)(h2:∀k,k≠j->g' k=g k):∀l:List Nat,l.Nodup->j∈l->(l.filterMap g').Perm (x::l.filterMap g)
 | y::l,hn,hj=>by
  obtain⟨hy,hl⟩:=List.nodup_cons.mp hn;by_cases e:y=j
  ·subst e;rw[List.filterMap_cons_some h1,List.filterMap_cons_none h0];have:l.filterMap g'=l.filterMap g:=Zby l fun k hk=>h2 k fun z=>hy (z ▸ hk);rw[this]
  ·have hj':j∈l:=(List.mem_cons.mp hj).resolve_left (Ne.symm e);have ih:=Zcf h0 h1 h2 l hl hj';cases hg:g y with
   | none =>
    rw[List.filterMap_cons_none (by rw[h2 y e,hg]),List.filterMap_cons_none hg];exact ih
   | some z =>
    rw[List.filterMap_cons_some (by rw[h2 y e,hg]),List.filterMap_cons_some hg];exact(ih.cons z).trans (List.Perm.swap ..)
def ZaS(m:Nat)(owner:Array (Option Nat)):List (Nat×Nat):=(List.range (m+1)).filterMap fun j=>(owner.getD j none).map (j,·)
structure Own(m:Nat)(owner:Array (Option Nat))(k:Nat):Prop where
 size:owner.size=m+1
 perm:((ZaS m owner).map (·.2)).Perm (List.range k)
theorem Zg1{m:Nat}{owner:Array (Option Nat)}{k:Nat}(h:Own m owner k):(ZaS m owner).length=k:=by
 have:=h.perm.length_eq;rw[List.length_map,List.length_range] at this;exact this
theorem ZiG{m:Nat}{owner:Array (Option Nat)}{k:Nat}(h:Own m owner k)(hk:k<=m):∃j,j<=m/\owner.getD j (some 0)=none:=by
 apply Classical.byContradiction;intro hn;have hall:∀j∈List.range (m+1),((owner.getD j none).map (Prod.mk j)).isSome=true:=fun j hj=>by
  have hj':=List.mem_range.mp hj;cases ho:owner.getD j none with
  | some v=>rfl
  | none =>
   exfalso;refine hn ⟨j,by lia,?_⟩;have hs:j<owner.size:=by rw[h.size];exact hj'
   simp only[Array.getD,hs,dif_pos] at ho ⊢;exact ho
 have hl:(ZaS m owner).length=m+1:=by
  unfold ZaS;have:∀(l:List Nat)(g:Nat->Option (Nat×Nat)),(∀j∈l,(g j).isSome=true)->(l.filterMap g).length=l.length:=by
   intro l g
   induction l with
   | nil=>exact fun _=>rfl
   | cons y l ih =>
    intro hg;obtain⟨z,hz⟩:=Option.isSome_iff_exists.mp (hg y (List.mem_cons_self ..));rw[List.filterMap_cons_some hz,List.length_cons,List.length_cons,ih fun j hj=>hg j (List.mem_cons_of_mem _ hj)]
  rw[this _ _ hall,List.length_range]
 have:=Zg1 h;lia
theorem ZjA{m:Nat}{owner:Array (Option Nat)}{k j:Nat}(h:Own m owner k)(hj:owner.getD j (some 0)=none):Own m (owner.setIfInBounds j (some k)) (k+1):=by
 have hs:j<owner.size:=by
  apply Classical.byContradiction;intro hn;rw[Array.getD,dif_neg hn] at hj;cases hj
 refine⟨by rw[Array.size_setIfInBounds];exact h.size,?_⟩;have hp:(ZaS m (owner.setIfInBounds j (some k))).Perm ((j,k)::ZaS m owner):=by
  refine Zcf ?_ ?_ (fun y hy=>?_) _ List.nodup_range (List.mem_range.mpr (by rw[<- h.size];exact hs))
  ·have:owner.getD j none=none:=by
    simp only[Array.getD,hs,dif_pos] at hj ⊢;exact hj
   rw[this];rfl
  ·have:(owner.setIfInBounds j (some k)).getD j none=some k:=by
    simp[Array.getD,hs]
   rw[this];rfl
  ·have:(owner.setIfInBounds j (some k)).getD y none=owner.getD y none:=by
    simp only[Array.getD,Array.size_setIfInBounds]
    split
    ·rename_i hy2
     exact Array.getElem_setIfInBounds_ne (by simpa using hy2) (Ne.symm hy)
    ·rfl
   rw[this]
 refine(hp.map (·.2)).trans ?_;rw[List.map_cons];refine((h.perm.cons k)).trans ?_;rw[List.range_succ];exact List.perm_append_comm (l₁ :=[k]) (l₂ := List.range k)
theorem ZfV{m:Nat}(hg:Good m):∀(hs:List Int)(owner:Array (Option Nat))(k:Nat),Own m owner k->k+hs.length<=m ->
  ∃owner',hs.foldl (fun(acc:Option (Array (Option Nat)×Nat)) h=>do
   let (owner,k) <- acc
   let j <- SetTable.layClean.free m owner (SetTable.turns m) (SetTable.bits h % (m+1)) (SetTable.bits h)
   pure (owner.setIfInBounds j (some k),k+1)) (some (owner,k))=some (owner',k+hs.length)/\Own m owner' (k+hs.length)
 | [],owner,k,h,_=>⟨owner,rfl,h⟩
 | x::hs,owner,k,h,hl=>by
  rw[List.length_cons] at hl;obtain⟨j,hj,ho⟩:=ZiG h (by lia);have t:SetTable:={ mask:=m,place :=#[],dummies :=#[],finger:=0,led:=true,moves:=0,plain:=true };have hb:SetTable.bits x<2 ^ 64:=(Zcx (SetTable.fresh 0 0 true) x).2.1;obtain⟨n,hn,e⟩:=Zhc (t:={ mask:=m,place :=#[],dummies :=#[],finger:=0,led:=true,moves:=0,plain:=true }) (p:={ j:=0,more:=0,i:=SetTable.bits x % (m+1),perturb:=SetTable.bits x,dummy:=none }) hg hb hj;obtain⟨j',hf,ho'⟩:=Zey ho n (SetTable.turns m) _ (by unfold SetTable.turns;have:n<=13+m:=hn;lia) e;have hf':SetTable.layClean.free m owner (SetTable.turns m) (SetTable.bits x % (m+1)) (SetTable.bits x)=some j':=hf;obtain⟨owner',h1,h2⟩:=ZfV hg hs _ (k+1) (ZjA h ho') (by lia);refine⟨owner',?_,by rw[List.length_cons,show k+(hs.length+1)=k+1+hs.length by lia];exact h2⟩;rw[List.foldl_cons];simp only[Option.bind_eq_bind,Option.bind_some,hf',Option.pure_def];rw[List.length_cons,show k+(hs.length+1)=k+1+hs.length by lia];exact h1
theorem ZhS{m:Nat}(hg:Good m)(fi mo:Nat)(led plain:Bool)(hs:Array Int)(hl:hs.size<=m):∃t order,SetTable.laid m fi mo led plain hs=some (t,order)/\t.mask=m/\t.dummies=#[]/\t.place.size=hs.size/\order.toList.Perm (List.range hs.size)/\t.led=led/\t.plain=plain/\t.moves=mo/\t.place.toList.Pairwise (· < ·):=by
 have h0:Own m (Array.replicate (m+1) none) 0:=by
  refine⟨Array.size_replicate,?_⟩;have:ZaS m (Array.replicate (m+1) none)=[]:=by
   unfold ZaS;rw[List.filterMap_eq_nil_iff];intro j hj;have:(Array.replicate (m+1) (none:Option Nat)).getD j none=none:=by
    simp[Array.getD]
   rw[this];rfl
  rw[this];exact List.Perm.refl _
 obtain⟨owner,h1,h2⟩:=ZfV hg hs.toList _ 0 h0 (by rw[Array.length_toList];lia);rw[Nat.zero_add,Array.length_toList] at h1 h2;have hc:SetTable.layClean m hs=some owner:=by
  unfold SetTable.layClean;rw[<- Array.foldl_toList];have:=congrArg (Option.map (·.1)) h1;exact this
 refine⟨{ mask:=m,place:=((ZaS m owner).map (·.1)).toArray,dummies :=#[],finger:=fi,led:=led,moves:=mo,plain:=plain },((ZaS m owner).map (·.2)).toArray,?_,rfl,rfl,?_,?_,rfl,rfl,rfl,?_⟩
 ·unfold SetTable.laid;rw[hc];rfl
 ·show((ZaS m owner).map (·.1)).toArray.size=_;rw[List.size_toArray,List.length_map,Zg1 h2]
 ·show((ZaS m owner).map (·.2)).toArray.toList.Perm _;exact h2.perm
 ·show((ZaS m owner).map (·.1)).toArray.toList.Pairwise (· < ·);have hsub:((ZaS m owner).map (·.1)).Sublist (List.range (m+1)):=by
   unfold ZaS;generalize List.range (m+1)=l
   induction l with
   | nil=>exact List.Sublist.slnil
   | cons y l ih =>
    cases hy:owner.getD y none with
    | none =>
     rw[List.filterMap_cons_none (by rw[hy];rfl)];exact ih.cons _
    | some v =>
     rw[List.filterMap_cons_some (b:=(y,v)) (by rw[hy];rfl)];exact ih.cons_cons y
  exact List.Pairwise.sublist hsub List.pairwise_lt_range
def Ris(xs:Array Nat):Prop:=xs.toList.Pairwise (· < ·)
theorem Zd6{xs:Array Nat}(h:Ris xs){i j:Nat}(hij:i<j)(hj:j<xs.size):xs[i]'(Nat.lt_trans hij hj)<xs[j]:=by
 have:=List.pairwise_iff_getElem.mp h i j (by rw[Array.length_toList];lia) (by rw[Array.length_toList];exact hj) hij
 simpa using this
theorem ZdD{xs:Array Nat}(h:Ris xs)(j:Nat):∀(fuel lo hi:Nat),lo<=hi->hi<=xs.size->hi-lo<=fuel->(∀i (hi':i<xs.size),i<lo->xs[i]<j)->(∀i (hi':i<xs.size),hi<=i -> ¬ xs[i]<j) ->
  ∀r,SetTable.below.go xs j fuel lo hi=r->r<=xs.size/\(∀i (hi':i<xs.size),i<r->xs[i]<j)/\(∀i (hi':i<xs.size),r<=i -> ¬ xs[i]<j)
 | 0,lo,hi,h1,h2,h3,a,b,r,e=>by
  have e':lo=r:=e;subst e';have:lo=hi:=by lia
  subst this;exact⟨h2,a,b⟩
 | fuel+1,lo,hi,h1,h2,h3,a,b,r,e=>by
  unfold SetTable.below.go at e;by_cases hl:lo<hi
  ·rw[if_pos hl] at e;dsimp only at e;have hm:(lo+hi) / 2<xs.size:=by lia
   have hgd:xs.getD ((lo+hi) / 2) j=xs[(lo+hi) / 2]:=by simp[Array.getD,hm]
   rw[hgd] at e;by_cases hx:xs[(lo+hi) / 2]<j
   ·rw[if_pos hx] at e;refine ZdD h j fuel ((lo+hi) / 2+1) hi (by lia) h2 (by lia) (fun i hi' hlt=>?_) b r e;by_cases e2:i=(lo+hi) / 2
    ·subst e2;exact hx
    ·exact Nat.lt_trans (Zd6 h (show i<(lo+hi) / 2 by lia) hm) hx
   ·rw[if_neg hx] at e;refine ZdD h j fuel lo ((lo+hi) / 2) (by lia) (by lia) (by lia) a (fun i hi' hle=>?_) r e;by_cases e2:i=(lo+hi) / 2
    ·subst e2;exact hx
    ·have:=Zd6 h (show(lo+hi) / 2<i by lia) hi';lia
  ·rw[if_neg hl] at e;subst e;have:lo=hi:=by lia
   subst this;exact⟨h2,a,b⟩
theorem Zbx{xs:Array Nat}(h:Ris xs)(j:Nat):SetTable.below xs j<=xs.size/\(∀i (hi':i<xs.size),i<SetTable.below xs j->xs[i]<j)/\(∀i (hi':i<xs.size),SetTable.below xs j<=i -> ¬ xs[i]<j) :=
 ZdD h j xs.size 0 xs.size (Nat.zero_le _) (Nat.le_refl _) (by lia) (fun _ _ z=>absurd z (Nat.not_lt_zero _)) (fun i hi' z=>by lia) _ rfl
theorem ZdQ{α : Type}(xs:Array α)(p:Nat)(x : α):(SetTable.insertAt xs p x).toList=xs.toList.take p++x::xs.toList.drop p:=by
 unfold SetTable.insertAt;simp[Array.toList_extract,List.extract];rw[List.take_of_length_le];simp
theorem Zdy{xs:Array Nat}(h:Ris xs){j:Nat}(hj:j∉xs.toList):Ris (SetTable.insertAt xs (SetTable.below xs j) j):=by
 obtain⟨h1,h2,h3⟩:=Zbx h j;unfold Ris;rw[ZdQ,List.pairwise_append];refine⟨List.Pairwise.sublist (List.take_sublist _ _) h,?_,?_⟩
 ·rw[List.pairwise_cons];refine⟨fun y hy=>?_,List.Pairwise.sublist (List.drop_sublist _ _) h⟩;obtain⟨i,hi,e⟩:=List.mem_iff_getElem.mp hy;rw[List.length_drop,Array.length_toList] at hi;rw[List.getElem_drop] at e;have:=h3 (SetTable.below xs j+i) (by lia) (by lia);have e2:y=xs[SetTable.below xs j+i]'(by lia):=by rw[<- e];simp
  have hne:y≠j:=fun z=>hj (z ▸ List.mem_of_mem_drop hy);lia
 ·intro a ha b hb;obtain⟨i,hi,e⟩:=List.mem_iff_getElem.mp ha;rw[List.length_take,Array.length_toList] at hi;rw[List.getElem_take] at e;have h4:=h2 i (by lia) (by lia);have e2:a=xs[i]'(by lia):=by rw[<- e];simp
  rcases List.mem_cons.mp hb with rfl|hb
  ·lia
  ·obtain⟨k,hk,ek⟩:=List.mem_iff_getElem.mp hb;rw[List.length_drop,Array.length_toList] at hk;rw[List.getElem_drop] at ek;have h5:=h3 (SetTable.below xs j+k) (by lia) (by lia);have e3:b=xs[SetTable.below xs j+k]'(by lia):=by rw[<- ek];simp
   lia
theorem Zgr{xs:Array Nat}(h:Ris xs){i:Nat}(hi:i<xs.size):SetTable.below xs (xs[i]+1)=i+1:=by
 obtain⟨h1,h2,h3⟩:=Zbx h (xs[i]+1);rcases Nat.lt_trichotomy (SetTable.below xs (xs[i]+1)) (i+1) with z|z|z
 ·exact absurd (Nat.lt_succ_self xs[i]) (h3 i hi (by lia))
 ·exact z
 ·exfalso;have h4:=h2 (i+1) (by lia) (by lia);have h5:=Zd6 h (show i<i+1 by lia) (show i+1<xs.size by lia);lia
theorem Zgk{xs:Array Nat}(h:Ris xs):SetTable.below xs 0=0:=by
 obtain⟨h1,h2,h3⟩:=Zbx h 0;rcases Nat.eq_zero_or_pos (SetTable.below xs 0) with z|z
 ·exact z
 ·exact absurd (h2 0 (by lia) z) (Nat.not_lt_zero _)
theorem ZcE{t:SetTable}(h:Ris t.place){j:Nat}(he:t.slot j=.empty):j∉t.place.toList:=fun hm=>by
 obtain⟨i,hi,e⟩:=List.mem_iff_getElem.mp hm;rw[Array.length_toList] at hi;have e2:t.place[i]=j:=by rw[<- e];simp
 obtain⟨h1,h2,h3⟩:=Zbx h j;have hb:SetTable.below t.place j=i:=by
  rcases Nat.lt_trichotomy (SetTable.below t.place j) i with z|z|z
  ·have h4:=Zd6 h z hi;have h5:=h3 (SetTable.below t.place j) (by lia) (Nat.le_refl _);lia
  ·exact z
  ·have h4:=h2 i hi z;lia
 unfold SetTable.slot at he;dsimp only at he;rw[hb,Array.getElem?_eq_getElem hi,e2] at he;simp at he
section
variable{prog:Program}{w:World}{K:Type}[DecidableEq K]{knd:KeyKind prog w K}{A:Around}{E:Value->Shared->Prop}{s:Shared}
theorem Zis{n:Nat}{v:Value}(h:carriedByValue v=true):ofAClassStatement n v=pure false:=by
 cases v <;> first|(unfold ofAClassStatement;rfl)|(cases h)
theorem Zen{ks:List K}{a:Addr}{Q:Bool->Shared->Prop}(hk:IsTupleKey knd s.heap ks a)(h:Q false s):wpAny (model prog w) A (ofAClassStatement 8 (.ref a)) Q E s:=by
 have hT:=hk.typeIs;obtain⟨o,items,n,ho,hc,hd,hi⟩:=hk;unfold ofAClassStatement;refine wpAny_bind (wpAny_typeOf hT ?_);dsimp only;rw[if_pos (by decide)];refine wpAny_bind (wpAny_pure ?_);rw[if_neg (by decide)];refine wpAny_bind (wpAny_seqItems ho hd ?_);dsimp only;rw[<- Array.forIn_toList];refine wpAny_bind (wpAny_forIn_list _ (fun rest r s'=>r.1=none/\s'=s/\∀v∈rest,carriedByValue v=true) _ ?_ ?_ _ _ ⟨rfl,rfl,hi.byValue⟩)
 ·rintro v rest r s' ⟨hr,rfl,hall⟩;rw[Zis (hall v List.mem_cons_self)];refine wpAny_bind (wpAny_pure ?_);rw[if_neg (by decide)];exact wpAny_pure ⟨rfl,rfl,fun u hu'=>hall u (List.mem_cons_of_mem _ hu')⟩
 ·rintro⟨r1,r2⟩ s' ⟨hr,rfl,_⟩;obtain rfl:r1=none:=hr;exact wpAny_pure h
theorem ZiR{n:Nat}{v:Value}(h:carriedByValue v=true):∃b,hashByValue n v=pure b:=by
 cases v <;> first|exact⟨_,by unfold hashByValue;rfl⟩|(cases h)
theorem Zhg{ks:List K}{a:Addr}{Q:Bool->Shared->Prop}(hk:IsTupleKey knd s.heap ks a)(h:∀b,Q b s):wpAny (model prog w) A (hashByValue 8 (.ref a)) Q E s:=by
 have hT:=hk.typeIs;obtain⟨o,items,n,ho,hc,hd,hi⟩:=hk;unfold hashByValue;refine wpAny_bind (wpAny_specialOf hT F.slot_tuple_hash.lookup ?_);dsimp only;refine wpAny_bind (wpAny_seqItems ho hd ?_);dsimp only[Option.getD_some];rw[<- Array.forIn_toList];refine wpAny_bind (wpAny_forIn_list _ (fun rest r s'=>r.1=none/\s'=s/\∀v∈rest,carriedByValue v=true) _ ?_ ?_ _ _ ⟨rfl,rfl,hi.byValue⟩)
 ·rintro v rest r s' ⟨hr,rfl,hall⟩;obtain⟨b,hb⟩:=ZiR (n:=7) (hall v List.mem_cons_self);rw[hb];refine wpAny_bind (wpAny_pure ?_);cases b with
  | true =>
   rw[if_neg (by decide)];exact wpAny_pure ⟨rfl,rfl,fun u hu'=>hall u (List.mem_cons_of_mem _ hu')⟩
  | false =>
   rw[if_pos (by decide)];exact wpAny_pure (wpAny_pure (h _))
 ·rintro⟨r1,r2⟩ s' ⟨hr,rfl,_⟩;obtain rfl:r1=none:=hr;exact wpAny_pure (h _)
theorem Zkd{ks:List K}{a:Addr}(hk:IsTupleKey knd s.heap ks a):∀(stored:List Value){Q:Bool->Shared->Prop},(∀v∈stored,∃ks b,v=.ref b/\IsTupleKey knd s.heap ks b)->Q false s->wpAny (model prog w) A (searchCouldBeSeen (.ref a) stored) Q E s:=by
 intro stored Q hs h;unfold searchCouldBeSeen;refine wpAny_bind (wpAny_forIn_list _ (fun rest r s'=>r.1=none/\s'=s/\∀v∈rest,∃ks b,v=Value.ref b/\IsTupleKey knd s.heap ks b) _ ?_ ?_ _ _ ⟨rfl,rfl,hs⟩)
 ·rintro v rest r s' ⟨hr,rfl,hall⟩;obtain⟨ks',b,rfl,hb⟩:=hall v List.mem_cons_self;have hrest:∀v∈rest,∃ks b,v=Value.ref b/\IsTupleKey knd s'.heap ks b:=fun v hv=>hall v (List.mem_cons_of_mem _ hv);dsimp only
  split
  ·exact wpAny_pure ⟨rfl,rfl,hrest⟩
  ·refine wpAny_bind (wpAny_eqIsQuiet_tuple hk ?_);rw[if_neg (by decide)];refine wpAny_bind (wpAny_eqIsQuiet_tuple hb ?_);rw[if_neg (by decide)];refine wpAny_bind (Zen hk ?_);rw[if_neg (by decide)];refine wpAny_bind (Zen hb ?_);rw[if_neg (by decide)];exact wpAny_pure ⟨rfl,rfl,hrest⟩
 ·rintro⟨r1,r2⟩ s' ⟨hr,rfl,_⟩;obtain rfl:r1=none:=hr;exact wpAny_pure h
def EK(knd:KeyKind prog w K):Bool->Heap->Int×Value->Prop
 | true,_,e=>∃i t,e.2=Value.int i t/\e.1=(intKind prog w).hash i
 | false,h,e=>∃ks b,e.2=.ref b/\IsTupleKey knd h ks b
def EV(knd:KeyKind prog w K):Bool->Heap->Value->Prop
 | true,_,v=>∃i t,v=Value.int i t
 | false,h,v=>∃ks b,v=.ref b/\IsTupleKey knd h ks b
theorem EK.keep{b:Bool}{h h':Heap}{e:Int×Value}(x:EK knd b h e)(hk:∀a o,h.get? a=some o->h'.get? a=some o):EK knd b h' e:=by
 cases b with
 | true=>exact x
 | false =>
  obtain⟨ks,b,e1,o2,its,m,h1,r1⟩:=x;exact⟨ks,b,e1,o2,its,m,hk b o2 h1,r1⟩
def ZjB(knd:KeyKind prog w K)(b:Bool)(h:Heap)(es:Array (Int×Value)):Prop := ∀e∈es.toList,EK knd b h e
structure Tab(es:Array (Int×Value))(t:SetTable):Prop where
 size:t.place.size=es.size
 none:t.dummies=#[]
 good:Good t.mask
 room:t.fill*5<t.mask*3
 ris:Ris t.place
theorem Tab.fill_eq{es:Array (Int×Value)}{t:SetTable}(h:Tab es t):t.fill=es.size:=by
 unfold SetTable.fill;rw[h.size,h.none];rfl
theorem Tab.fits{es:Array (Int×Value)}{t:SetTable}(h:Tab es t):t.fits es.size=true:=by
 have:=h.room;unfold SetTable.fits;rw[h.size];simp;lia
theorem Zir{m:Nat}(h:Good m):m % 2=1:=by
 rcases h with h|h|h|h|h|h|h|h|h|h <;> subst h <;> rfl
theorem Zdu(t:SetTable):∀(n:Nat)(p:SetTable.Probe),p.dummy=none->(ZdO t n p).dummy=none
 | 0,_,h=>h
 | n+1,p,h=>Zdu t n (t.advance p) (by
  unfold SetTable.advance
  split
  ·exact h
  ·exact h)
theorem ZjT{t:SetTable}{j i:Nat}(h:t.slot j=.live i):i<t.place.size:=by
 unfold SetTable.slot at h;dsimp only at h
 split at h
 ·rename_i h2
  cases h;have h3:=eq_of_beq h2;exact(Array.getElem?_eq_some_iff.mp h3).1
 ·split at h <;> cases h
set_option maxHeartbeats 1000000 in
theorem search{S a:Addr}{o:Obj}{es:Array (Int×Value)}{ep:Nat}{t:SetTable}{ks:List K}{h:Int}(hu:A.units<cLine)(ho:s.heap.get? S=some o)(hd:o.data=.set es ep t)(hE:ZjB knd false s.heap es)(hT:Tab es t)(hk:IsTupleKey knd s.heap ks a){Q:SetFound->Shared->Prop}
  (q0:Q (.there none) s) (q1:∀j,t.slot j=.empty->Q (.free j false) s):∀(fuel n:Nat)(stand:Option SetTable.Probe),(stand.getD (t.probeStart h)).dummy=none->t.slot (ZdO t n (stand.getD (t.probeStart h))).j=.empty->n<10*SetTable.turns t.mask->n<fuel ->
  wpAny (model prog w) A (setSearchFrom S (.ref a) h true fuel stand) Q E s
 | 0,n,_,_,_,_,hn=>absurd hn (Nat.not_lt_zero _)
 | fuel+1,n,stand,hdm,he,hn1,hn=>by
  unfold setSearchFrom;refine wpAny_bind (wpAny_setState_of ho hd hT.fits ?_);dsimp only;have hgw:t.gaveWay=false:=by
   unfold SetTable.gaveWay;rw[Zir hT.good];rfl
  rw[hgw,if_neg (by decide)];generalize hst:stand.getD (t.probeStart h)=p at hdm he
  split
  ·rename_i met hm
   unfold SetTable.probe at hm;rcases ZdI hT.none _ h n _ p hdm hn1 he with⟨j,e,hj⟩|⟨k,j,i,hkn,e,hl⟩
   ·rw[e] at hm;cases hm;exact wpAny_pure (q1 j hj)
   ·rw[e] at hm;cases hm;have hi:=ZjT hl;rw[hT.size] at hi;obtain⟨ks',b,hb2,hb⟩:=hE es[i] (Array.getElem_mem_toList hi);have hes:es[i]?= some (es[i].1,Value.ref b):=by rw[Array.getElem?_eq_getElem hi,<- hb2]
    have hsm:t.sameMemory t.moves t.mask=some true:=by
     unfold SetTable.sameMemory;rw[if_pos (beq_self_eq_true _)]
    have again:=search (h:=h) hu ho hd hE hT hk q0 q1 fuel (n-(k+1)) (some (ZdO t (k+1) p)) (Zdu t _ p hdm) (by
     show t.slot (ZdO t (n-(k+1)) (ZdO t (k+1) p)).j=.empty;rw[<- Zd5,show k+1+(n-(k+1))=n by lia];exact he) (by lia) (by lia)
    dsimp only;rw[hes];dsimp only;have hst2:∀v∈(Array.filter (fun x=>x.fst == h) es).toList.map (fun x=>x.snd),∃ks b,v=Value.ref b/\IsTupleKey knd s.heap ks b:=fun v hv=>by
     obtain⟨x,hx,rfl⟩:=List.mem_map.mp hv;rw[Array.toList_filter] at hx;exact hE x (List.mem_filter.mp hx).1
    cases hled:t.led with
    | false =>
     rw[if_pos (by decide)];refine wpAny_bind (Zkd hk _ hst2 ?_);rw[if_neg (by decide)];refine wpAny_bind (wpAny_holding (wpAny_eqBool_tuple hu hb hk (wpAny_bind (wpAny_setState_of ho hd hT.fits ?_))));by_cases heq:ks'=ks
     ·rw[decide_eq_true heq,if_pos (by decide)];exact wpAny_pure q0
     ·rw[decide_eq_false heq,if_neg (by decide)];dsimp only;rw[hsm];dsimp only;rw[if_pos rfl,hl];dsimp only;rw[hes];dsimp only;refine wpAny_bind (wpAny_isSame_ref_self (wpAny_bind (wpAny_pure ?_)));rw[if_pos rfl];dsimp only;rw[if_neg (by decide)];exact again
    | true =>
     rw[if_neg (by decide)];refine wpAny_bind (wpAny_holding (wpAny_eqBool_tuple hu hb hk (wpAny_bind (wpAny_setState_of ho hd hT.fits ?_))));by_cases heq:ks'=ks
     ·rw[decide_eq_true heq,if_pos (by decide)];exact wpAny_pure q0
     ·rw[decide_eq_false heq,if_neg (by decide)];dsimp only;rw[hsm];dsimp only;rw[if_pos rfl,hl];dsimp only;rw[hes];dsimp only;refine wpAny_bind (wpAny_isSame_ref_self (wpAny_bind (wpAny_pure ?_)));rw[if_pos rfl];dsimp only;rw[if_neg (by decide)];exact again
  ·rename_i hm
   exfalso;unfold SetTable.probe at hm;rcases ZdI hT.none _ h n _ p hdm hn1 he with⟨j,e,hj⟩|⟨k,j,i,hkn,e,hl⟩
   ·exact hm _ e
   ·exact hm _ e
end
def Zjc(n:Nat):Bool:=(SetTable.sizeAbove n-1 == 7 || SetTable.sizeAbove n-1 == 15 || SetTable.sizeAbove n-1 == 31 || SetTable.sizeAbove n-1 == 63 || SetTable.sizeAbove n-1 == 127 || SetTable.sizeAbove n-1 == 255 || SetTable.sizeAbove n-1 == 511 || SetTable.sizeAbove n-1 == 1023 || SetTable.sizeAbove n-1 == 2047 || SetTable.sizeAbove n-1 == 4095)&&decide (n<SetTable.sizeAbove n)&&decide (SetTable.sizeAbove n<=4096)
theorem Zhj:(List.range 4096).all Zjc=true:=by decide +kernel
theorem above{n:Nat}(h:n<4096):Good (SetTable.sizeAbove n-1)/\n<SetTable.sizeAbove n/\SetTable.sizeAbove n<=4096:=by
 have:=List.all_eq_true.mp Zhj n (List.mem_range.mpr h);unfold Zjc at this;simp only[Bool.and_eq_true,Bool.or_eq_true,beq_iff_eq,decide_eq_true_eq] at this;obtain⟨⟨h1,h2⟩,h3⟩:=this;refine⟨?_,h2,h3⟩;unfold Good
 simpa only[or_assoc] using h1
section
variable{prog:Program}{w:World}{K:Type}[DecidableEq K]{knd:KeyKind prog w K}{A:Around}{E:Value->Shared->Prop}{s:Shared}
def Zdg(knd:KeyKind prog w K)(b:Bool)(h:Heap)(S:Addr)(vs:Value->Prop)(n:Nat)(led:Bool):Prop :=
 ∃o es ep t,h.get? S=some o/\o.ExactSet/\o.data=.set es ep t/\ZjB knd b h es/\Tab es t/\es.size<=n/\t.led=led/\∀e∈es.toList,vs e.2
theorem stored{h:Heap}{S:Addr}{o:Obj}{es:Array (Int×Value)}{ep:Nat}{t:SetTable}(ho:h.get? S=some o)(hd:o.data=.set es ep t)(es':Array (Int×Value))(t':SetTable) :
  (h.update S (Obj.putSet es' t')).get? S=some { o with data:=.set es' (ep+1) t' }:=by
 have:=Heap.get?_update_self (Obj.putSet es' t') ho (by rw[putSet_of es' t' hd];rfl);rw[putSet_of es' t' hd] at this;exact this
theorem Zhk{h h':Heap}{S a:Addr}{o:Obj}{es:Array (Int×Value)}{ep:Nat}{t:SetTable}{ks:List K}(ho:h.get? S=some o)(hd:o.data=.set es ep t)(sb:Heap.SameBut S h h')(hk:IsTupleKey knd h ks a):IsTupleKey knd h' ks a:=by
 obtain⟨o2,items,n,h1,h2,h3,h4⟩:=hk;have hne:a≠S:=fun z=>by
  rw[z,ho] at h1;cases h1;rw[hd] at h3;cases h3
 exact⟨o2,items,n,(sb.2 a hne).trans h1,h2,h3,h4⟩
set_option maxHeartbeats 1000000 in
theorem ZlF{S:Addr}{o:Obj}{es:Array (Int×Value)}{ep:Nat}{t:SetTable}{Q:Unit->Shared->Prop}(ho:s.heap.get? S=some o)(hd:o.data=.set es ep t)(hf:t.fits es.size=true)(h1:1<=es.size)(hn:es.size<=1000)
  (h:∀(es':Array (Int×Value))(t':SetTable)(h':Heap),es'.toList.Perm es.toList->Tab es' t'->t'.led=t.led->h'.get? S=some { o with data:=.set es' (ep+1) t' }->Heap.SameBut S s.heap h'->Q () { s with heap:=h' }) :
  wpAny (model prog w) A (setRelay S (SetTable.grown es.size)) Q E s:=by
 have hgr:SetTable.grown es.size=es.size*4:=by unfold SetTable.grown;rw[if_neg (by lia)]
 rw[hgr];obtain⟨g1,g2,g3⟩:=above (n:=es.size*4) (by lia);unfold setRelay;refine wpAny_bind (wpAny_setState_of ho hd hf ?_);dsimp only;rw[if_neg (by rw[sizeLine_eq];lia)];obtain⟨t',order,e,m1,m2,m3,m4,m5,m6,m7,m8⟩:=ZhS g1 t.finger (t.movedTo (SetTable.sizeAbove (es.size*4)-1)) t.led t.plain (es.map (·.1)) (by rw[Array.size_map];lia);rw[Array.size_map] at m3 m4;have e2:t.relaid (es.map (·.1)) (es.size*4)=some (t',order):=e;rw[e2];have hperm:(order.filterMap (es[·]?)).toList.Perm es.toList:=by
  rw[Array.toList_filterMap];exact(m4.filterMap _).trans (List.Perm.of_eq (filterMap_getElem?_range es))
 have hsz:(order.filterMap (es[·]?)).size=es.size:=by
  rw[<- Array.length_toList,hperm.length_eq,Array.length_toList]
 refine wpAny_bind (wpAny_of_eq (a:=(order.filterMap (es[·]?),t')) ?_ ?_)
 ·change (ite (((order.filterMap (es[·]?)).size != es.size)=true) _ _:Sem (Array (Int×Value)×SetTable))=_;rw[if_neg (by rw[hsz];simp)]
 dsimp only;refine wpAny_storeSet_of ho hd (h _ t' _ hperm ⟨by rw[m3,hsz],m2,by rw[m1];exact g1,?_,m8⟩ m5 (stored ho hd _ _) (Heap.SameBut.update ..)) (by rw[hsz,sizeLine_eq];lia);unfold SetTable.fill;rw[m1,m2,m3];show(es.size+0)*5<_;lia
end
section
variable{prog:Program}{w:World}{K:Type}[DecidableEq K]{knd:KeyKind prog w K}{A:Around}{E:Value->Shared->Prop}{s:Shared}
theorem ZcU{es:Array (Int×Value)}{t:SetTable}(hT:Tab es t)(h:Int):∃n,n<10*SetTable.turns t.mask/\t.slot (ZdO t n (t.probeStart h)).j=.empty:=by
 obtain⟨a,b,c⟩:=Zcx t h;have hr:=hT.room;obtain⟨j,hj,he⟩:=Zgs hT.none (by lia);obtain⟨n,hn,e⟩:=meets hT.good a b hj;exact⟨n,hn,by rw[e];exact he⟩
theorem Zfq{m:Nat}(h:Good m):10*SetTable.turns m<100000:=by
 unfold SetTable.turns;rcases h with h|h|h|h|h|h|h|h|h|h <;> subst h <;> decide
set_option maxHeartbeats 1000000 in
theorem Zfd{S a:Addr}{o:Obj}{es:Array (Int×Value)}{ep:Nat}{t t2:SetTable}{vs:Value->Prop}{n j:Nat}{led:Bool}{ks:List K}{h:Int}{Q:Bool->Shared->Prop}(ho:s.heap.get? S=some o)(hx:o.ExactSet)(hd:o.data=.set es ep t)(hE:ZjB knd false s.heap es)(hT:Tab es t)(hsz:es.size<=n)(hled:t.led=led)(hvs:∀e∈es.toList,vs e.2)
  (hn:n<=900) (hk:IsTupleKey knd s.heap ks a) (hv:vs (.ref a)) (hj:t.slot j=.empty) (e1:t2.mask=t.mask) (e2:t2.place=SetTable.insertAt t.place (SetTable.below t.place j) j) (e3:t2.dummies=#[]) (e4:t2.led=t.led)
  (q:∀b h',Heap.SameBut S s.heap h'->Zdg knd false h' S vs (n+1) led->Q b { s with heap:=h' }) :
  wpAny (model prog w) A (do
   storeSet S (SetTable.insertAt es (SetTable.below t.place j) (h,Value.ref a)) t2
   if(!false&&t2.tooFull)=true then do
     setRelay S (SetTable.grown (es.size+1))
     pure true
    else pure true) Q E s:=by
 have hr:=hT.room;have hfe:=hT.fill_eq;have hins:=SetTable.insertAt_perm es (SetTable.below t.place j) (h,Value.ref a);have hmem:∀e∈(SetTable.insertAt es (SetTable.below t.place j) (h,Value.ref a)).toList,e∈es.toList\/e=(h,Value.ref a):=fun e he=>by
  have:=hins.mem_iff.mp he;rw[Array.toList_push] at this;rcases List.mem_append.mp this with z|z
  ·exact .inl z
  ·exact .inr (List.mem_singleton.mp z)
 have hs1:(SetTable.insertAt es (SetTable.below t.place j) (h,Value.ref a)).size=es.size+1:=by
  rw[<- Array.length_toList,hins.length_eq,Array.length_toList,Array.size_push]
 have hp1:t2.place.size=es.size+1:=by
  have:=(SetTable.insertAt_perm t.place (SetTable.below t.place j) j).length_eq;rw[Array.length_toList,Array.length_toList,Array.size_push,hT.size] at this;rw[e2];exact this
 have hfill:t2.fill=es.size+1:=by
  unfold SetTable.fill;rw[hp1,e3];rfl
 have hris:Ris t2.place:=by
  rw[e2];exact Zdy hT.ris (ZcE hT.ris hj)
 generalize SetTable.insertAt es (SetTable.below t.place j) (h,Value.ref a)=es1 at hmem hs1;have hEv:∀h',Heap.SameBut S s.heap h'->∀es':Array (Int×Value),es'.toList.Perm es1.toList->ZjB knd false h' es'/\∀e∈es'.toList,vs e.2:=fun h' sb es' hp=>by
  refine⟨fun e he=>?_,fun e he=>?_⟩
  ·rcases hmem e (hp.mem_iff.mp he) with z|z
   ·obtain⟨ks',b,hb1,hb2⟩:=hE e z;exact⟨ks',b,hb1,Zhk ho hd sb hb2⟩
   ·subst z;exact⟨ks,a,rfl,Zhk ho hd sb hk⟩
  ·rcases hmem e (hp.mem_iff.mp he) with z|z
   ·exact hvs e z
   ·subst z;exact hv
 refine wpAny_bind (wpAny_storeSet_of ho hd ?_ (by rw[hs1,sizeLine_eq];lia));have ho1:=stored ho hd es1 t2;have sb1:Heap.SameBut S s.heap (s.heap.update S (Obj.putSet es1 t2)):=Heap.SameBut.update ..;generalize s.heap.update S (Obj.putSet es1 t2)=h1 at ho1 sb1;have hfits:t2.fits es1.size=true:=by
  unfold SetTable.fits;rw[hp1,hs1,hfill,e1];simp;lia
 by_cases hfull:t2.tooFull=true
 ·rw[hfull,if_pos (by decide),<- hs1];refine wpAny_bind (ZlF (s:={ s with heap:=h1 }) ho1 rfl hfits (by lia) (by lia) fun es' t' h' hp hT' hl' ho' sb'=>wpAny_pure ?_);have sb:=sb1.trans sb';obtain⟨a1,a2⟩:=hEv h' sb es' hp;have hl:es'.size=es1.size:=by rw[<- Array.length_toList,hp.length_eq,Array.length_toList]
  exact q true h' sb ⟨_,es',_,t',ho',hx,rfl,a1,hT',by lia,by rw[hl',e4,hled],a2⟩
 ·have hnf:t2.tooFull=false:=by
   cases hc:t2.tooFull with
   | true=>exact absurd hc hfull
   | false=>rfl
  rw[hnf,if_neg (by decide)];obtain⟨a1,a2⟩:=hEv h1 sb1 es1 (List.Perm.refl _);refine wpAny_pure (q true h1 sb1 ⟨_,es1,_,t2,ho1,hx,rfl,a1,⟨by rw[hp1,hs1],e3,by rw[e1];exact hT.good,?_,hris⟩,by lia,by rw[e4,hled],a2⟩);unfold SetTable.tooFull at hnf;have:=of_decide_eq_false hnf;lia
set_option maxHeartbeats 2000000 in
theorem Zg2{S a:Addr}{vs:Value->Prop}{n:Nat}{led:Bool}{ks:List K}{h:Int}{Q:Bool->Shared->Prop}(hu:A.units<cLine)(hS:Zdg knd false s.heap S vs n led)(hn:n<=900)(hk:IsTupleKey knd s.heap ks a)(hv:vs (.ref a))
  (q:∀b h',Heap.SameBut S s.heap h'->Zdg knd false h' S vs (n+1) led->Q b { s with heap:=h' }):wpAny (model prog w) A (setAddHashed S (.ref a) h) Q E s:=by
 obtain⟨o,es,ep,t,ho,hx,hd,hE,hT,hsz,hled,hvs⟩:=hS;have hr:=hT.room;have hfe:=hT.fill_eq;unfold setAddHashed;refine wpAny_holding ?_;unfold setAddHashedIn;refine wpAny_bind (wpAny_setState_of ho hd hT.fits ?_);have hbs:byScan (.ref a) es=false:=rfl;dsimp only;rw[hbs,if_neg (by decide)];obtain⟨m,hm1,hm2⟩:=ZcU hT h;have hsm:=Zfq hT.good;unfold setSearch;refine wpAny_bind (search (knd:=knd) hu ho hd hE hT hk ?_ (fun j hj=>?_) 100000 m none (Zcx t h).2.2 hm2 hm1 (by lia))
 ·exact wpAny_pure (q false s.heap (Heap.SameBut.refl ..) ⟨o,es,ep,t,ho,hx,hd,hE,hT,by lia,hled,hvs⟩)
 dsimp only;refine wpAny_bind (wpAny_setState_of ho hd hT.fits ?_);dsimp only;have hnew:=ZcE hT.ris hj;have hhas:SetTable.has t.dummies j=false:=by rw[hT.none];rfl
 have hput:t.put j=({ t with place:=SetTable.insertAt t.place (SetTable.below t.place j) j },SetTable.below t.place j):=by
  unfold SetTable.put;rw[hhas];rfl
 rw[hput];dsimp only;cases hpl:t.plain with
 | true =>
  rw[if_pos rfl];refine wpAny_bind (Zhg hk fun b=>?_);cases b with
  | true =>
   rw[if_pos rfl];exact Zfd ho hx hd hE hT hsz hled hvs hn hk hv hj rfl rfl hT.none rfl q
  | false =>
   rw[if_neg (by decide)];exact Zfd ho hx hd hE hT hsz hled hvs hn hk hv hj rfl rfl hT.none rfl q
 | false =>
  rw[if_neg (by decide)];refine wpAny_bind (wpAny_pure ?_);rw[if_pos rfl];exact Zfd ho hx hd hE hT hsz hled hvs hn hk hv hj rfl rfl hT.none rfl q
theorem add{S a:Addr}{vs:Value->Prop}{n:Nat}{led:Bool}{ks:List K}{Q:Bool->Shared->Prop}(hu:A.units<cLine)(hS:Zdg knd false s.heap S vs n led)(hn:n<=900)(hk:IsTupleKey knd s.heap ks a)(hv:vs (.ref a))
  (q:∀b h' tk,s.toks<=tk->Heap.SameBut S s.heap h'->Zdg knd false h' S vs (n+1) led->Q b { s with heap:=h',toks:=tk }):wpAny (model prog w) A (setAdd S (.ref a)) Q E s:=by
 unfold setAdd;refine wpAny_holding (wpAny_bind (wpAny_pyHash_tuple hu hk ?_));exact Zg2 (s:={ s with toks:=_ }) hu hS hn hk hv fun b h' sb hS'=>q b h' _ (Nat.le_add_right _ _) sb hS'
theorem ZhY{t:SetTable}(hd:t.dummies=#[])(ha:Nat->Int)(h:Int)(hne:∀i,(ha i == h)=false):∀(n fuel:Nat)(p:SetTable.Probe),p.dummy=none->n<fuel->t.slot (ZdO t n p).j=.empty ->
  ∃j,SetTable.probe.go t ha h fuel p=some (.empty j none)/\t.slot j=.empty
 | n,0,_,_,hn,_=>absurd hn (Nat.not_lt_zero _)
 | n,fuel+1,p,hp,hn,he=>by
  unfold SetTable.probe.go;cases hs:t.slot p.j with
  | empty=>exact⟨p.j,by rw[hp],hs⟩
  | dummy =>
   exfalso;unfold SetTable.slot at hs;dsimp only at hs
   split at hs
   ·cases hs
   ·rw[hd] at hs;exact SetTable.Slot.noConfusion hs
  | live i =>
   dsimp only;cases n with
   | zero =>
    rw[show(ZdO t 0 p).j=p.j from rfl,hs] at he;cases he
   | succ n =>
    rw[if_neg (by rw[hne i];decide)];have hdm:(t.advance p).dummy=none:=by
     unfold SetTable.advance
     split
     ·exact hp
     ·exact hp
    exact ZhY hd ha h hne n fuel (t.advance p) hdm (by lia) he
theorem Zhd{es:Array (Int×Value)}{t:SetTable}(hT:Tab es t)(h:Int):∃j,t.freeSlot h=some (j,false)/\t.slot j=.empty:=by
 obtain⟨n,hn,he⟩:=ZcU hT h;obtain⟨j,e,hj⟩:=ZhY hT.none (fun _=>h+1) h (fun _=>by simp;lia) n (10*SetTable.turns t.mask) (t.probeStart h) (Zcx t h).2.2 hn he;refine⟨j,?_,hj⟩;unfold SetTable.freeSlot SetTable.probe;rw[e];rfl
theorem ZjW{es:Array (Int×Value)}{t:SetTable}(hT:Tab es t)(h:Int)(x:Value):∃j,t.slot j=.empty/\layNew t es h x=(SetTable.insertAt es (SetTable.below t.place j) (h,x),{ t with place:=SetTable.insertAt t.place (SetTable.below t.place j) j },false,false):=by
 obtain⟨j,e,hj⟩:=Zhd hT h;refine⟨j,hj,?_⟩;have hhas:SetTable.has t.dummies j=false:=by rw[hT.none];rfl
 have hput:t.put j=({ t with place:=SetTable.insertAt t.place (SetTable.below t.place j) j },SetTable.below t.place j):=by
  unfold SetTable.put;rw[hhas];rfl
 have hs1:(SetTable.insertAt es (SetTable.below t.place j) (h,x)).size=es.size+1:=by
  rw[<- Array.length_toList,(SetTable.insertAt_perm es (SetTable.below t.place j) (h,x)).length_eq,Array.length_toList,Array.size_push]
 have hp1:(SetTable.insertAt t.place (SetTable.below t.place j) j).size=es.size+1:=by
  rw[<- Array.length_toList,(SetTable.insertAt_perm t.place (SetTable.below t.place j) j).length_eq,Array.length_toList,Array.size_push,hT.size]
 have hr:=hT.room;have hfe:=hT.fill_eq;have hfits:({ t with place:=SetTable.insertAt t.place (SetTable.below t.place j) j }:SetTable).fits (SetTable.insertAt es (SetTable.below t.place j) (h,x)).size=true:=by
  unfold SetTable.fits SetTable.fill;rw[hs1];dsimp only;rw[hp1,hT.none];simp;lia
 unfold layNew;rw[e];dsimp only;rw[hput];dsimp only;unfold SetTable.orStandIn;rw[hfits];rfl
theorem ZgP{es:Array (Int×Value)}{t:SetTable}(h1:1<=es.size)(hn:es.size<=1000):∃es' t' g,relayAll t es (SetTable.grown es.size)=(es',t',g)/\es'.toList.Perm es.toList/\Tab es' t'/\t'.led=t.led:=by
 have hgr:SetTable.grown es.size=es.size*4:=by unfold SetTable.grown;rw[if_neg (by lia)]
 rw[hgr];obtain⟨g1,g2,g3⟩:=above (n:=es.size*4) (by lia);obtain⟨t',order,e,m1,m2,m3,m4,m5,m6,m7,m8⟩:=ZhS g1 t.finger (t.movedTo (SetTable.sizeAbove (es.size*4)-1)) t.led t.plain (es.map (·.1)) (by rw[Array.size_map];lia);rw[Array.size_map] at m3 m4;have e2:t.relaid (es.map (·.1)) (es.size*4)=some (t',order):=e;have hperm:(order.filterMap (es[·]?)).toList.Perm es.toList:=by
  rw[Array.toList_filterMap];exact(m4.filterMap _).trans (List.Perm.of_eq (filterMap_getElem?_range es))
 have hsz:(order.filterMap (es[·]?)).size=es.size:=by
  rw[<- Array.length_toList,hperm.length_eq,Array.length_toList]
 have hfill:t'.fill=es.size:=by
  unfold SetTable.fill;rw[m2,m3];rfl
 have hfits:t'.fits (order.filterMap (es[·]?)).size=true:=by
  unfold SetTable.fits;rw[hsz,m3,hfill,m1];simp;lia
 have hcov:coversAll order es.size=true:=by
  unfold coversAll;exact List.isPerm_iff.mpr m4
 refine⟨order.filterMap (es[·]?),t',false,?_,hperm,⟨by rw[m3,hsz],m2,by rw[m1];exact g1,?_,m8⟩,m5⟩
 ·unfold relayAll;rw[e2];dsimp only;rw[hcov,hfits];rfl
 ·rw[hfill,m1];lia
set_option maxHeartbeats 1000000 in
theorem ZfJ{g:Bool->Sem Unit}(hg:∀(b:Bool)(s₁ : Shared)(Q':Unit->Shared->Prop),Q' () s₁ -> wpAny (model prog w) A (g b) Q' E s₁)
  {S:Addr} {o:Obj} {es es1:Array (Int×Value)} {ep:Nat} {t t2:SetTable} {vs:Value->Prop} {n:Nat} {led:Bool} {Q:Option Bool->Shared->Prop} (ho:s.heap.get? S=some o) (hx:o.ExactSet) (hd:o.data=.set es ep t)
  (hE:ZjB knd true s.heap es1) (hvs:∀e∈es1.toList,vs e.2) (h1:1<=es1.size) (hn:es1.size<=1000) (hsz:es1.size<=n) (hp:t2.place.size=es1.size) (hd2:t2.dummies=#[]) (hg2:Good t2.mask) (hris:Ris t2.place) (hled:t2.led=led)
  (q:∀h',Heap.SameBut S s.heap h'->Zdg knd true h' S vs n led->Q (some true) { s with heap:=h' }) :
  wpAny (model prog w) A (do
   storeSet S es1 t2
   if(!false&&t2.tooFull)=true then do
     g (relayAll t2 es1 (SetTable.grown es1.size)).2.2
     storeSet S (relayAll t2 es1 (SetTable.grown es1.size)).1 (relayAll t2 es1 (SetTable.grown es1.size)).2.1
     pure (some true)
    else pure (some true)) Q E s:=by
 refine wpAny_bind (wpAny_storeSet_of ho hd ?_ (by rw[sizeLine_eq];lia));have ho1:=stored ho hd es1 t2;have sb1:Heap.SameBut S s.heap (s.heap.update S (Obj.putSet es1 t2)):=Heap.SameBut.update ..;generalize s.heap.update S (Obj.putSet es1 t2)=hp1 at ho1 sb1;by_cases hfull:t2.tooFull=true
 ·rw[hfull,if_pos (by decide)];obtain⟨es2,t3,gv,e,hpm,hT3,hl3⟩:=ZgP (t:=t2) h1 hn;rw[e];dsimp only;have hz2:es2.size=es1.size:=by rw[<- Array.length_toList,hpm.length_eq,Array.length_toList]
  refine wpAny_bind (hg _ _ _ (wpAny_bind (wpAny_storeSet_of (s:={ s with heap:=hp1 }) ho1 rfl ?_ (by rw[hz2,sizeLine_eq];lia))));have ho2:=stored ho1 rfl es2 t3;have sb2:Heap.SameBut S hp1 (hp1.update S (Obj.putSet es2 t3)):=Heap.SameBut.update ..;exact wpAny_pure (q _ (sb1.trans sb2) ⟨_,es2,_,t3,ho2,hx,rfl,fun e he=>hE e (hpm.mem_iff.mp he),hT3,by lia,by rw[hl3,hled],fun e he=>hvs e (hpm.mem_iff.mp he)⟩)
 ·have hnf:t2.tooFull=false:=by
   cases hc:t2.tooFull with
   | true=>exact absurd hc hfull
   | false=>rfl
  rw[hnf,if_neg (by decide)];refine wpAny_pure (q hp1 sb1 ⟨_,es1,_,t2,ho1,hx,rfl,hE,⟨hp,hd2,hg2,?_,hris⟩,hsz,hled,hvs⟩);unfold SetTable.tooFull at hnf;have:=of_decide_eq_false hnf;lia
theorem Zdn{h:Heap}{es:Array (Int×Value)}(hE:ZjB knd true h es):ElemsOf (intKind prog w) es.toList:=fun e he=>by
 obtain⟨i,t,e1,e2⟩:=hE e he;refine⟨⟨i,?_,e2⟩,?_⟩
 ·rw[e1];exact intKind_is _ _ _ _
 ·rw[e1];rfl
set_option maxHeartbeats 2000000 in
theorem ZgB{S:Addr}{vs:Value->Prop}{n i tk:Nat}{k:Int}{led:Bool}{Q:Bool->Shared->Prop}(hS:Zdg knd true s.heap S vs n led)(hn:n<=900)(hv:vs (.int k tk))
  (q:∀b h',Heap.SameBut S s.heap h'->Zdg knd true h' S vs (n+1) led->Q b { s with heap:=h' }):wpAny (model prog w) A (setAddHashed S (.int k tk) ((intKind prog w).hash k)) Q E s:=by
 obtain⟨o,es,ep,t,ho,hx,hd,hE,hT,hsz,hled,hvs⟩:=hS;have hkey:(intKind prog w).is k (Value.int k tk)=true:=intKind_is _ _ _ _;have hb:es.size<scanBound:=by show es.size<4096;lia
 unfold setAddHashed setAddHashedIn;refine wpAny_holding (wpAny_bind (wpAny_setState_of ho hd hT.fits ?_));dsimp only;rw[byScan_of (knd:=intKind prog w) rfl hb (Zdn hE)];simp only[↓reduceIte];unfold setAddByScan;refine wpAny_bind ?_;refine wpAny_bind (wpAny_rule ?_);refine wpAny_bind (wpAny_setScan_of (knd:=intKind prog w) hkey ho hd hT.fits (Zdn hE) ?_);cases hr:List.findIdx? (fun e=>(intKind prog w).is k e.2) es.toList with
 | some j =>
  dsimp only;exact wpAny_pure (wpAny_pure (q false s.heap (Heap.SameBut.refl ..) ⟨o,es,ep,t,ho,hx,hd,hE,hT,by lia,hled,hvs⟩))
 | none =>
  dsimp only;obtain⟨j,hj,eL⟩:=ZjW hT ((intKind prog w).hash k) (Value.int k tk);rw[eL];dsimp only;have hins:=SetTable.insertAt_perm es (SetTable.below t.place j) ((intKind prog w).hash k,Value.int k tk);have hmem:∀e∈(SetTable.insertAt es (SetTable.below t.place j) ((intKind prog w).hash k,Value.int k tk)).toList,e∈es.toList\/e=((intKind prog w).hash k,Value.int k tk):=fun e he=>by
   have:=hins.mem_iff.mp he;rw[Array.toList_push] at this;rcases List.mem_append.mp this with z|z
   ·exact .inl z
   ·exact .inr (List.mem_singleton.mp z)
  have hs1:(SetTable.insertAt es (SetTable.below t.place j) ((intKind prog w).hash k,Value.int k tk)).size=es.size+1:=by
   rw[<- Array.length_toList,hins.length_eq,Array.length_toList,Array.size_push]
  have hp1:(SetTable.insertAt t.place (SetTable.below t.place j) j).size=es.size+1:=by
   rw[<- Array.length_toList,(SetTable.insertAt_perm t.place (SetTable.below t.place j) j).length_eq,Array.length_toList,Array.size_push,hT.size]
  have hris:Ris (SetTable.insertAt t.place (SetTable.below t.place j) j):=Zdy hT.ris (ZcE hT.ris hj);generalize SetTable.insertAt es (SetTable.below t.place j) ((intKind prog w).hash k,Value.int k tk)=es1 at hmem hs1;have hE1:ZjB knd true s.heap es1:=fun e he=>by
   rcases hmem e he with z|z
   ·exact hE e z
   ·subst z;exact⟨k,tk,rfl,rfl⟩
  have hv1:∀e∈es1.toList,vs e.2:=fun e he=>by
   rcases hmem e he with z|z
   ·exact hvs e z
   ·subst z;exact hv
  refine wpAny_bind (wpAny_pure ?_)
  split
  ·refine wpAny_bind ?_;rw[hashByValue_scannable 8 (x:=Value.int k tk) rfl];refine wpAny_pure ?_;refine ZfJ (fun b s₁ Q' hq=>by cases b <;> first|exact wpAny_pure hq|exact wpAny_rule hq) ho hx hd hE1 hv1 (by lia) (by lia) (show es1.size<=n+1 by lia) (by rw[hs1];exact hp1) hT.none hT.good hris hled fun h' sb hS'=>?_
   exact wpAny_pure (q true h' sb hS')
  ·refine wpAny_bind (wpAny_pure ?_);refine ZfJ (fun b s₁ Q' hq=>by cases b <;> first|exact wpAny_pure hq|exact wpAny_rule hq) ho hx hd hE1 hv1 (by lia) (by lia) (show es1.size<=n+1 by lia) (by rw[hs1];exact hp1) hT.none hT.good hris hled fun h' sb hS'=>?_
   exact wpAny_pure (q true h' sb hS')
theorem Zl7{b:Bool}{S:Addr}{v:Value}{vs:Value->Prop}{n:Nat}{led:Bool}{Q:Bool->Shared->Prop}(hu:A.units<cLine)(hS:Zdg knd b s.heap S vs n led)(hn:n<=900)(hk:EV knd b s.heap v)(hv:vs v)
  (q:∀r h' tk,s.toks<=tk->Heap.SameBut S s.heap h'->Zdg knd b h' S vs (n+1) led->Q r { s with heap:=h',toks:=tk }):wpAny (model prog w) A (setAdd S v) Q E s:=by
 cases b with
 | false =>
  obtain⟨ks,a,rfl,hk⟩:=hk;exact add hu hS hn hk hv q
 | true =>
  obtain⟨i,t,rfl⟩:=hk;unfold setAdd;refine wpAny_holding (wpAny_bind ((intKind prog w).pyHash (intKind_is _ _ _ _) ?_));exact ZgB (i:=0) (s:={ s with toks:=_ }) hS hn hv fun b h' sb hS'=>q b h' _ (Nat.le_add_right _ _) sb hS'
end
end Sts
namespace Sts
open PySem PyProof.Rows
section
variable{prog:Program}{w:World}{K:Type}[DecidableEq K]{knd:KeyKind prog w K}{A:Around}{R:Result->Shared->Prop}
def Way(knd:KeyKind prog w K)(m:Bool)(h0:Heap)(S:Addr)(items:Array Value)(led:Bool)(i:Nat)(h:Heap):Prop:=Zdg knd m h S (· ∈ items.toList) i led/\∀b o,b<S->h0.get? b=some o->h.get? b=some o
def Zkv(knd:KeyKind prog w K)(m:Bool)(h0:Heap)(S:Addr)(items:Array Value):Prop := ∀v∈items.toList,∀h:Heap,(∀b o,b<S->h0.get? b=some o->h.get? b=some o)->EV knd m h v
theorem Zkv.at{m:Bool}{h0 h:Heap}{S:Addr}{items:Array Value}(ht:Zkv knd m h0 S items)(hk:∀b o,b<S->h0.get? b=some o->h.get? b=some o){v:Value}(hv:v∈items.toList):EV knd m h v:=ht v hv h hk
theorem Way.keep{m:Bool}{h0 h h':Heap}{S:Addr}{items:Array Value}{led:Bool}{i:Nat}(ht:Zkv knd m h0 S items)(x:Way knd m h0 S items led i h)(hk:∀b o,b<=S->h.get? b=some o->h'.get? b=some o):Way knd m h0 S items led i h':=by
 obtain⟨⟨o,es,ep,t,ho,hx,hd,hE,hT,hs,hl,hv⟩,hb⟩:=x;have hb':∀b o,b<S->h0.get? b=some o->h'.get? b=some o:=fun b o hlt e=>hk b o (Nat.le_of_lt hlt) (hb b o hlt e);refine⟨⟨o,es,ep,t,hk S o (Nat.le_refl _) ho,hx,hd,fun e he=>?_,hT,hs,hl,hv⟩,hb'⟩;cases m with
 | true=>exact hE e he
 | false=>exact ht.at hb' (hv e he)
theorem Ziy{m:Bool}{h0:Heap}{S I l:Addr}{items:Array Value}{led:Bool}(hh:A.in1.handled=none)(hu:A.in1.units<cLine)(ht:Zkv knd m h0 S items)(hSI:S<I)(hlI:l≠I)(hn:items.size<=900):∀(k i:Nat)(s:Shared),items.size-i=k->i<=items.size->(s.heap.IsListIter I l i/\s.heap.IsList l items)->l<S->Way knd m h0 S items led i s.heap ->
   (∀h' tk,Way knd m h0 S items led items.size h'->R (.ok (.ret .none)) { s with heap:=h',toks:=tk })->codeAny (model prog w) A (.builtin "set.update.loop" ⟨[.ref S,.ref I],[]⟩) R s:=by
 have W:=Walks.list (prog:=prog) (w:=w) (A:=A.in1) hh I l hlI items;intro k
 induction k with
 | zero =>
  intro i s hk hi hst hlS hw hR;obtain rfl:i=items.size:=by lia
  refine codeAny_builtin F.entry_set_update_loop ?_;rw[Around.under_plainId F.plain_set_update_loop _];change wpAny _ A.in1 (pyNext (.ref I) >>= _) _ _ s;refine wpAny_bind (W.done s _ _ hst fun h' tk hm=>?_);change wpAny _ A.in1 (ret Value.none) _ _ _;exact wpAny_pure (hR h' tk (hw.keep ht fun b o hb e=>hm b o (fun z=>Nat.lt_irrefl _ (Nat.lt_of_le_of_lt (List.mem_singleton.mp z ▸ hb) hSI)) e))
 | succ k ih =>
  intro i s hk hi hst hlS hw hR;have hlt:i<items.size:=by lia
  refine codeAny_builtin F.entry_set_update_loop ?_;rw[Around.under_plainId F.plain_set_update_loop _];change wpAny _ A.in1 (pyNext (.ref I) >>= _) _ _ s;refine wpAny_bind (W.item i s _ _ hlt hst fun v h' tk hP hst' hm=>?_);have hw':=hw.keep ht fun b o hb e=>hm b o (fun z=>Nat.lt_irrefl _ (Nat.lt_of_le_of_lt (List.mem_singleton.mp z ▸ hb) hSI)) e;have hvm:v∈items.toList:=List.mem_of_getElem? (by rw[Array.getElem?_toList];exact hP);have hkey:=ht.at hw'.2 hvm;change wpAny _ A.in1 (holding [v] (setAdd S v) >>= _) _ _ _;refine wpAny_bind (wpAny_holding (Zl7 (s:={ s with heap:=h',toks:=tk }) hu hw'.1 (by lia) hkey hvm fun b1 h2 tk2 htk sb hS2=>?_));have hk2:∀b o,b≠S->h'.get? b=some o->h2.get? b=some o:=fun b o hb e=>(sb.2 b hb).trans e;refine wpAny_pure ⟨plainId_quiet F.plain_set_update_loop _,ih (i+1) _ (by lia) hlt ?_ hlS ⟨hS2,fun b o hb e=>hk2 b o (Nat.ne_of_lt hb) (hw'.2 b o hb e)⟩ fun h3 tk3 hw3=>hR h3 tk3 hw3⟩;refine W.frame _ h' h2 hst' fun b hb o e=>hk2 b o (fun z=>?_) e;simp only[List.mem_cons,List.not_mem_nil,or_false] at hb;rcases hb with rfl|rfl
  ·exact Nat.lt_irrefl _ (z ▸ hSI)
  ·exact Nat.lt_irrefl _ (z ▸ hlS)
end
section
variable{prog:Program}{w:World}{K:Type}[DecidableEq K]{knd:KeyKind prog w K}{A:Around}{E:Value->Shared->Prop}{s:Shared}
abbrev Zf9(w:World):Bool := !w.params.followText "set-order"
abbrev ZaF(w:World):Obj:={ cls:=.type "set",dict:=none,data:=.set #[] 0 (.fresh 0 0 (Zf9 w)) }
theorem Zit(a:Value){Q₁ : Value->Shared->Prop}(h:Q₁ (.ref s.heap.objs.size) { s with heap:=s.heap.push (ZaF w) }) :
  codeAny (model prog w) A (.call (.builtin "set.__new__") ⟨[.type "set",a],[]⟩) (wants Q₁ E) s:=by
 refine codeAny_of_tree ?_;change wpAny _ A.in1 (do checkBuiltinCall "set.__new__" ⟨[.type "set",a],[]⟩;again (.builtin "set.__new__" ⟨[.type "set",a],[]⟩)) _ _ s;refine wpAny_bind (wpAny_of_eq (PySem.F.newCall_set_1 a) (wpAny_pure ⟨plainId_quiet PySem.F.plain_set_new _,codeAny_builtin PySem.F.entry_set_new ?_⟩));rw[Around.under_plainId PySem.F.plain_set_new _];unfold Builtin.«set.__new__» Builtin.Frozenset.newClass;have isSelf:=sub_set_self;obtain⟨hp,g,d,tk,os⟩:=s;dsimp only
 wp_walk
 refine wpAny_askSetting (wpAny_pure ?_);dsimp only;simp only[newObj];exact wpAny_bind (wpAny_alloc (wpAny_pure (wpAny_pure h)))
set_option maxRecDepth 100000 in
set_option maxHeartbeats 3200000 in
theorem ZdW{m:Bool}{l:Addr}{items:Array Value}{Q:Value->Shared->Prop}(hh:A.handled=none)(hu:A.units+100<cLine)(hl:s.heap.IsList l items)(ht:∀v∈items.toList,EV knd m s.heap v)(hn:items.size<=900)
  (q:∀(h':Heap)(tk:Nat),Zdg knd m h' s.heap.objs.size (· ∈ items.toList) items.size (Zf9 w)->(∀b o,b<s.heap.objs.size->s.heap.get? b=some o->h'.get? b=some o)->Q (.ref s.heap.objs.size) { s with heap:=h',toks:=tk }) :
  wpAny (model prog w) A (call (.type "set") [.ref l]) Q E s:=by
 obtain⟨c,tl,hmro⟩:=PySem.F.called_set.mro;have hmade:=PySem.F.called_set.made;have hsub:=PySem.F.called_set.sub;have htu:Zkv knd m s.heap s.heap.objs.size items:=fun v hv h hk=>by
  have hv':=ht v hv;cases m with
  | true=>exact hv'
  | false =>
   obtain⟨ks,b,e,o,its,n,h1,r⟩:=hv';exact⟨ks,b,e,o,its,n,hk b o (Heap.lt_size h1) h1,r⟩
 refine wpAny_call (codeAny_of_tree ?_);change wpAny _ _ (callAny (.type "set") _) _ _ _;refine wpAny_pure ⟨Code.quiet_builtin _ (by decide +kernel),codeAny_builtin PySem.F.entry_type_call ?_⟩;rw[Around.under_plain (weight_type_call_type "set" [.ref l] []) rfl];have noType:=PySem.F.called_set.notType;have canMake:=PySem.F.called_set.canCreate;have ctOk:=PySem.F.typeCall_set_1 (.ref l)
 repeat (any_goals (first|assumption|wp_step))
 refine codeAny_mono (Zit (.ref l) (E:=E) (Q₁ := fun obj s₁=>obj=.ref s.heap.objs.size/\s₁ = { s with heap:=s.heap.push (ZaF w) }) ⟨rfl,rfl⟩) fun r s₁ hr=>?_;cases r with
 | error e=>exact hr
 | ok fl =>
  cases fl with
  | ret obj =>
   obtain⟨rfl,rfl⟩:=hr;have hS:(s.heap.push (ZaF w)).get? s.heap.objs.size=some (ZaF w):=Heap.get?_push_size _ rfl;have hT:Shared.TypeIs { s with heap:=s.heap.push (ZaF w) } (.ref s.heap.objs.size) "set" := ⟨_,hS,rfl⟩;have hli:=PySem.F.called_set.init.lookup;have hbi:=PySem.F.called_set.init.bind (.ref s.heap.objs.size)
   repeat (any_goals (first|assumption|wp_step))
   refine codeAny_mono (codeAny_call_builtin (R:=wants (fun r s₂=>r=.none/\∃h' tk,s₂ = { s with heap:=h',toks:=tk }/\Way knd m s.heap s.heap.objs.size items (Zf9 w) items.size h') E) PySem.F.called_set.init.plain PySem.F.entry_set_init (check_set_init_1 hT ?_)) fun r₂ s₂ hr₂=>?_
   ·obtain⟨ol,hol,hcl,nl,hdl⟩:=hl;obtain⟨ocls,odict,odata,oslots⟩:=ol;simp only at hcl hdl;subst hcl;subst hdl;have hol2:(s.heap.push (ZaF w)).get? l=some { cls:=.type "list",dict:=odict,data:=.seq items nl,slots:=oslots }:=Heap.get?_push_of_some _ hol;have hsls:=PySem.F.sub_list_set;have hslf:=PySem.F.sub_list_frozenset;have hne:(Value.type "list" == Value.type "dict")=false:=by decide
    have hl1:(s.heap.push (ZaF w)).IsList l items:=⟨_,hol2,rfl,nl,rfl⟩;unfold Builtin.«set.__init__» noKeywords Builtin.Frozenset.updateFrom;generalize hPI:pyIter=PI
    wp_walk
    subst hPI;refine wpAny_pyIter_list hl1 (wpAny_bind (wpAny_runValue ?_));have hlS:l<s.heap.objs.size:=Heap.lt_size hol;have hsz:(s.heap.push (ZaF w)).objs.size=s.heap.objs.size+1:=Heap.size_push ..;have hS0:((s.heap.push (ZaF w)).push { cls:=.type "list_iterator",data:=.fields #[.ref l,.int 0 0] }).get? s.heap.objs.size=some (ZaF w):=Heap.get?_push_of_some _ hS;refine Ziy (knd:=knd) (h0:=s.heap) (led:=Zf9 w) (by simp[hh]) (by simp only[Around.in1_units];lia) htu (by rw[hsz];exact Nat.lt_succ_self _) (by rw[hsz];exact Nat.ne_of_lt (Nat.lt_succ_of_lt hlS)) hn (items.size-0) 0 _ rfl (Nat.zero_le _)
     ⟨⟨_,Heap.get?_push_size _ rfl,rfl,rfl⟩,hl1.push _⟩ hlS ⟨⟨_,#[],0,_,hS0,⟨rfl,rfl,rfl⟩,rfl,(fun _ h=>(nomatch h)),⟨rfl,rfl,.inl rfl,(by show(0:Nat)*5<7*3;decide),List.Pairwise.nil⟩,Nat.le_refl _,rfl,(fun _ h=>(nomatch h))⟩,fun b o hb e=>Heap.get?_push_of_some _ (Heap.get?_push_of_some _ e)⟩ fun h' tk hw=>?_
    change wpAny _ _ _ _ _ _;refine wpAny_pure ?_;change wpAny _ _ (ret Value.none) _ _ _;exact wpAny_pure ⟨rfl,h',tk,rfl,hw⟩
   ·cases r₂ with
    | error e=>exact hr₂
    | ok fl₂ =>
     cases fl₂ with
     | ret r =>
      obtain⟨rfl,h',tk,rfl,hw⟩:=hr₂
      repeat (any_goals (first|assumption|wp_step))
      exact q _ _ hw.1 hw.2
     | _=>exact hr₂.elim
  | _=>exact hr.elim
end
theorem Zaf:Slot "set_iterator" "__next__" "set_iterator.__next__" :=
 .of (owner := "set_iterator") (n := "__next__") (by rw[typeLookup_type,builtinLookup_eq_fast];kernel_rfl) (by decide +kernel) (by decide +kernel) (by decide +kernel) (by first|exact .inl (by decide +kernel)|exact .inr (by decide +kernel)) (by rw[isSubtype_type];kernel_rfl)
theorem ZbV:entryFor table "set_iterator.__next__" = some Builtin.«set_iterator.__next__» := entryFor_of_tree (by kernel_rfl)
theorem ZfP:Manifest.owners.lookup (String.ofList ['r','o','t','a','r','e','t','i','_','t','e','s'].reverse)=some Manifest.sig_set_iterator:=by kernel_rfl
theorem Zcj(a:Value):argsOk "set_iterator.__next__" ⟨[a],[]⟩:=by
 unfold argsOk;rw[signature?_of (id := "set_iterator.__next__") (n:=['_','_','t','x','e','n','_','_']) (o:=['r','o','t','a','r','e','t','i','_','t','e','s']) (by kernel_rfl) ZfP];kernel_rfl
theorem Zcm:Slot "set_iterator" "__iter__" "set_iterator.__iter__" :=
 .of (owner := "set_iterator") (n := "__iter__") (by rw[typeLookup_type,builtinLookup_eq_fast];kernel_rfl) (by decide +kernel) (by decide +kernel) (by decide +kernel) (by first|exact .inl (by decide +kernel)|exact .inr (by decide +kernel)) (by rw[isSubtype_type];kernel_rfl)
theorem ZdK:entryFor table "set_iterator.__iter__" = some Builtin.«dict_keyiterator.__iter__» := entryFor_alias (id' := "dict_keyiterator.__iter__") (by kernel_rfl) rfl (by decide +kernel) (by kernel_rfl)
theorem ZeD(a:Value):argsOk "set_iterator.__iter__" ⟨[a],[]⟩:=by
 unfold argsOk;rw[signature?_of (id := "set_iterator.__iter__") (n:=['_','_','r','e','t','i','_','_']) (o:=['r','o','t','a','r','e','t','i','_','t','e','s']) (by kernel_rfl) ZfP];kernel_rfl
theorem Zeg:entryFor table "set.__iter__" = some Builtin.«frozenset.__iter__» := entryFor_alias (id' := "frozenset.__iter__") (by kernel_rfl) rfl (by decide +kernel) (by kernel_rfl)
theorem Zb7{α : Type}:∀{l:List α}{i:Nat}(hi:i<l.length),(l[i]::l.eraseIdx i).Perm l
 | x::l,0,_=>List.Perm.refl _
 | x::l,i+1,hi=>by
  have hi':i<l.length:=by simpa using hi
  show(l[i]::x::l.eraseIdx i).Perm (x::l);exact(List.Perm.swap ..).trans ((Zb7 hi').cons x)
section
variable{prog:Program}{w:World}{A:Around}{E:Value->Shared->Prop}{s:Shared}
theorem wp_choose{src:Source}{n:Nat}{Q:Nat->Shared->Prop}(hn:n≠0)(h:∀i d,i<n->Q i { s with drawn:=d }):wpAny (model prog w) A (choose src n) Q E s:=fun _ _ _=>⟨hn,h _ _ (Nat.mod_lt _ (Nat.pos_of_ne_zero hn))⟩
theorem Zhe{α : Type}:∀(n:Nat)(xs:List α)(s:Shared){Q:List α -> Shared->Prop},xs.length=n->(∀ys d,ys.Perm xs->Q ys { s with drawn:=d })->wpAny (model prog w) A (drawOrder n xs) Q E s
 | 0,xs,s,Q,hl,h=>by
  obtain rfl:=List.eq_nil_of_length_eq_zero hl;unfold drawOrder;exact wpAny_pure (h [] s.drawn (List.Perm.refl _))
 | n+1,[],s,Q,hl,h=>by simp at hl
 | n+1,x::xs,s,Q,hl,h=>by
  unfold drawOrder;refine wpAny_bind (wp_choose (by simp) fun i d hi=>?_);rw[List.getElem?_eq_getElem hi];dsimp only;refine wpAny_bind (Zhe n ((x::xs).eraseIdx i) { s with drawn:=d } (by rw[List.length_eraseIdx_of_lt hi,hl];rfl) fun ys d' hp=>wpAny_pure (h _ d' ?_));refine(hp.cons _).trans ?_;exact(Zb7 hi)
theorem Zez{α : Type}(next:Nat->Nat):∀(n k:Nat)(left:List α)(out:Array α),left.length=n->(pickOrder.go next n k left out).toList.Perm (out.toList++left)
 | 0,k,left,out,hl=>by
  obtain rfl:=List.eq_nil_of_length_eq_zero hl;unfold pickOrder.go;rw[List.append_nil]
 | n+1,k,left,out,hl=>by
  unfold pickOrder.go;have hi:next k % left.length<left.length:=Nat.mod_lt _ (by lia)
  rw[List.getElem?_eq_getElem hi];dsimp only;refine(Zez next n (k+1) _ _ (by rw[List.length_eraseIdx_of_lt hi,hl];rfl)).trans ?_
  rw[Array.toList_push,List.append_assoc];exact List.Perm.append_left _ (Zb7 hi)
structure SIt(w:World)(h:Heap)(I S T:Addr)(es:Array (Int×Value))(ep:Nat)(t:SetTable)(ys:List Value)(i:Nat):Prop where
  set:∃o,h.get? S=some o/\o.data=.set es ep t
  tab:t.fits es.size=true
  at_:∃first o,h.get? I=some o/\o.cls=.type "set_iterator" /\ o.data=.fields #[first,.int i 0,.ref S,.int es.size 0,.int ep 0] /\
    ((∃sl:Nat,first=Value.int sl 0/\w.params.followText "set-order" = true/\ys=(pickOrder (w.params.setOrder S ep) es).toList.map (·.2)) \/
     (∃sl:Nat,first=Value.int sl 0/\w.params.followText "set-order" = false/\(!t.plain&&decide (es.size > 1))=false/\t.led=true/\SetTable.below t.place sl=i/\Ris t.place/\ys=es.toList.map (·.2)) \/
     (∃places n oT,first=Value.ref T/\h.get? T=some oT/\oT.data=.seq places n/\places.toList.length=es.size/\∀(k:Nat)(v:Value),places[k]?= some v->∃(j:Nat)(tk:Tok),v=Value.int (j:Nat) tk/\(es[j]?).map (·.2)=ys[k]? /\ j<es.size))
theorem SIt.ty{h:Heap}{I S T:Addr}{es:Array (Int×Value)}{ep:Nat}{t:SetTable}{ys:List Value}{i:Nat}{s:Shared}(x:SIt w s.heap I S T es ep t ys i):s.TypeIs (.ref I) "set_iterator" := let ⟨_,o,ho,hc,_⟩:=x.at_;⟨o,ho,hc⟩
theorem ZeW{S:Addr}{o:Obj}{es:Array (Int×Value)}{ep:Nat}{t:SetTable}{Q:Array (Int×Value)->Shared->Prop}(ho:s.heap.get? S=some o)(hd:o.data=.set es ep t)(hf:t.fits es.size=true)(h:Q es s):wpAny (model prog w) A (setEntries S) Q E s:=by
 unfold setEntries;exact wpAny_bind (wpAny_setState_of ho hd hf (wpAny_pure h))
theorem byText{Q:Bool->Shared->Prop}(h:Q (w.params.followText "set-order") s):wpAny (model prog w) A setsByText Q E s:=by
 unfold setsByText;exact wpAny_bind (wpAny_askSetting (wpAny_pure h))
theorem fld{I:Addr}{o:Obj}{fs:Array Value}{k:Nat}{v:Value}{Q:Unit->Shared->Prop}(ho:s.heap.get? I=some o)(hd:o.data=.fields fs)(hk:k<fs.size)(hc:o.cls=.type "set_iterator")
  (h:∀h' o',h'.get? I=some o'->o'.cls=.type "set_iterator" -> o'.data=.fields (fs.setIfInBounds k v)->Heap.SameBut I s.heap h'->Q () { s with heap:=h' }):wpAny (model prog w) A (setField (.ref I) k v) Q E s :=
 wpAny_setField ho hd hk (h _ _ (Heap.get?_update_self _ ho (Obj.isFreed_of_fields (Obj.data_mapFields hd _))) ((Obj.cls_mapFields ..).trans hc) (Obj.data_mapFields hd _) (Heap.SameBut.update ..))
theorem Zer{S:Addr}{o:Obj}{es:Array (Int×Value)}{ep:Nat}{t:SetTable}{sl i:Nat}{Q:Option (Value×Nat)->Shared->Prop}(hT:w.params.followText "set-order" = true) (ho:s.heap.get? S=some o) (hd:o.data=.set es ep t) (hf:t.fits es.size=true)
  (h:Q (((pickOrder (w.params.setOrder S ep) es)[i]?).map fun e=>(e.2,sl)) s):wpAny (model prog w) A (setNext S sl i ep) Q E s:=by
 unfold setNext;refine wpAny_bind (wpAny_setState_of ho hd hf ?_);dsimp only;refine wpAny_bind (byText ?_);rw[hT,if_pos rfl,if_neg (by simp)];unfold setWalk;refine wpAny_bind (wpAny_bind (wpAny_setState_of ho hd hf ?_));dsimp only;refine wpAny_bind (byText ?_);rw[hT,if_pos rfl];exact wpAny_bind (wpAny_askSetting (wpAny_pure (wpAny_pure h)))
theorem ZeE{S:Addr}{o:Obj}{es:Array (Int×Value)}{ep:Nat}{t:SetTable}{sl i:Nat}{Q:Option (Value×Nat)->Shared->Prop}(hT:w.params.followText "set-order" = false) (hp:(!t.plain&&decide (es.size > 1))=false) (hl:t.led=true) (ho:s.heap.get? S=some o) (hd:o.data=.set es ep t) (hf:t.fits es.size=true)
  (h:Q (match es[SetTable.below t.place sl]?,t.place[SetTable.below t.place sl]? with|some (_,x),some j=>some (x,j+1)|_,_=>none) s):wpAny (model prog w) A (setNext S sl i ep) Q E s:=by
 unfold setNext;refine wpAny_bind (wpAny_setState_of ho hd hf ?_);dsimp only;refine wpAny_bind (byText ?_);rw[hT,if_neg (by decide)];change wpAny _ _ (if(!t.plain&&decide (es.size > 1))=true then _ else _) _ _ _
 rw[hp,if_neg (by decide)];refine wpAny_bind ?_;change wpAny _ _ (if(!t.led && !es.isEmpty)=true then _ else _) _ _ _
 rw[hl,if_neg (by simp)];exact wpAny_pure (wpAny_pure h)
set_option maxHeartbeats 1000000 in
theorem Zjt{I S T:Addr}{es:Array (Int×Value)}{ep:Nat}{t:SetTable}{ys:List Value}{i:Nat}{Q:Option Value->Shared->Prop}(x:SIt w s.heap I S T es ep t ys i)(hy:ys.length=es.size)(hi:i<ys.length)
  (q:∀h',SIt w h' I S T es ep t ys (i+1)->Heap.SameBut I s.heap h'->Q (some ys[i]) { s with heap:=h' }):wpAny (model prog w) A (pyNext (.ref I)) Q E s:=by
 have hT:=x.ty (h:=s.heap);obtain⟨⟨oS,hoS,hdS⟩,hf,first,o,ho,hc,hd,hmode⟩:=id x
 have hIS:S≠I:=fun z=>by
  rw[z,ho] at hoS;cases hoS;rw[hd] at hdS;cases hdS
 unfold pyNext;refine wpAny_bind (wpAny_attempt (wpAny_callSpecial?_slot (name:=Str.ofString "__next__") hT Zaf (wpAny_call_entry Zaf hT ZbV ?_ (Zcj _))));unfold Builtin.«set_iterator.__next__»;refine wpAny_bind (wpAny_pure (wpAny_bind (wpAny_fieldsOf ho hd ?_)));dsimp only;refine wpAny_bind (ZeW hoS hdS hf ?_);rw[if_neg (by simp)];have key:∀nx:Nat,(∀h',(∃o',h'.get? I=some o'/\o'.cls=.type "set_iterator" /\ o'.data=.fields #[Value.int nx 0,.int (i+1:Nat) 0,.ref S,.int es.size 0,.int ep 0])->Heap.SameBut I s.heap h'->SIt w h' I S T es ep t ys (i+1)) ->
   wpAny (model prog w) A.in1 (do
     setField (Value.ref I) 0 (rawInt nx)
     setField (Value.ref I) 1 (rawInt ((i:Int)+1))
     ret ys[i]) (fun fin s'=>∃v,fin=Fin.done (Flow.ret v)/\wpAny (model prog w) A (pure (some v)) Q E s')
    (fun e s'=>wpAny (model prog w) A (do
     let __do_lift <- isInstance e (Value.type "StopIteration")
     if __do_lift=true then pure none else throw e) Q E s') s:=fun nx hS=>by
  refine wpAny_bind (fld ho hd (by simp) hc fun h1 o1 ho1 hc1 hd1 sb1=>wpAny_bind (fld (s:={ s with heap:=h1 }) ho1 hd1 (by simp) hc1 fun h2 o2 ho2 hc2 hd2 sb2=>wpAny_pure ⟨_,rfl,wpAny_pure (q h2 (hS h2 ⟨o2,ho2,hc2,?_⟩ (sb1.trans sb2)) (sb1.trans sb2))⟩));rw[hd2];rfl
 have hSk:∀h',Heap.SameBut I s.heap h'->∃o,h'.get? S=some o/\o.data=.set es ep t:=fun h' sb=>⟨oS,(sb.2 S hIS).trans hoS,hdS⟩;have hplace:t.place.size=es.size:=by
  unfold SetTable.fits at hf;rw[Bool.and_eq_true] at hf;exact eq_of_beq hf.1
 rcases hmode with⟨sl,rfl,hT1,e⟩|⟨sl,rfl,hT1,hpl,hld,hbl,hr,e⟩|⟨places,n,oT,rfl,hoT,hdT,hpn,hpv⟩
 ·dsimp only;rw[Int.toNat_natCast,Int.toNat_natCast,Int.toNat_natCast];refine wpAny_bind (Zer hT1 hoS hdS hf ?_);have hpi:((pickOrder (w.params.setOrder S ep) es)[i]?).map (fun e=>(e.2,sl))=some (ys[i],sl):=by
   have h1:((pickOrder (w.params.setOrder S ep) es).toList.map (·.2))[i]?= some ys[i]:=by rw[<- e];exact List.getElem?_eq_getElem hi
   rw[List.getElem?_map,Array.getElem?_toList] at h1;obtain⟨x,hx,hx2⟩:=Option.map_eq_some_iff.mp h1;rw[hx];show some (x.2,sl)=_;rw[hx2]
  rw[hpi];dsimp only;exact key sl fun h' ⟨o',a1,a2,a3⟩ sb=>⟨hSk h' sb,hf,_,o',a1,a2,a3,.inl ⟨sl,rfl,hT1,e⟩⟩
 ·dsimp only;rw[Int.toNat_natCast,Int.toNat_natCast,Int.toNat_natCast];refine wpAny_bind (ZeE hT1 hpl hld hoS hdS hf ?_);have hie:i<es.size:=by lia
  rw[hbl,Array.getElem?_eq_getElem hie,Array.getElem?_eq_getElem (show i<t.place.size by lia)];have hyi:ys[i]=es[i].2:=by
   have h1:ys[i]?= some es[i].2:=by rw[e,List.getElem?_map,Array.getElem?_toList,Array.getElem?_eq_getElem hie];rfl
   rw[List.getElem?_eq_getElem hi] at h1;exact Option.some.inj h1
  dsimp only;rw[<- hyi];exact key (t.place[i]+1) fun h' ⟨o',a1,a2,a3⟩ sb=>⟨hSk h' sb,hf,_,o',a1,a2,a3,.inr (.inl ⟨_,rfl,hT1,hpl,hld,Zgr hr _,hr,e⟩)⟩
 ·dsimp only;refine wpAny_bind (wpAny_seqItems hoT hdT ?_);dsimp only;rw[Int.toNat_natCast,Int.toNat_natCast];have hpi:i<places.size:=by rw[<- Array.length_toList];lia
  obtain⟨j,tk,hv,hj,hjs⟩:=hpv i _ (Array.getElem?_eq_getElem hpi);rw[Array.getElem?_eq_getElem hpi,hv];dsimp only;rw[Int.toNat_natCast];rw[List.getElem?_eq_getElem hi,Array.getElem?_eq_getElem hjs] at hj;have hyi:es[j].2=ys[i]:=Option.some.inj hj;unfold setNextDrawn;refine wpAny_bind (wpAny_bind (wpAny_setState_of hoS hdS hf ?_));dsimp only;rw[if_neg (by simp),Array.getElem?_eq_getElem hjs];refine wpAny_pure ?_;rw[show(es.toList.get ⟨j,hjs⟩).snd=ys[i] from hyi];have hTI:T≠I:=fun z=>by
   rw[z,ho] at hoT;cases hoT;rw[hd] at hdT;cases hdT
  refine wpAny_bind (fld ho hd (by simp) hc fun h2 o2 ho2 hc2 hd2 sb2=>wpAny_pure ⟨_,rfl,wpAny_pure (q h2 ⟨hSk h2 sb2,hf,_,o2,ho2,hc2,?_,.inr (.inr ⟨places,n,oT,rfl,(sb2.2 T hTI).trans hoT,hdT,hpn,hpv⟩)⟩ sb2)⟩);rw[hd2];rfl
theorem Zfi{I:Addr}{o:Obj}{fs:Array Value}{Q:Option Value->Shared->Prop}(hh:A.handled=none)(ho:s.heap.get? I=some o)(hd:o.data=.fields fs)(hk:2<fs.size)(hc:o.cls=.type "set_iterator") (q:∀h',Heap.ExtBut I s.heap h'->Q none { s with heap:=h' }) :
  wpAny (model prog w) A.in1 (do
    setField (Value.ref I) 2 Value.none
    let __do_lift <- newExc (Value.type "StopIteration") []
    raiseNew __do_lift) (fun fin s'=>∃v,fin=Fin.done (Flow.ret v)/\wpAny (model prog w) A (pure (some v)) Q E s')
   (fun e s'=>wpAny (model prog w) A (do
    let __do_lift <- isInstance e (Value.type "StopIteration")
    if __do_lift=true then pure none else throw e) Q E s') s:=by
 refine wpAny_bind (fld ho hd hk hc fun h1 o1 ho1 hc1 hd1 sb1=>?_);refine wpAny_bind ?_;simp only[newExc,newTuple];refine wpAny_bind (wpAny_newObj_type (wpAny_bind (m:=firstArgMember _ _) (wpAny_of_eq (a:=Value.none) (by first|rfl|(simp only[firstArgMember];rfl)) (wpAny_newObj_type ?_ (by size_fits)))) (by size_fits))
 simp only[raiseNew];refine wpAny_bind (wpAny_handled ?_);rw[show A.in1.handled=none from hh];refine wpAny_bind (wpAny_pure (wpAny_throw ?_));refine wpAny_bind (wpAny_isInstance (T := "StopIteration") (b:=true) (v:=.ref _) (by exact⟨_,Heap.get?_push_size _ rfl,rfl⟩) isSubtype_stop ?_);exact wpAny_pure (q _ ((sb1.extBut.push _).push _))
set_option maxHeartbeats 1000000 in
theorem ZkC{I S T:Addr}{es:Array (Int×Value)}{ep:Nat}{t:SetTable}{ys:List Value}{Q:Option Value->Shared->Prop}(hh:A.handled=none)(x:SIt w s.heap I S T es ep t ys ys.length)(hy:ys.length=es.size)
  (q:∀h',Heap.ExtBut I s.heap h'->Q none { s with heap:=h' }):wpAny (model prog w) A (pyNext (.ref I)) Q E s:=by
 have hT:=x.ty (h:=s.heap);obtain⟨⟨oS,hoS,hdS⟩,hf,first,o,ho,hc,hd,hmode⟩:=id x
 unfold pyNext;refine wpAny_bind (wpAny_attempt (wpAny_callSpecial?_slot (name:=Str.ofString "__next__") hT Zaf (wpAny_call_entry Zaf hT ZbV ?_ (Zcj _))));unfold Builtin.«set_iterator.__next__»;refine wpAny_bind (wpAny_pure (wpAny_bind (wpAny_fieldsOf ho hd ?_)));dsimp only;refine wpAny_bind (ZeW hoS hdS hf ?_);rw[if_neg (by simp)];rcases hmode with⟨sl,rfl,hT1,e⟩|⟨sl,rfl,hT1,hpl,hld,hbl,hr,e⟩|⟨places,n,oT,rfl,hoT,hdT,hpn,hpv⟩
 ·dsimp only;rw[Int.toNat_natCast,Int.toNat_natCast,Int.toNat_natCast];refine wpAny_bind (Zer hT1 hoS hdS hf ?_);have hpi:(pickOrder (w.params.setOrder S ep) es)[ys.length]?= none:=by
   have h1:ys.length=(pickOrder (w.params.setOrder S ep) es).size:=by
    rw[e,List.length_map,Array.length_toList]
   exact Array.getElem?_eq_none (Nat.le_of_eq h1.symm)
  rw[hpi];exact Zfi hh ho hd (by simp) hc q
 ·dsimp only;rw[Int.toNat_natCast,Int.toNat_natCast,Int.toNat_natCast];refine wpAny_bind (ZeE hT1 hpl hld hoS hdS hf ?_);rw[hbl,Array.getElem?_eq_none (show es.size<=ys.length by lia)];exact Zfi hh ho hd (by simp) hc q
 ·dsimp only;refine wpAny_bind (wpAny_seqItems hoT hdT ?_);dsimp only;rw[Int.toNat_natCast];have hpi:places.size<=ys.length:=by rw[<- Array.length_toList];lia
  rw[Array.getElem?_eq_none hpi];dsimp only;refine wpAny_bind (fld ho hd (by simp) hc fun h1 o1 ho1 hc1 hd1 sb1=>Zfi (s:={ s with heap:=h1 }) hh ho1 hd1 (by simp) hc1 fun h' eb=>q h' fun b o2 hb e2=>eb b o2 hb ((sb1.2 b hb).trans e2))
theorem ZiO{I S T:Addr}{es:Array (Int×Value)}{ep:Nat}{t:SetTable}{ys:List Value}(hh:A.handled=none)(hIS:S≠I)(hTI:T≠I)(hy:ys.length=es.size):Walks prog w A I [I,S,T] [I] ys.length (fun i v=>ys[i]?= some v) (fun i h=>SIt w h I S T es ep t ys i) where
 sub:=fun b hb=>List.mem_cons.mpr (.inl (List.mem_singleton.mp hb))
 frame:=fun i h h' x hk=>by
  obtain⟨⟨oS,hoS,hdS⟩,hf,first,o,ho,hc,hd,hmode⟩:=x
  refine⟨⟨oS,hk S (by simp) oS hoS,hdS⟩,hf,first,o,hk I (by simp) o ho,hc,hd,?_⟩
  rcases hmode with h1|h1|⟨places,n,oT,e,hoT,r⟩
  ·exact .inl h1
  ·exact .inr (.inl h1)
  ·exact .inr (.inr ⟨places,n,oT,e,hk T (by simp) oT hoT,r⟩)
 item:=fun i s Q E hi x hQ=>Zjt x hy hi fun h' x' sb=>hQ _ h' s.toks (List.getElem?_eq_getElem hi) x' fun b o hb e=>(sb.2 b (fun z=>hb (List.mem_singleton.mpr z))).trans e
 done:=fun s Q E x hQ=>ZkC hh x hy fun h' eb=>hQ h' s.toks fun b o hb e=>eb b o (fun z=>hb (List.mem_singleton.mpr z)) e
 self:=fun i s Q E x hQ=>by
  have hT:=x.ty (h:=s.heap);refine wpAny_pyIter_slot hT Zcm (wpAny_call_entry Zcm hT ZdK ?_ (ZeD _));change wpAny _ _ (ret (.ref I)) _ _ s;exact wpAny_pure ⟨_,rfl,"set_iterator",_,hT,Zaf.lookup,hQ⟩
end
section
variable{prog:Program}{w:World}{K:Type}[DecidableEq K]{knd:KeyKind prog w K}{A:Around}{E:Value->Shared->Prop}{s:Shared}
theorem Zjx{S:Addr}{o:Obj}{es:Array (Int×Value)}{ep:Nat}{t:SetTable}{Q:Bool->Shared->Prop}(ho:s.heap.get? S=some o)(hd:o.data=.set es ep t)(hf:t.fits es.size=true)(h:Q (!w.params.followText "set-order" && (!t.plain&&decide (es.size > 1))) s):wpAny (model prog w) A (setDrawn S) Q E s:=by
 unfold setDrawn;refine wpAny_bind (wpAny_setState_of ho hd hf ?_);dsimp only;exact wpAny_bind (byText (wpAny_pure h))
set_option maxHeartbeats 1000000 in
theorem ZkK{m:Bool}{S:Addr}{vs:Value->Prop}{n:Nat}{Q:Value->Shared->Prop}(hS:Zdg knd m s.heap S vs n (Zf9 w))(hn:n<=900)
  (q:∀(I T:Addr)(es:Array (Int×Value))(ep:Nat)(t:SetTable)(ys:List Value)(h':Heap)(d:Drawn),(∀b o,s.heap.get? b=some o->h'.get? b=some o)->SIt w h' I S T es ep t ys 0->ys.length=es.size->S≠I->T≠I->(∀y∈ys,vs y)->es.size<=n->s.heap.objs.size<=I->(T=S\/s.heap.objs.size<=T)->Q (.ref I) { s with heap:=h',drawn:=d }) :
  wpAny (model prog w) A (pyIter (.ref S)) Q E s:=by
 obtain⟨o,es,ep,t,ho,hx,hd,hE,hT,hsz,hled,hvs⟩:=hS;have hty:s.TypeIs (.ref S) "set" := ⟨o,ho,hx.1⟩;have hf:=hT.fits;refine wpAny_pyIter_slot hty PySem.F.slot_set_iter (wpAny_call_entry PySem.F.slot_set_iter hty Zeg ?_ (PySem.F.args_set_iter_1 _));unfold Builtin.«frozenset.__iter__»;refine wpAny_bind ?_;unfold Builtin.Frozenset.slot0;refine wpAny_bind (wpAny_pure ?_);change wpAny _ A.in1 (pure S) _ _ s;refine wpAny_pure (wpAny_bind ?_);unfold Builtin.Frozenset.sizeOf;refine wpAny_bind (ZeW ho hd hf (wpAny_pure (wpAny_bind (Zjx ho hd hf ?_))));have ep_:∀{s1:Shared}{Q1:Nat->Shared->Prop}{E1:Value->Shared->Prop},s1.heap.get? S=some o->Q1 ep s1->wpAny (model prog w) A.in1 (setEpoch S) Q1 E1 s1:=fun ho1 h=>by
  unfold setEpoch;exact wpAny_bind (wpAny_setState_of ho1 hd hf (wpAny_pure h))
 cases hdr:(!w.params.followText "set-order" && (!t.plain&&decide (es.size > 1))) with
 | true =>
  rw[if_pos rfl];have hf0:w.params.followText "set-order" = false:=by
   cases hc:w.params.followText "set-order" with
   | false=>rfl
   | true=>rw[hc] at hdr;cases hdr
  refine wpAny_bind (Zhe es.size (List.range es.size) s List.length_range fun perm d hp=>?_);have hpl:perm.length=es.size:=by rw[hp.length_eq,List.length_range]
  refine wpAny_bind (wpAny_newTuple ?_ (by rw[List.length_map,hpl,sizeLine_eq];lia));dsimp only;refine wpAny_bind (ep_ (Heap.get?_push_of_some _ ho) ?_);unfold newFields;refine wpAny_bind (wpAny_newObj_type (wpAny_pure ⟨_,rfl,"set_iterator",_,⟨_,Heap.get?_push_size _ rfl,rfl⟩,Zaf.lookup,?_⟩));have hsz1:(s.heap.push { cls:=.type "tuple",data:=.seq (perm.map fun(i:Nat)=>rawInt (i:Int)).toArray }).objs.size=s.heap.objs.size+1:=Heap.size_push ..;refine q _ s.heap.objs.size es ep t (perm.map fun j=>(es.getD j (0,.none)).2) _ d (fun b o e=>Heap.get?_push_of_some _ (Heap.get?_push_of_some _ e)) ⟨⟨o,Heap.get?_push_of_some _ (Heap.get?_push_of_some _ ho),hd⟩,hf,_,_,Heap.get?_push_size _ rfl,rfl,rfl,.inr (.inr ⟨_,_,_,rfl,Heap.get?_push_of_some _ (Heap.get?_push_size _ rfl),rfl,?_,fun k v hk=>?_⟩)⟩ (by rw[List.length_map,hpl]) ?_ ?_ (fun y hy=>?_) hsz ?_ (.inr (Nat.le_refl _))
  ·rw[List.length_map,hpl]
  ·have hk':(perm.map fun(i:Nat)=>rawInt (i:Int))[k]?= some v:=by rw[<- hk];simp
   rw[List.getElem?_map] at hk';obtain⟨j,hj,rfl⟩:=Option.map_eq_some_iff.mp hk';have hjs:j<es.size:=List.mem_range.mp (hp.mem_iff.mp (List.mem_of_getElem? hj));refine⟨j,0,rfl,?_,hjs⟩;rw[List.getElem?_map,hj,Array.getElem?_eq_getElem hjs];simp[Array.getD,hjs]
  ·rw[hsz1];exact Nat.ne_of_lt (Nat.lt_succ_of_lt (Heap.lt_size ho))
  ·rw[hsz1];exact Nat.ne_of_lt (Nat.lt_succ_self _)
  ·obtain⟨j,hj,rfl⟩:=List.mem_map.mp hy;have hjs:j<es.size:=List.mem_range.mp (hp.mem_iff.mp hj);have:es.getD j (0,.none)=es[j]:=by simp[Array.getD,hjs]
   rw[this];exact hvs _ (Array.getElem_mem_toList hjs)
  ·rw[hsz1];exact Nat.le_succ _
 | false =>
  rw[if_neg (by decide)];refine wpAny_bind (wpAny_pure ?_);dsimp only;refine wpAny_bind (ep_ ho ?_);unfold newFields;refine wpAny_bind (wpAny_newObj_type (wpAny_pure ⟨_,rfl,"set_iterator",_,⟨_,Heap.get?_push_size _ rfl,rfl⟩,Zaf.lookup,?_⟩));have nI:S≠s.heap.objs.size:=Nat.ne_of_lt (Heap.lt_size ho);cases hft:w.params.followText "set-order" with
  | true =>
   have hpk:(pickOrder (w.params.setOrder S ep) es).toList.Perm es.toList:=by
    have:=Zez (w.params.setOrder S ep) es.size 0 es.toList #[] (Array.length_toList)
    simpa[pickOrder] using this
   refine q _ S es ep t ((pickOrder (w.params.setOrder S ep) es).toList.map (·.2)) _ s.drawn (fun b o e=>Heap.get?_push_of_some _ e) ⟨⟨o,Heap.get?_push_of_some _ ho,hd⟩,hf,_,_,Heap.get?_push_size _ rfl,rfl,rfl,.inl ⟨0,rfl,hft,rfl⟩⟩ (by rw[List.length_map,hpk.length_eq,Array.length_toList]) nI nI (fun y hy=>?_) hsz (Nat.le_refl _) (.inl rfl);obtain⟨e,he,rfl⟩:=List.mem_map.mp hy;exact hvs e (hpk.mem_iff.mp he)
  | false =>
   rw[hft] at hdr;have hl1:t.led=true:=by rw[hled];show(!w.params.followText "set-order")=true;rw[hft];rfl
   refine q _ S es ep t (es.toList.map (·.2)) _ s.drawn (fun b o e=>Heap.get?_push_of_some _ e) ⟨⟨o,Heap.get?_push_of_some _ ho,hd⟩,hf,_,_,Heap.get?_push_size _ rfl,rfl,rfl,.inr (.inl ⟨0,rfl,hft,hdr,hl1,Zgk hT.ris,hT.ris,rfl⟩)⟩ (by rw[List.length_map,Array.length_toList]) nI nI (fun y hy=>?_) hsz (Nat.le_refl _) (.inl rfl);obtain⟨e,he,rfl⟩:=List.mem_map.mp hy;exact hvs e he
end
end Sts
namespace Sts
open PySem PyProof.Rows PySem.W
section
variable{prog:Program}{w:World}{K:Type}[DecidableEq K]{knd:KeyKind prog w K}{A:Around}{E:Value->Shared->Prop}{s:Shared}
theorem ZiM{r:Addr}{Q:Bool->Shared->Prop}(hT:s.TypeIs (.ref r) "set") (h:Q false s):wpAny (model prog w) A (Builtin.List.listLengthHint (.ref r)) Q E s:=by
 unfold Builtin.List.listLengthHint;refine wpAny_bind (wpAny_specialOf hT PySem.F.slot_set_len.lookup ?_);generalize hid:("set.__len__" : String)=id0
 wp_delta
 rw[show splitId id0=some ("set","__len__") from by subst hid;decide +kernel];subst hid;refine wpAny_bind (wpAny_isInstance (T := "set") (b:=true) hT (by rw[isSubtype_type];kernel_rfl) (wpAny_ite_split (fun hab=>absurd hab (by decide)) (fun _=>wpAny_ite_split (fun _=>?_) (fun hab=>absurd (by decide +kernel) hab))));exact wpAny_bind (wpAny_typeOf hT (wpAny_pure h))
theorem Zdg.keep{m:Bool}{h h':Heap}{S:Addr}{vs:Value->Prop}{n:Nat}{led:Bool}(x:Zdg knd m h S vs n led)(hk:∀b o,h.get? b=some o->h'.get? b=some o):Zdg knd m h' S vs n led:=by
 obtain⟨o,es,ep,t,ho,hx,hd,hE,r⟩:=x;refine⟨o,es,ep,t,hk S o ho,hx,hd,fun e he=>(hE e he).keep hk,r⟩
set_option maxHeartbeats 1000000 in
theorem Zfk{m:Bool}{S:Addr}{vs:Value->Prop}{n:Nat}{Q:List Value->Shared->Prop}(hh:A.handled=none)(hS:Zdg knd m s.heap S vs n (Zf9 w))(hn:n<=900)
  (q:∀(ys:List Value)(h':Heap)(tk:Nat)(d:Drawn),(∀b o,s.heap.get? b=some o->h'.get? b=some o)->ys.length<=n->(∀y∈ys,vs y)->s.heap.objs.size<=h'.objs.size->Q ys { s with heap:=h',toks:=tk,drawn:=d }):wpAny (model prog w) A (collect (.ref S)) Q E s:=by
 unfold collect;refine wpAny_bind (wpAny_runValue (codeAny_builtin entry_proto_collect' ?_));change wpAny _ _ (do again (.builtin "list.__iadd__" ⟨[<- newList [],.ref S],[]⟩)) _ _ s;refine wpAny_bind (wpAny_newList (wpAny_pure ⟨Code.quiet_builtin _ (by decide +kernel),codeAny_builtin entry_list_iadd' ?_⟩));change wpAny _ _ (Builtin.List.listExtendWith (.ref s.heap.objs.size) (.ref S) (.ref s.heap.objs.size)) _ _ { s with heap:=s.heap.push (seqObj "list" #[] 0) };have hS1:=hS.keep (h':=s.heap.push (seqObj "list" #[] 0)) fun b o e=>Heap.get?_push_of_some _ e;obtain⟨oS,_,_,_,hoS,hxS,_⟩:=id hS;have hSlt:=Heap.lt_size hoS;have hL:(s.heap.push (seqObj "list" #[] 0)).get? s.heap.objs.size=some (seqObj "list" #[] 0):=Heap.get?_push_size _ rfl;have hty:Shared.TypeIs { s with heap:=s.heap.push (seqObj "list" #[] 0) } (.ref S) "set" := ⟨oS,Heap.get?_push_of_some _ hoS,hxS.1⟩;unfold Builtin.List.listExtendWith;refine wpAny_bind (wpAny_typeOf (T := "set") hty ?_);have nLS:s.heap.objs.size≠S:=Nat.ne_of_gt hSlt;have h1:Builtin.List.listSameRef (.ref s.heap.objs.size) (.ref S)=false:=by simp[Builtin.List.listSameRef,nLS]
 rw[h1,if_neg (by decide)];refine wpAny_bind (ZkK hS1 hn fun I T es ep t ys h2 d k2 x hy nSI nTI hvs hes hI hTp=>?_);have hIlt:s.heap.objs.size<I:=by
  refine Nat.lt_of_lt_of_le ?_ hI;show s.heap.objs.size<(s.heap.push (seqObj "list" #[] 0)).objs.size;rw[Heap.size_push];exact Nat.lt_succ_self _
 have hL2:=k2 _ _ hL;have nTL:s.heap.objs.size≠T:=by
  rcases hTp with rfl|hTp
  ·exact nLS
  ·refine Nat.ne_of_lt (Nat.lt_of_lt_of_le ?_ hTp);show s.heap.objs.size<(s.heap.push (seqObj "list" #[] 0)).objs.size;rw[Heap.size_push];exact Nat.lt_succ_self _
 have hLf:s.heap.objs.size ∉ [I,S,T]:=by
  simp only[List.mem_cons,List.not_mem_nil,or_false,not_or];exact⟨Nat.ne_of_lt hIlt,nLS,nTL⟩
 have W:=ZiO (prog:=prog) (w:=w) (A:=A.in1) (t:=t) (ep:=ep) hh nSI nTI hy;have keep0:∀b o,s.heap.get? b=some o->h2.get? b=some o:=fun b o e=>k2 b o (Heap.get?_push_of_some _ e);have hb1:∀b o,s.heap.get? b=some o->b≠s.heap.objs.size:=fun b o e=>Nat.ne_of_lt (Heap.lt_size e);have hbI:∀b o,s.heap.get? b=some o->b≠I:=fun b o e=>Nat.ne_of_lt (Nat.lt_trans (Heap.lt_size e) hIlt);have key:∀(h:Heap)(c₁ tk:Nat),SIt w h I S T es ep t ys 0->(∀b o,b≠s.heap.objs.size->h2.get? b=some o->h.get? b=some o)->h.get? s.heap.objs.size=some { cls:=.type "list",data:=.seq #[] c₁ } ->
   codeAny (model prog w) A (.builtin "list.extend.loop" ⟨[.ref s.heap.objs.size,.ref I,.ref s.heap.objs.size],[]⟩) (wants (fun v s'=>wpAny (model prog w) A (match v with
     | Value.ref a=>do
      let o <- load a
      match o.data with
      | .seq xs _=>pure xs.toList
      | _=>unsupported "internal:collect"
     | _=>unsupported "internal:collect") Q E s') E) { s with heap:=h,drawn:=d,toks:=tk }:=by
  intro h c₁ tk hst hk hL3;refine codeAny_extend_loopS W.toS (by rw[sizeLine_eq];lia) s.heap.objs.size hLf _ ys.length 0 _ #[] c₁ rfl (Nat.zero_le _) hst hL3 (ItemsOf.nil _) fun s' acc' c' hm hL4 hacc=>?_;rw[Moved.eq_with hm];refine wpAny_bind (wpAny_load hL4 ?_);refine wpAny_pure ?_;have hacc2:acc'.toList=ys:=by
   refine List.ext_getElem? fun j=>?_;rw[Array.getElem?_toList];cases hj:acc'[j]? with
   | none =>
    have h3:acc'.size<=j:=Array.getElem?_eq_none_iff.mp hj;rw[hacc.1] at h3;rw[List.getElem?_eq_none h3]
   | some v=>rw[hacc.2 j v hj]
  rw[hacc2];refine q ys s'.heap s'.toks d (fun b o e=>hm.heap b o (fun hmem=>?_) (hk b o (hb1 b o e) (keep0 b o e))) (by lia) hvs (Nat.le_of_lt (Heap.lt_size hL4));rcases List.mem_cons.mp hmem with z|z
  ·exact hb1 b o e z
  ·exact hbI b o e (List.mem_singleton.mp z)
 refine wpAny_bind (wpAny_holding (ZiM ⟨oS,k2 S oS (Heap.get?_push_of_some _ hoS),hxS.1⟩ ?_));refine wpAny_ite_split (fun _=>?_) (fun _=>wpAny_pure ⟨plainId_quiet PySem.F.plain_extend_loop _,key h2 0 _ x (fun b o _ e=>e) hL2⟩);refine wpAny_bind (wpAny_rule (wpAny_bind ?_));change wpAny _ _ (updateSeq s.heap.objs.size (·.push .none) >>= fun _=>updateSeq s.heap.objs.size (·.pop)) _ _ _;refine wpAny_bind (wpAny_updateSeq hL2 rfl ?_);have hL3:=Heap.get?_update_self (Obj.mapSeq (·.push Value.none)) hL2 rfl;refine wpAny_updateSeq (hz:=by seq_fits) hL3 rfl ?_;have hL4:=Heap.get?_update_self (Obj.mapSeq (·.pop)) hL3 rfl;have oth:∀b o,b≠s.heap.objs.size->h2.get? b=some o->((h2.update s.heap.objs.size (Obj.mapSeq (·.push Value.none))).update s.heap.objs.size (Obj.mapSeq (·.pop))).get? b=some o:=fun b o hb e=>(Heap.get?_update_other _ _ (Ne.symm hb)).trans ((Heap.get?_update_other _ _ (Ne.symm hb)).trans e);exact wpAny_pure ⟨plainId_quiet PySem.F.plain_extend_loop _,key _ _ _ (W.frame 0 _ _ x fun b hb o e=>oth b o (fun z=>hLf (z ▸ hb)) e) oth hL4⟩
end
end Sts
namespace L2
open PySem PySem.Spec PyProof.Rows PySem.W
section
variable{X:Cx}{e:Expr}{te:TE}{p p' pos pos':Pos}
theorem Inv.draws{pins:List (Addr×Obj)}{σ : St}{H:Hp}{s:Shared}{d:Drawn}(I:Inv X pins σ H s):Inv X pins σ H { s with drawn:=d } :=
 I.step (g':=s.gens) (d':=d) (t':=s.toks) (ch:=[]) (fun _ z=>nomatch z) (fun _ _ _ _ _ e _=>e) (fun _ o _ _ _ e _=>⟨o.slots,e⟩) (fun _ _ _ _ n=>n) (fun _ o _ e=>⟨o,e⟩) (fun _ _ h=>h) (fun _ _ _ h=>h) (fun _ ps h=>⟨#[],by simpa using h⟩) (fun _ h=>h) I.hok I.bare
theorem Zf0{ys:List V}{its:List Value}(r:Vals ys its):∀us:List Value,(∀u∈us,u∈its)->∃zs,Vals zs us/\∀z∈zs,z∈ys
 | [],_=>⟨[],.nil,fun _ h=>nomatch h⟩
 | u::us,h=>by
  obtain⟨y,hy,ry⟩:=Zbs r u (h u (List.mem_cons_self ..));obtain⟨zs,rz,hz⟩:=Zf0 r us fun x hx=>h x (List.mem_cons_of_mem _ hx);refine⟨y::zs,.cons ry rz,fun z hm=>?_⟩;rcases List.mem_cons.mp hm with rfl|hm
  ·exact hy
  ·exact hz z hm
theorem ZkH:bootBuiltins "set" = some (.type "set"):=by decide +kernel
theorem Zdv:bootBuiltins "sorted" = some (.builtin "sorted"):=by decide +kernel
def ZfY(K:PySem.W.Frag)(v:V)(H:Hp)(Q:VK):Prop := ∃l ys,v=.ref l/\SqL K H l ys/\ys.length<=900/\((∀y∈ys,∃t i x j k,y=.ref t/\H t=some (.tup [.int i,.str x,.int j,.int k]))\/∀y∈ys,∃i,y=V.int i)/\∀r zs,H r=none->zs.length<=ys.length->(∀z∈zs,z∈ys)->Q (.ref r) (upd H r (.lst zs))
end
end L2
namespace Srd
open PySem PyProof.Rows Srt
structure Swo(lt:Keyed->Keyed->Bool):Prop where
 asym:∀x y,lt x y=true->lt y x=false
 neg:∀x y z,lt x y=false->lt y z=false->lt x z=false
def Le(lt:Keyed->Keyed->Bool)(x y:Keyed):Prop:=lt y x=false
section
variable{lt:Keyed->Keyed->Bool}(o:Swo lt){x y z:Keyed}
include o
theorem Swo.le_trans(h1:Le lt x y)(h2:Le lt y z):Le lt x z:=o.neg z y x h2 h1
theorem Swo.le_of(h:lt x y=true):Le lt x y:=o.asym x y h
theorem Swo.lt_le(h1:lt x y=true)(h2:Le lt y z):lt x z=true:=by
 cases h:lt x z with
 | true=>rfl
 | false=>rw[o.neg x z y h h2] at h1;cases h1
theorem Swo.le_lt(h1:Le lt x y)(h2:lt y z=true):lt x z=true:=by
 cases h:lt x z with
 | true=>rfl
 | false=>rw[o.neg y x z h1 h] at h2;cases h2
theorem Swo.le_refl(x:Keyed):Le lt x x:=by
 show lt x x=false;cases h:lt x x with
 | false=>rfl
 | true=>have:=o.asym x x h;rw[h] at this;exact this
end
def ZfD(prog:Program)(w:World)(A:Around)(s:Shared)(κ : SortKind)(Ok:Keyed->Prop)(lt:Keyed->Keyed->Bool):Prop :=
 ∀x y,Ok x->Ok y->∀E:Value->Shared->Prop,wpAny (model prog w) A (keyLt' κ x.1 y.1) (fun b s'=>s'=s/\b=lt x y) E s
def Up(lt:Keyed->Keyed->Bool)(arr:Array Keyed)(i j:Nat):Prop := ∀x y p q,i<=x->x<y->y<j->arr[x]?= some p->arr[y]?= some q->Le lt p q
def bv(lt:Keyed->Keyed->Bool)(l:Bool)(key p:Keyed):Bool:=if l=true then lt p key else !lt key p
def BV(lt:Keyed->Keyed->Bool)(l:Bool)(key:Keyed)(a:Array Keyed)(base i:Nat):Bool:=match a[base+i]? with|some p=>bv lt l key p|none=>false
theorem BV.anti{lt:Keyed->Keyed->Bool}(o:Swo lt){l:Bool}{key:Keyed}{a:Array Keyed}{base n:Nat}(hb:base+n<=a.size)(hu:Up lt a base (base+n)){i j:Nat}(hij:i<=j)(hj:j<n)(h:BV lt l key a base j=true):BV lt l key a base i=true:=by
 rcases Nat.eq_or_lt_of_le hij with rfl|hlt
 ·exact h
 have ei:a[base+i]?= some a[base+i]:=getElem?_pos a _ (by lia);have ej:a[base+j]?= some a[base+j]:=getElem?_pos a _ (by lia);have hle:=hu (base+i) (base+j) _ _ (by lia) (by lia) (by lia) ei ej;unfold BV at h ⊢;rw[ej] at h;rw[ei];dsimp only at h ⊢;unfold bv at h ⊢;cases l with
 | true =>
  rw[if_pos rfl] at h ⊢;exact o.le_lt hle h
 | false =>
  rw[if_neg (by decide)] at h ⊢;have h1:lt key a[base+j]=false:=by simpa using h
  have:lt key a[base+i]=false:=o.le_trans (lt:=lt) hle h1;rw[this];rfl
section
variable{prog:Program}{w:World}{A:Around}{E:Value->Shared->Prop}{s:Shared}{κ : SortKind}{Ok:Keyed->Prop}{st:SortSt}{lt:Keyed->Keyed->Bool}
theorem ZcP{x y:Keyed}{Q:Option Bool->SortSt->Prop}(hc:ZfD prog w A s κ Ok lt)(hk:kindOf st= κ)(hx:Ok x)(hy:Ok y)(h:Q (some (lt x y)) st):wpS (model prog w) A E s (lt' x y) Q st:=by
 rw[lt'_eq];refine wpS_bind (wpS_get ?_);rw[hk];refine wpS_bind (wpS_lift (wpAny_attempt (wpAny_mono (hc x y hx hy _) (fun b s' e=>⟨e.1,?_⟩) fun _ _ z=>z)));rw[e.2];exact wpS_pure h
theorem Zmh{l:Bool}{key:Keyed}{a:Array Keyed}{base n i:Nat}{Q:Option Bool->SortSt->Prop}(hc:ZfD prog w A s κ Ok lt)(hk:kindOf st= κ)(hkey:Ok key)(ha:∀p∈a.toList,Ok p)(hb:base+n<=a.size)(hi:i<n)(h:Q (some (BV lt l key a base i)) st) :
  wpS (model prog w) A E s (elem' a (base+i) >>= fun x=>if l=true then lt' x key else(lt' key x >>= fun r=>pure (Option.map (fun z=>!z) r))) Q st:=by
 refine wpS_bind (Zy (by lia) fun p hp e=>?_);unfold BV at h;rw[e] at h;dsimp only at h;unfold bv at h;cases l with
 | true =>
  rw[if_pos rfl] at h ⊢;exact ZcP hc hk (ha p hp) hkey h
 | false =>
  rw[if_neg Bool.false_ne_true] at h ⊢;exact wpS_bind (ZcP hc hk hkey (ha p hp) (wpS_pure h))
set_option maxHeartbeats 1000000 in
theorem Zah{l:Bool}{key:Keyed}{a:Array Keyed}{base n hint:Nat}{Q:Option Nat->SortSt->Prop}(o:Swo lt)(hc:ZfD prog w A s κ Ok lt)(hk:kindOf st= κ)(hkey:Ok key)(ha:∀p∈a.toList,Ok p)(hb:base+n<=a.size)(hh:hint<n)(hu:Up lt a base (base+n))
  (h:∀k,k<=n->(∀i,i<k->BV lt l key a base i=true)->(∀i,k<=i->i<n->BV lt l key a base i=false)->Q (some k) st):wpS (model prog w) A E s (Ze4 l key a base n hint) Q st:=by
 have up:∀{i j},i<=j->j<n->BV lt l key a base j=true->BV lt l key a base i=true:=fun hij hj h=>BV.anti o hb hu hij hj h;have dn:∀{i j},i<=j->j<n->BV lt l key a base i=false->BV lt l key a base j=false:=fun{i j} hij hj h=>by
  cases e:BV lt l key a base j with
  | false=>rfl
  | true=>rw[up hij hj e] at h;cases h
 generalize hBB:BV lt l key a base=BB at up dn h;have bey:∀{st':SortSt}{i:Nat}{Q':Option Bool->SortSt->Prop},st'=st->i<n->Q' (some (BB i)) st'->wpS (model prog w) A E s (elem' a (base+i) >>= fun x=>if l=true then lt' x key else(lt' key x >>= fun r=>pure (Option.map (fun z=>!z) r))) Q' st':=fun{st' i Q'} e hi hq=>by
  subst e;exact Zmh hc hk hkey ha hb hi (by rw[hBB];exact hq)
 refine wpS_bind (bey rfl hh ?_);cases hright:BB hint with
 | true =>
  dsimp only;rw[if_pos rfl];refine wpS_bind (wpS_mono (wpS_forRange (I:=fun x c st'=>st'=st/\∃lo of,c=(none,lo,of)/\lo<n-hint/\lo<of/\BB (hint+lo)=true/\x+1<=of) (Q:=fun c st'=>st'=st/\∃lo of,c=(none,lo,of)/\lo<n-hint/\lo<of/\BB (hint+lo)=true/\(n-hint<=of\/BB (hint+of)=false)) ?_ ?_ ⟨rfl,0,1,rfl,by lia,by lia,hright,by lia⟩) ?_)
  ·rintro i c st' _ _ ⟨rfl,lo,of,rfl,h1,h2,h3,h4⟩;dsimp only;by_cases hlt:of>=n-hint
   ·rw[if_pos hlt];exact wpS_pure ⟨rfl,lo,of,rfl,h1,h2,h3,.inl hlt⟩
   ·rw[if_neg hlt];refine wpS_bind (bey rfl (by lia) ?_);cases hb2:BB (hint+of) with
    | true=>exact wpS_pure ⟨rfl,_,_,rfl,by lia,by lia,hb2,by lia⟩
    | false=>exact wpS_pure ⟨rfl,lo,of,rfl,h1,h2,h3,.inr hb2⟩
  ·rintro c st' ⟨rfl,lo,of,rfl,h1,h2,h3,h4⟩;exact⟨rfl,lo,of,rfl,h1,h2,h3,.inl (by lia)⟩
  ·rintro c st'' ⟨rfl,lo,of,rfl,h1,h2,h3,h4⟩;dsimp only;have g1:hint+lo+1<=hint+min of (n-hint):=by lia
   have g2:hint+min of (n-hint)<=n:=by lia
   have g3:∀i,i<hint+lo+1->BB i=true:=fun i hi=>up (show i<=hint+lo by lia) (by lia) h3;have g4:∀i,hint+min of (n-hint)<=i->i<n->BB i=false:=fun i hi hin=>by
    rcases h4 with h4|h4
    ·lia
    ·exact dn (show hint+of<=i by lia) hin h4
   generalize hint+lo+1=lo1 at g1 g3;generalize hint+min of (n-hint)=hi1 at g1 g2 g4;refine wpS_bind (wpS_mono (wpS_forRange (I:=fun x c st'=>st'=st''/\∃lo hi,c=(none,lo,hi)/\lo<=hi/\hi<=n/\(∀i,i<lo->BB i=true)/\(∀i,hi<=i->i<n->BB i=false)/\hi-lo+x<=n) (Q:=fun c st'=>st'=st''/\∃lo hi,c=(none,lo,hi)/\lo=hi/\hi<=n/\(∀i,i<lo->BB i=true)/\(∀i,hi<=i->i<n->BB i=false)) ?_ ?_ ⟨rfl,lo1,hi1,rfl,g1,g2,g3,g4,by lia⟩) ?_)
   ·rintro i c st' _ _ ⟨rfl,lo,hi,rfl,h1,h2,h3,h4,h5⟩;dsimp only;by_cases hlt:lo>=hi
    ·rw[if_pos hlt];exact wpS_pure ⟨rfl,lo,hi,rfl,by lia,h2,h3,h4⟩
    ·rw[if_neg hlt];refine wpS_bind (bey rfl (by lia) ?_);cases hb2:BB (lo+(hi-lo) / 2) with
     | true=>exact wpS_pure ⟨rfl,_,_,rfl,by lia,by lia,fun i hi'=>up (show i<=lo+(hi-lo) / 2 by lia) (by lia) hb2,h4,by lia⟩
     | false=>exact wpS_pure ⟨rfl,_,_,rfl,by lia,by lia,h3,fun i hi' hin=>dn hi' hin hb2,by lia⟩
   ·rintro c st' ⟨rfl,lo,hi,rfl,h1,h2,h3,h4,h5⟩;exact⟨rfl,lo,hi,rfl,by lia,h2,h3,h4⟩
   ·rintro c st' ⟨rfl,lo,hi,rfl,h1,h2,h3,h4⟩;exact wpS_pure (h hi h2 (fun i hi'=>h3 i (by lia)) h4)
 | false =>
  dsimp only;rw[if_neg Bool.false_ne_true];refine wpS_bind (wpS_mono (wpS_forRange (I:=fun x c st'=>st'=st/\∃lo of,c=(none,lo,of)/\lo<hint+1/\lo<of/\BB (hint-lo)=false/\x+1<=of) (Q:=fun c st'=>st'=st/\∃lo of,c=(none,lo,of)/\lo<hint+1/\lo<of/\BB (hint-lo)=false/\(hint+1<=of\/BB (hint-of)=true)) ?_ ?_ ⟨rfl,0,1,rfl,by lia,by lia,hright,by lia⟩) ?_)
  ·rintro i c st' _ _ ⟨rfl,lo,of,rfl,h1,h2,h3,h4⟩;dsimp only;by_cases hlt:of>=hint+1
   ·rw[if_pos hlt];exact wpS_pure ⟨rfl,lo,of,rfl,h1,h2,h3,.inl hlt⟩
   ·rw[if_neg hlt];refine wpS_bind (bey rfl (by lia) ?_);cases hb2:BB (hint-of) with
    | true=>exact wpS_pure ⟨rfl,lo,of,rfl,h1,h2,h3,.inr hb2⟩
    | false=>exact wpS_pure ⟨rfl,_,_,rfl,by lia,by lia,hb2,by lia⟩
  ·rintro c st' ⟨rfl,lo,of,rfl,h1,h2,h3,h4⟩;exact⟨rfl,lo,of,rfl,h1,h2,h3,.inl (by lia)⟩
  ·rintro c st'' ⟨rfl,lo,of,rfl,h1,h2,h3,h4⟩;dsimp only;have g1:hint+1-min of (hint+1)<=hint-lo:=by lia
   have g2:hint-lo<=n:=by lia
   have g3:∀i,i<hint+1-min of (hint+1)->BB i=true:=fun i hi=>by
    rcases h4 with h4|h4
    ·lia
    ·exact up (show i<=hint-of by lia) (by lia) h4
   have g4:∀i,hint-lo<=i->i<n->BB i=false:=fun i hi hin=>dn hi hin h3;generalize hint+1-min of (hint+1)=lo1 at g1 g3;generalize hint-lo=hi1 at g1 g2 g4;refine wpS_bind (wpS_mono (wpS_forRange (I:=fun x c st'=>st'=st''/\∃lo hi,c=(none,lo,hi)/\lo<=hi/\hi<=n/\(∀i,i<lo->BB i=true)/\(∀i,hi<=i->i<n->BB i=false)/\hi-lo+x<=n) (Q:=fun c st'=>st'=st''/\∃lo hi,c=(none,lo,hi)/\lo=hi/\hi<=n/\(∀i,i<lo->BB i=true)/\(∀i,hi<=i->i<n->BB i=false)) ?_ ?_ ⟨rfl,lo1,hi1,rfl,g1,g2,g3,g4,by lia⟩) ?_)
   ·rintro i c st' _ _ ⟨rfl,lo,hi,rfl,h1,h2,h3,h4,h5⟩;dsimp only;by_cases hlt:lo>=hi
    ·rw[if_pos hlt];exact wpS_pure ⟨rfl,lo,hi,rfl,by lia,h2,h3,h4⟩
    ·rw[if_neg hlt];refine wpS_bind (bey rfl (by lia) ?_);cases hb2:BB (lo+(hi-lo) / 2) with
     | true=>exact wpS_pure ⟨rfl,_,_,rfl,by lia,by lia,fun i hi'=>up (show i<=lo+(hi-lo) / 2 by lia) (by lia) hb2,h4,by lia⟩
     | false=>exact wpS_pure ⟨rfl,_,_,rfl,by lia,by lia,h3,fun i hi' hin=>dn hi' hin hb2,by lia⟩
   ·rintro c st' ⟨rfl,lo,hi,rfl,h1,h2,h3,h4,h5⟩;exact⟨rfl,lo,hi,rfl,by lia,h2,h3,h4⟩
   ·rintro c st' ⟨rfl,lo,hi,rfl,h1,h2,h3,h4⟩;exact wpS_pure (h hi h2 (fun i hi'=>h3 i (by lia)) h4)
end
section
variable{lt:Keyed->Keyed->Bool}{a b out:Array Keyed}{ia ib k:Nat}{p q:Keyed}
abbrev So(lt:Keyed->Keyed->Bool)(l:List Keyed):Prop:=l.Pairwise (Le lt)
theorem ZiD(h:a[ia]?= some p):a.toList[ia]?= some p:=by rw[<- h];simp
theorem Z4{i:Nat}{x y:Keyed}(h1:a[i]?= some x)(h2:a[i]?= some y):x=y:=by
 rw[h1] at h2;exact Option.some.inj h2
theorem Zb0(h:a[ia]?= some p):a.toList.drop ia=p::a.toList.drop (ia+1):=by
 obtain⟨hi,e⟩:=List.getElem?_eq_some_iff.mp (ZiD h);rw[List.drop_eq_getElem_cons hi,e]
theorem So.drop{l:List Keyed}(h:So lt l)(n:Nat):So lt (l.drop n):=List.Pairwise.sublist (List.drop_sublist n l) h
theorem So.head(h:So lt a.toList)(hp:a[ia]?= some p):∀y∈a.toList.drop (ia+1),Le lt p y:=by
 have:=h.drop ia;rw[Zb0 hp] at this;exact(List.pairwise_cons.mp this).1
theorem ZeC(o:Swo lt)(h:So lt a.toList)(hp:a[ia]?= some p){x:Keyed}(hx:Le lt x p):∀y∈a.toList.drop ia,Le lt x y:=fun y hy=>by
 rw[Zb0 hp] at hy;rcases List.mem_cons.mp hy with rfl|hy
 ·exact hx
 ·exact o.le_trans hx (h.head hp y hy)
theorem ZeP(h:So lt a.toList)(i j:Nat):Up lt a i j:=fun x y p q _ hxy _ ex ey=>by
 obtain⟨hx,rfl⟩:=List.getElem?_eq_some_iff.mp (ZiD ex);obtain⟨hy,rfl⟩:=List.getElem?_eq_some_iff.mp (ZiD ey);exact(List.pairwise_iff_getElem.mp h) x y hx hy hxy
theorem ZkS{n:Nat}(h:Up lt a 0 n)(hn:a.size<=n):So lt a.toList:=by
 refine List.pairwise_iff_getElem.mpr fun i j hi hj hij=>?_;have hi':i<a.size:=by rw[<- Array.length_toList];exact hi
 have hj':j<a.size:=by rw[<- Array.length_toList];exact hj
 exact h i j _ _ (Nat.zero_le _) hij (by lia) (by rw[<- Array.getElem?_toList];exact List.getElem?_eq_getElem hi) (by rw[<- Array.getElem?_toList];exact List.getElem?_eq_getElem hj)
theorem Zc0{l:List Keyed}{n:Nat}{y:Keyed}(h:y∈l.drop n):∃i,l[n+i]?= some y:=by
 obtain⟨i,hi⟩:=List.mem_iff_getElem?.mp h;rw[List.getElem?_drop] at hi;exact⟨i,hi⟩
theorem Zk6(F:∀i,k<=i->i<a.size-ia->BV lt false p a ia i=false)(o:Swo lt):∀y∈a.toList.drop (ia+k),Le lt p y:=fun y hy=>by
 obtain⟨i,hi⟩:=Zc0 hy;obtain⟨hl,_⟩:=List.getElem?_eq_some_iff.mp hi;rw[Array.length_toList] at hl;have h1:=F (k+i) (by lia) (by lia);unfold BV at h1;rw[show ia+(k+i)=ia+k+i by lia,<- Array.getElem?_toList,hi] at h1;have h2:(!lt p y)=false:=h1;exact o.le_of (by simpa using h2)
theorem ZkW(F:∀i,i<k->BV lt false p a ia i=true):∀x∈(a.toList.drop ia).take k,Le lt x p:=fun x hx=>by
 obtain⟨i,hi⟩:=List.mem_iff_getElem?.mp hx;have hik:i<k:=by
  have:=(List.getElem?_eq_some_iff.mp hi).1;rw[List.length_take] at this;lia
 rw[List.getElem?_take_of_lt hik,List.getElem?_drop] at hi;have h1:=F i hik;unfold BV at h1;rw[<- Array.getElem?_toList,hi] at h1;have h2:(!lt p x)=true:=h1;show lt p x=false
 simpa using h2
theorem ZlK(F:∀i,k<=i->i<b.size-ib->BV lt true q b ib i=false):∀y∈b.toList.drop (ib+k),Le lt q y:=fun y hy=>by
 obtain⟨i,hi⟩:=Zc0 hy;obtain⟨hl,_⟩:=List.getElem?_eq_some_iff.mp hi;rw[Array.length_toList] at hl;have h1:=F (k+i) (by lia) (by lia);unfold BV at h1;rw[show ib+(k+i)=ib+k+i by lia,<- Array.getElem?_toList,hi] at h1;exact h1
theorem ZlG(F:∀i,i<k->BV lt true q b ib i=true)(o:Swo lt):∀x∈(b.toList.drop ib).take k,Le lt x q:=fun x hx=>by
 obtain⟨i,hi⟩:=List.mem_iff_getElem?.mp hx;have hik:i<k:=by
  have:=(List.getElem?_eq_some_iff.mp hi).1;rw[List.length_take] at this;lia
 rw[List.getElem?_take_of_lt hik,List.getElem?_drop] at hi;have h1:=F i hik;unfold BV at h1;rw[<- Array.getElem?_toList,hi] at h1;exact o.le_of h1
structure OutL(lt:Keyed->Keyed->Bool)(a b out:Array Keyed)(ia ib:Nat):Prop where
 perm:Out a b out ia ib
 sort:So lt out.toList
 lowA:∀x∈out.toList,∀y∈a.toList.drop ia,Le lt x y
 lowB:∀x∈out.toList,∀y∈b.toList.drop ib,Le lt x y
structure Rs(lt:Keyed->Keyed->Bool)(a b r:Array Keyed):Prop where
 perm:r.toList.Perm (a.toList++b.toList)
 sort:So lt r.toList
theorem mem_push{x:Keyed}(h:x∈(out.push p).toList):x∈out.toList\/x=p:=by
 rw[Array.toList_push] at h;rcases List.mem_append.mp h with h|h
 ·exact .inl h
 ·exact .inr (List.mem_singleton.mp h)
theorem Zhr(h:So lt out.toList)(hp:∀x∈out.toList,Le lt x p):So lt (out.push p).toList:=by
 rw[Array.toList_push];refine List.pairwise_append.mpr ⟨h,List.pairwise_singleton _ _,fun x hx y hy=>?_⟩;rw[List.mem_singleton.mp hy];exact hp x hx
theorem ZdE{l:List Keyed}{i j:Nat}(h:i<=j){y:Keyed}(hy:y∈l.drop j):y∈l.drop i:=by
 rw[show j=i+(j-i) by lia,<- List.drop_drop] at hy;exact List.mem_of_mem_drop hy
theorem OutL.pushA(h:OutL lt a b out ia ib)(SA:So lt a.toList)(hp:a[ia]?= some p)(hb:∀y∈b.toList.drop ib,Le lt p y):OutL lt a b (out.push p) (ia+1) ib:=by
 have hm:p∈a.toList.drop ia:=by rw[Zb0 hp];exact List.mem_cons_self ..
 refine⟨h.perm.pushA hp,Zhr h.sort fun x hx=>h.lowA x hx p hm,fun x hx y hy=>?_,fun x hx y hy=>?_⟩
 ·rcases mem_push hx with hx|rfl
  ·exact h.lowA x hx y (ZdE (by lia) hy)
  ·exact SA.head hp y hy
 ·rcases mem_push hx with hx|rfl
  ·exact h.lowB x hx y hy
  ·exact hb y hy
theorem OutL.pushB(h:OutL lt a b out ia ib)(SB:So lt b.toList)(hp:b[ib]?= some p)(ha:∀y∈a.toList.drop ia,Le lt p y):OutL lt a b (out.push p) ia (ib+1):=by
 have hm:p∈b.toList.drop ib:=by rw[Zb0 hp];exact List.mem_cons_self ..
 refine⟨h.perm.pushB hp,Zhr h.sort fun x hx=>h.lowB x hx p hm,fun x hx y hy=>?_,fun x hx y hy=>?_⟩
 ·rcases mem_push hx with hx|rfl
  ·exact h.lowA x hx y hy
  ·exact ha y hy
 ·rcases mem_push hx with hx|rfl
  ·exact h.lowB x hx y (ZdE (by lia) hy)
  ·exact SB.head hp y hy
theorem Zcy(a:Array Keyed)(i k:Nat):(a.extract i (i+k)).toList=(a.toList.drop i).take k:=by
 rw[Array.toList_extract,List.extract_eq_drop_take,show i+k-i=k by lia]
theorem Zce(a:Array Keyed)(i:Nat):(a.extract i a.size).toList=a.toList.drop i:=by
 rw[Array.toList_extract,List.extract_eq_drop_take];apply List.take_of_length_le;rw[List.length_drop,Array.length_toList];exact Nat.le_refl _
theorem Zcg{l:List Keyed}{i k:Nat}(h:So lt l){x y:Keyed}(hx:x∈(l.drop i).take k)(hy:y∈l.drop (i+k)):Le lt x y:=by
 have h1:=h.drop i;rw[<- List.take_append_drop k (l.drop i),List.drop_drop] at h1;exact(List.pairwise_append.mp h1).2.2 x hx y hy
theorem OutL.extA(h:OutL lt a b out ia ib)(SA:So lt a.toList)(hk:ia+k<=a.size)(hb:∀x∈(a.toList.drop ia).take k,∀y∈b.toList.drop ib,Le lt x y):OutL lt a b (out++a.extract ia (ia+k)) (ia+k) ib:=by
 have hm:∀x,x∈(out++a.extract ia (ia+k)).toList->x∈out.toList\/x∈(a.toList.drop ia).take k:=fun x hx=>by
  rw[Array.toList_append,Zcy] at hx;exact List.mem_append.mp hx
 refine⟨h.perm.extA hk,?_,fun x hx y hy=>?_,fun x hx y hy=>?_⟩
 ·rw[Array.toList_append,Zcy];exact List.pairwise_append.mpr ⟨h.sort,List.Pairwise.sublist (List.take_sublist _ _) (SA.drop ia),fun x hx y hy=>h.lowA x hx y (List.mem_of_mem_take hy)⟩
 ·rcases hm x hx with hx|hx
  ·exact h.lowA x hx y (ZdE (by lia) hy)
  ·exact Zcg SA hx hy
 ·rcases hm x hx with hx|hx
  ·exact h.lowB x hx y hy
  ·exact hb x hx y hy
theorem OutL.extB(h:OutL lt a b out ia ib)(SB:So lt b.toList)(hk:ib+k<=b.size)(ha:∀x∈(b.toList.drop ib).take k,∀y∈a.toList.drop ia,Le lt x y):OutL lt a b (out++b.extract ib (ib+k)) ia (ib+k):=by
 have hm:∀x,x∈(out++b.extract ib (ib+k)).toList->x∈out.toList\/x∈(b.toList.drop ib).take k:=fun x hx=>by
  rw[Array.toList_append,Zcy] at hx;exact List.mem_append.mp hx
 refine⟨h.perm.extB hk,?_,fun x hx y hy=>?_,fun x hx y hy=>?_⟩
 ·rw[Array.toList_append,Zcy];exact List.pairwise_append.mpr ⟨h.sort,List.Pairwise.sublist (List.take_sublist _ _) (SB.drop ib),fun x hx y hy=>h.lowB x hx y (List.mem_of_mem_take hy)⟩
 ·rcases hm x hx with hx|hx
  ·exact h.lowA x hx y hy
  ·exact ha x hx y hy
 ·rcases hm x hx with hx|hx
  ·exact h.lowB x hx y (ZdE (by lia) hy)
  ·exact Zcg SB hx hy
theorem OutL.doneB(h:OutL lt a b out ia ib)(SA:So lt a.toList)(e:(ib == b.size)=true):Rs lt a b (out++a.extract ia a.size++b.extract ib b.size):=by
 refine⟨h.perm.done,?_⟩;have e':b.toList.drop ib=[]:=List.drop_eq_nil_of_le (by rw[Array.length_toList,eq_of_beq e];exact Nat.le_refl _);rw[Array.toList_append,Array.toList_append,Zce,Zce,e',List.append_nil];exact List.pairwise_append.mpr ⟨h.sort,SA.drop ia,fun x hx y hy=>h.lowA x hx y hy⟩
theorem OutL.doneA(h:OutL lt a b out ia ib)(SB:So lt b.toList)(e:(ia == a.size)=true):Rs lt a b (out++a.extract ia a.size++b.extract ib b.size):=by
 refine⟨h.perm.done,?_⟩;have e':a.toList.drop ia=[]:=List.drop_eq_nil_of_le (by rw[Array.length_toList,eq_of_beq e];exact Nat.le_refl _);rw[Array.toList_append,Array.toList_append,Zce,Zce,e',List.append_nil];exact List.pairwise_append.mpr ⟨h.sort,SB.drop ib,fun x hx y hy=>h.lowB x hx y hy⟩
theorem OutL.lastL(h:OutL lt a b out ia ib)(SA:So lt a.toList)(SB:So lt b.toList)(LA:∀x∈b.toList,∀q,a[a.size-1]?= some q->Le lt x q)(e:(ia+1 == a.size)=true):Rs lt a b (out++b.extract ib b.size++a.extract ia a.size):=by
 refine⟨h.perm.last,?_⟩;have e1:=eq_of_beq e;rw[Array.toList_append,Array.toList_append,Zce,Zce];refine List.pairwise_append.mpr ⟨List.pairwise_append.mpr ⟨h.sort,SB.drop ib,fun x hx y hy=>h.lowB x hx y hy⟩,SA.drop ia,fun x hx y hy=>?_⟩;rcases List.mem_append.mp hx with hx|hx
 ·exact h.lowA x hx y hy
 ·refine LA x (List.mem_of_mem_drop hx) y ?_;obtain⟨i,hi⟩:=Zc0 hy;have hl:=(List.getElem?_eq_some_iff.mp hi).1;rw[Array.length_toList] at hl;rw[show a.size-1=ia+i by lia,<- Array.getElem?_toList];exact hi
theorem Zlg(SB:So lt b.toList)(hp:b[0]?= some p)(hb0:∀p,b[0]?= some p->∀y∈a.toList,Le lt p y):OutL lt a b #[p] 0 1:=by
 refine⟨Zl1 hp,List.pairwise_singleton _ _,fun x hx y hy=>?_,fun x hx y hy=>?_⟩
 ·obtain rfl:x=p:=by simpa using hx
  exact hb0 x hp y hy
 ·obtain rfl:x=p:=by simpa using hx
  exact SB.head hp y hy
end
section
variable{prog:Program}{w:World}{A:Around}{E:Value->Shared->Prop}{s:Shared}{κ : SortKind}{Ok:Keyed->Prop}{st:SortSt}{lt:Keyed->Keyed->Bool}
abbrev LoT:=Option (Array Keyed)×Array Keyed×Nat×Nat×Nat×Nat×Nat
def lo3(a b out:Array Keyed)(ia ib g ac bc:Nat):StateT SortSt Sem (ForInStep LoT) :=
 elem' a ia >>= fun p=>if(ia+1+1 == a.size)=true then pure (.done (some (out.push p++b.extract ib b.size++a.extract (ia+1) a.size),out.push p,ia+1,ib,g,ac,bc))
  else if(decide (ac<7)&&decide (bc<7))=true then pure (.done (none,out.push p,ia+1,ib,g,ac,bc)) else pure (.yield (none,out.push p,ia+1,ib,g,ac,bc))
def LoP(lt:Keyed->Keyed->Bool)(a b:Array Keyed)(st:SortSt)(x:Nat):ForInStep LoT->SortSt->Prop:=fun r st'=>match r with
 | .done c=>Like st st'/\((∃r out ia ib g ac bc,c=(some r,out,ia,ib,g,ac,bc)/\Rs lt a b r)\/∃out ia ib g ac bc,c=(none,out,ia,ib,g,ac,bc)/\OutL lt a b out ia ib/\ia+1<a.size/\ib<b.size/\x+2<=ia+ib)
 | .yield c=>Like st st'/\∃out ia ib g ac bc,c=(none,out,ia,ib,g,ac,bc)/\OutL lt a b out ia ib/\ia+1<a.size/\ib<b.size/\x+2<=ia+ib
structure LoQ(lt:Keyed->Keyed->Bool)(a b:Array Keyed)(st:SortSt)(N:Nat)(Q:ForInStep LoT->SortSt->Prop):Prop where
 R:∀r out ia ib g ac bc,Rs lt a b r->Q (.done (some r,out,ia,ib,g,ac,bc)) st
 N:∀out ia ib g ac bc,OutL lt a b out ia ib->ia+1<a.size->ib<b.size->N<=ia+ib->Q (.done (none,out,ia,ib,g,ac,bc)) st/\Q (.yield (none,out,ia,ib,g,ac,bc)) st
section
variable{a b out:Array Keyed}{ia ib g ac bc N:Nat}{Q:ForInStep LoT->SortSt->Prop}
theorem Zji(SA:So lt a.toList)(SB:So lt b.toList)(LA:∀x∈b.toList,∀q,a[a.size-1]?= some q->Le lt x q)(q:LoQ lt a b st N Q)(ho:OutL lt a b out ia ib)(h1:ia+1<a.size)(h2:ib<b.size)(hN:N<=ia+ib)(hp:∀p,a[ia]?= some p->∀y∈b.toList.drop ib,Le lt p y) :
  wpS (model prog w) A E s (lo3 a b out ia ib g ac bc) Q st:=by
 unfold lo3;refine wpS_bind (Zy (by lia) fun p4 h4 e4=>?_);have o4:=ho.pushA SA e4 (hp p4 e4);by_cases f1:(ia+1+1 == a.size)=true
 ·rw[if_pos f1];exact wpS_pure (q.R _ _ _ _ _ _ _ (o4.lastL SA SB LA f1))
 rw[if_neg f1];have n4:ia+1+1<a.size:=by
  have : ¬ ia+1+1=a.size:=fun e=>f1 (by simp[<- e]);lia
 have z:=q.N _ _ _ g ac bc o4 n4 h2 (by lia);by_cases f2:(decide (ac<7)&&decide (bc<7))=true
 ·rw[if_pos f2];exact wpS_pure z.1
 ·rw[if_neg f2];exact wpS_pure z.2
theorem Zf8(o:Swo lt)(hc:ZfD prog w A s κ Ok lt)(hk:kindOf st= κ)(ha:∀p∈a.toList,Ok p)(hb:∀p∈b.toList,Ok p)(SA:So lt a.toList)(SB:So lt b.toList)(LA:∀x∈b.toList,∀q,a[a.size-1]?= some q->Le lt x q)(q:LoQ lt a b st N Q)(ho:OutL lt a b out ia ib)(h1:ia+1<a.size)(h2:ib<b.size)(hN:N<=ia+ib)(hp:∀p,b[ib]?= some p->∀y∈a.toList.drop ia,Le lt p y)
  {T:Keyed->Option Nat->StateT SortSt Sem (ForInStep LoT)} (hT:∀p k,T p (some k)=if k > 0 then(if(ib+1+k == b.size)=true then pure (.done (some (out.push p++b.extract (ib+1) (ib+1+k)++a.extract ia a.size++b.extract (ib+1+k) b.size),out.push p++b.extract (ib+1) (ib+1+k),ia,ib+1+k,g,ac,k))
     else lo3 a b (out.push p++b.extract (ib+1) (ib+1+k)) ia (ib+1+k) g ac k)
    else lo3 a b (out.push p) ia (ib+1) g ac k) :
  wpS (model prog w) A E s (elem' b ib >>= fun p=>if(ib+1 == b.size)=true then pure (.done (some (out.push p++a.extract ia a.size++b.extract (ib+1) b.size),out.push p,ia,ib+1,g,ac,bc))
   else elem' a ia >>= fun q=>Ze4 true q b (ib+1) (b.size-(ib+1)) 0 >>= T p) Q st:=by
 refine wpS_bind (Zy (by lia) fun p3 h3 e3=>?_);have o2:=ho.pushB SB e3 (hp p3 e3);by_cases c3:(ib+1 == b.size)=true
 ·rw[if_pos c3];exact wpS_pure (q.R _ _ _ _ _ _ _ (o2.doneB SA c3))
 rw[if_neg c3];have n3:ib+1<b.size:=by
  have : ¬ ib+1=b.size:=fun e=>c3 (by simp[<- e]);lia
 refine wpS_bind (Zy (by lia) fun q3 g3 u3=>?_);refine wpS_bind (Zah o hc hk (ha q3 g3) hb (by lia) (by lia) (ZeP SB _ _) fun k2 hk2 G1 G2=>?_);rw[hT];by_cases k20:k2 > 0
 ·rw[if_pos k20];have o3:=o2.extB SB (k:=k2) (by lia) (fun x hx=>ZeC o SA u3 (ZlG G1 o x hx));by_cases c4:(ib+1+k2 == b.size)=true
  ·rw[if_pos c4];exact wpS_pure (q.R _ _ _ _ _ _ _ (o3.doneB SA c4))
  rw[if_neg c4];have n5:ib+1+k2<b.size:=by
   have : ¬ ib+1+k2=b.size:=fun e=>c4 (by simp[<- e]);lia
  exact Zji SA SB LA q o3 h1 n5 (by lia) fun p e=>by rw[Z4 e u3];exact ZlK G2
 ·rw[if_neg k20];exact Zji SA SB LA q o2 h1 n3 (by lia) fun p e=>by rw[Z4 e u3];exact ZlK (k:=0) (fun i _ hi=>G2 i (by lia) hi)
end
set_option maxHeartbeats 2000000 in
theorem Zel{a b:Array Keyed}{Q:Array Keyed->SortSt->Prop}(o:Swo lt)(hc:ZfD prog w A s κ Ok lt)(hk:kindOf st= κ)(ha:∀p∈a.toList,Ok p)(hb:∀p∈b.toList,Ok p)(ha1:1<=a.size)(hb1:1<=b.size)(SA:So lt a.toList)(SB:So lt b.toList)(hb0:∀p,b[0]?= some p->∀y∈a.toList,Le lt p y)(LA:∀x∈b.toList,∀q,a[a.size-1]?= some q->Le lt x q)
  (h:∀r st',Like st st'->Rs lt a b r->Q r st'):wpS (model prog w) A E s (ZiT a b) Q st:=by
 refine wpS_bind (wpS_lift (wpAny_rule ⟨rfl,?_⟩));refine wpS_bind (Zy (by lia) fun p hp he=>?_)
 try dsimp -zeta only
 have o0:OutL lt a b #[p] 0 1:=Zlg SB he hb0;by_cases c1:(1 == b.size)=true
 ·rw[if_pos c1];exact wpS_pure (h _ _ (Like.refl _) (o0.doneB SA c1))
 rw[if_neg c1];by_cases c2:(0+1 == a.size)=true
 ·rw[if_pos c2];exact wpS_pure (h _ _ (Like.refl _) (o0.lastL SA SB LA c2))
 rw[if_neg c2];have n1:1<b.size:=by
  have : ¬ 1=b.size:=fun e=>c1 (by simp[<- e]);lia
 have n2:1<a.size:=by
  have : ¬ 1=a.size:=fun e=>c2 (by simp[<- e]);lia
 refine wpS_bind (wpS_get ?_);refine wpS_bind (wpS_mono (wpS_forRange (I:=fun x c st'=>Like st st'/\∃out ia ib g,c=(none,out,ia,ib,g)/\OutL lt a b out ia ib/\ia+1<a.size/\ib<b.size/\x+1<=ia+ib)
  (Q:=fun c st'=>Like st st'/\∃r out ia ib g,c=(some r,out,ia,ib,g)/\Rs lt a b r) ?_ ?_ ⟨Like.refl _,_,0,1,_,rfl,o0,by lia,by lia,by lia⟩) ?_)
 ·rintro x c st1 _ hx ⟨lk,out,ia,ib,g,rfl,ho,hia,hib,hxx⟩
  try dsimp -zeta only
  refine wpS_bind (wpS_mono (wpS_forRange (I:=fun y c st'=>Like st st'/\∃out ia ib ac bc,c=(none,out,ia,ib,ac,bc)/\OutL lt a b out ia ib/\ia+1<a.size/\ib<b.size/\x+1+(if y=0 then 0 else 1)<=ia+ib)
   (Q:=fun c st'=>Like st st'/\((∃r out ia ib ac bc,c=(some r,out,ia,ib,ac,bc)/\Rs lt a b r)\/∃out ia ib ac bc,c=(none,out,ia,ib,ac,bc)/\OutL lt a b out ia ib/\ia+1<a.size/\ib<b.size/\x+2<=ia+ib)) ?_ ?_ ⟨lk,out,ia,ib,0,0,rfl,ho,hia,hib,by simp;lia⟩) ?_)
  ·rintro y c st2 _ hy ⟨lk2,out,ia,ib,ac,bc,rfl,ho,hia,hib,hxx⟩;dsimp only;have hxx2:x+1<=ia+ib:=by split at hxx <;> lia
   refine wpS_bind (Zy (by lia) fun p hp ep=>?_);refine wpS_bind (Zy (by lia) fun q hq eq=>?_);refine wpS_bind (ZcP hc (lk2.kind.trans hk) (hb p hp) (ha q hq) ?_);cases hbw:lt p q with
   | true =>
    try dsimp -zeta only
    rw[if_pos rfl];refine wpS_bind (Zy (by lia) fun p2 hp2 ep2=>?_);have o1:=ho.pushB SB ep2 (by rw[Z4 ep2 ep];exact ZeC o SA eq (o.le_of hbw));by_cases d1:(ib+1 == b.size)=true
    ·rw[if_pos d1];exact wpS_pure ⟨lk2,.inl ⟨_,_,_,_,_,_,rfl,(o1.doneB SA d1)⟩⟩
    rw[if_neg d1];have m1:ib+1<b.size:=by
     have : ¬ ib+1=b.size:=fun e=>d1 (by simp[<- e]);lia
    by_cases d2:bc+1>=g
    ·rw[if_pos d2];exact wpS_pure ⟨lk2,.inr ⟨_,_,_,_,_,rfl,o1,hia,m1,by lia⟩⟩
    ·rw[if_neg d2];exact wpS_pure ⟨lk2,_,_,_,_,_,rfl,o1,hia,m1,by rw[if_neg (by lia)];lia⟩
   | false =>
    try dsimp -zeta only
    rw[if_neg Bool.false_ne_true];refine wpS_bind (Zy (by lia) fun p2 hp2 ep2=>?_);have o1:=ho.pushA SA ep2 (by rw[Z4 ep2 eq];exact ZeC o SB ep hbw);by_cases d1:(ia+1+1 == a.size)=true
    ·rw[if_pos d1];exact wpS_pure ⟨lk2,.inl ⟨_,_,_,_,_,_,rfl,(o1.lastL SA SB LA d1)⟩⟩
    rw[if_neg d1];have m1:ia+1+1<a.size:=by
     have : ¬ ia+1+1=a.size:=fun e=>d1 (by simp[<- e]);lia
    by_cases d2:ac+1>=g
    ·rw[if_pos d2];exact wpS_pure ⟨lk2,.inr ⟨_,_,_,_,_,rfl,o1,m1,hib,by lia⟩⟩
    ·rw[if_neg d2];exact wpS_pure ⟨lk2,_,_,_,_,_,rfl,o1,m1,hib,by rw[if_neg (by lia)];lia⟩
  ·rintro c st2 ⟨lk2,out,ia,ib,ac,bc,rfl,ho,hia,hib,hxx⟩;refine⟨lk2,.inr ⟨_,_,_,_,_,rfl,ho,hia,hib,?_⟩⟩;rw[if_neg (by lia)] at hxx;lia
  ·rintro c st2 ⟨lk2,⟨r,out,ia,ib,ac,bc,rfl,hr⟩|⟨out,ia,ib,ac,bc,rfl,ho,hia,hib,hxx⟩⟩
   ·exact wpS_pure ⟨lk2,_,_,_,_,_,rfl,hr⟩
   try dsimp -zeta only
   refine wpS_bind (wpS_lift (wpAny_rule ⟨rfl,?_⟩))
   try dsimp -zeta only
   refine wpS_bind (wpS_mono (wpS_forRange (I:=fun y c st'=>Like st st'/\∃out ia ib g ac bc,c=(none,out,ia,ib,g,ac,bc)/\OutL lt a b out ia ib/\ia+1<a.size/\ib<b.size/\x+2<=ia+ib)
    (Q:=fun c st'=>Like st st'/\((∃r out ia ib g ac bc,c=(some r,out,ia,ib,g,ac,bc)/\Rs lt a b r)\/∃out ia ib g ac bc,c=(none,out,ia,ib,g,ac,bc)/\OutL lt a b out ia ib/\ia+1<a.size/\ib<b.size/\x+2<=ia+ib)) ?_ ?_ ⟨lk2,out,ia,ib,_,_,_,rfl,ho,hia,hib,hxx⟩) ?_)
   ·rintro y c st3 _ hy ⟨lk3,out,ia,ib,g3,ac,bc,rfl,ho,hia,hib,hxx⟩;dsimp only;refine wpS_mono (Q:=LoP lt a b st x) ?_ (fun r st' h=>by cases r <;> exact h)
    have loq:∀{st4},Like st st4->LoQ lt a b st4 (ia+ib) (LoP lt a b st x):=fun lk4=>⟨fun r out ia ib g ac bc hr=>⟨lk4,.inl ⟨r,out,ia,ib,g,ac,bc,rfl,hr⟩⟩,fun out ia ib g ac bc ho h1 h2 hN=>⟨⟨lk4,.inr ⟨out,ia,ib,g,ac,bc,rfl,ho,h1,h2,by lia⟩⟩,⟨lk4,out,ia,ib,g,ac,bc,rfl,ho,h1,h2,by lia⟩⟩⟩;by_cases g1:g3 > 1
    ·rw[if_pos g1];refine wpS_bind (wpS_modify ?_);have lk4:=lk3.trans (ZaC st3 (g3-1));refine wpS_bind (Zy (by lia) fun p0 h0 e0=>?_);refine wpS_bind (Zah o hc (lk4.kind.trans hk) (hb p0 h0) ha (by lia) (by lia) (ZeP SA _ _) fun k hk1 F1 F2=>?_)
     try dsimp -zeta only
     by_cases k0:k > 0
     ·rw[if_pos k0];have o1:=ho.extA SA (k:=k) (by lia) (fun x hx=>ZeC o SB e0 (ZkW F1 x hx));by_cases c1:(ia+k+1 == a.size)=true
      ·rw[if_pos c1];exact wpS_pure ⟨lk4,.inl ⟨_,_,_,_,_,_,_,rfl,(o1.lastL SA SB LA c1)⟩⟩
      rw[if_neg c1];by_cases c2:(ia+k == a.size)=true
      ·rw[if_pos c2];exact wpS_pure ⟨lk4,.inl ⟨_,_,_,_,_,_,_,rfl,(o1.doneA SB c2)⟩⟩
      rw[if_neg c2];have n1:ia+k+1<a.size:=by
       have h1 : ¬ ia+k+1=a.size:=fun e=>c1 (by simp[<- e]);have h2 : ¬ ia+k=a.size:=fun e=>c2 (by simp[<- e]);lia
      refine Zf8 o hc (lk4.kind.trans hk) ha hb SA SB LA (N:=ia+ib) (loq lk4) o1 n1 hib (by lia) (fun p e=>by rw[Z4 e e0];exact Zk6 F2 o) ?_;exact fun _ _=>rfl
     ·rw[if_neg k0];refine Zf8 o hc (lk4.kind.trans hk) ha hb SA SB LA (N:=ia+ib) (loq lk4) ho hia hib (Nat.le_refl _) (fun p e=>by rw[Z4 e e0];exact Zk6 (k:=0) (fun i _ hi=>F2 i (by lia) hi) o) ?_;exact fun _ _=>rfl
    ·rw[if_neg g1];refine wpS_bind (wpS_modify ?_);have lk4:=lk3.trans (ZaC st3 g3);refine wpS_bind (Zy (by lia) fun p0 h0 e0=>?_);refine wpS_bind (Zah o hc (lk4.kind.trans hk) (hb p0 h0) ha (by lia) (by lia) (ZeP SA _ _) fun k hk1 F1 F2=>?_)
     try dsimp -zeta only
     by_cases k0:k > 0
     ·rw[if_pos k0];have o1:=ho.extA SA (k:=k) (by lia) (fun x hx=>ZeC o SB e0 (ZkW F1 x hx));by_cases c1:(ia+k+1 == a.size)=true
      ·rw[if_pos c1];exact wpS_pure ⟨lk4,.inl ⟨_,_,_,_,_,_,_,rfl,(o1.lastL SA SB LA c1)⟩⟩
      rw[if_neg c1];by_cases c2:(ia+k == a.size)=true
      ·rw[if_pos c2];exact wpS_pure ⟨lk4,.inl ⟨_,_,_,_,_,_,_,rfl,(o1.doneA SB c2)⟩⟩
      rw[if_neg c2];have n1:ia+k+1<a.size:=by
       have h1 : ¬ ia+k+1=a.size:=fun e=>c1 (by simp[<- e]);have h2 : ¬ ia+k=a.size:=fun e=>c2 (by simp[<- e]);lia
      refine Zf8 o hc (lk4.kind.trans hk) ha hb SA SB LA (N:=ia+ib) (loq lk4) o1 n1 hib (by lia) (fun p e=>by rw[Z4 e e0];exact Zk6 F2 o) ?_;exact fun _ _=>rfl
     ·rw[if_neg k0];refine Zf8 o hc (lk4.kind.trans hk) ha hb SA SB LA (N:=ia+ib) (loq lk4) ho hia hib (Nat.le_refl _) (fun p e=>by rw[Z4 e e0];exact Zk6 (k:=0) (fun i _ hi=>F2 i (by lia) hi) o) ?_;exact fun _ _=>rfl
   ·rintro c st3 ⟨lk3,out,ia,ib,g3,ac,bc,rfl,ho,hia,hib,hxx⟩;exact⟨lk3,.inr ⟨_,_,_,_,_,_,rfl,ho,hia,hib,hxx⟩⟩
   ·rintro c st3 ⟨lk3,⟨r,out,ia,ib,g3,ac,bc,rfl,hr⟩|⟨out,ia,ib,g3,ac,bc,rfl,ho,hia,hib,hxx⟩⟩
    ·exact wpS_pure ⟨lk3,_,_,_,_,_,rfl,hr⟩
    ·try dsimp -zeta only
     refine wpS_bind (wpS_modify ?_);exact wpS_pure ⟨lk3.trans (ZaC _ _),_,_,_,_,rfl,ho,hia,hib,by lia⟩
 ·rintro c st1 ⟨lk,out,ia,ib,g,rfl,ho,hia,hib,hx⟩;exfalso;lia
 ·rintro c st1 ⟨lk,r,out,ia,ib,g,rfl,hr⟩;exact wpS_pure (h r st1 lk hr)
end
section
variable{lt:Keyed->Keyed->Bool}{a b out:Array Keyed}{na nb k:Nat}{p q:Keyed}
structure OutHL(lt:Keyed->Keyed->Bool)(a b out:Array Keyed)(na nb:Nat):Prop where
 perm:ZcC a b out na nb
 sort:So lt out.toList.reverse
 hiA:∀x∈out.toList,∀y∈a.toList.take na,Le lt y x
 hiB:∀x∈out.toList,∀y∈b.toList.take nb,Le lt y x
theorem ZbO(h1:1<=na)(hp:a[na-1]?= some p):a.toList.take na=a.toList.take (na-1) ++ [p]:=by
 have:=ZdX (ZiD hp);rw[Nat.sub_add_cancel h1] at this;exact this
theorem So.take{l:List Keyed}(h:So lt l)(n:Nat):So lt (l.take n):=List.Pairwise.sublist (List.take_sublist n l) h
theorem So.last(h:So lt a.toList)(h1:1<=na)(hp:a[na-1]?= some p):∀y∈a.toList.take (na-1),Le lt y p:=fun y hy=>by
 have:=h.take na;rw[ZbO h1 hp] at this;exact(List.pairwise_append.mp this).2.2 y hy p (List.mem_singleton.mpr rfl)
theorem Zek(o:Swo lt)(h:So lt a.toList)(h1:1<=na)(hp:a[na-1]?= some p){x:Keyed}(hx:Le lt p x):∀y∈a.toList.take na,Le lt y x:=fun y hy=>by
 rw[ZbO h1 hp] at hy;rcases List.mem_append.mp hy with hy|hy
 ·exact o.le_trans (h.last h1 hp y hy) hx
 ·rw[List.mem_singleton.mp hy];exact hx
theorem ZdU{l:List Keyed}{i j:Nat}(h:i<=j){y:Keyed}(hy:y∈l.take i):y∈l.take j:=by
 rw[show i=min i j by lia,<- List.take_take] at hy;exact List.mem_of_mem_take hy
theorem Zbh{l:List Keyed}{n:Nat}{y:Keyed}(h:y∈l.take n):∃i,i<n/\l[i]?= some y:=by
 obtain⟨i,hi⟩:=List.mem_iff_getElem?.mp h;have hik:i<n:=by
  have:=(List.getElem?_eq_some_iff.mp hi).1;rw[List.length_take] at this;lia
 rw[List.getElem?_take_of_lt hik] at hi;exact⟨i,hik,hi⟩
theorem Zbj{i j:Nat}{x:Keyed}(h:x∈(a.extract i j).toList):∃m,i<=m/\m<j/\a[m]?= some x:=by
 rw[Array.toList_extract,List.extract_eq_drop_take] at h;obtain⟨m,hm,e⟩:=Zbh h;rw[List.getElem?_drop] at e;exact⟨i+m,by lia,by lia,by rw[<- Array.getElem?_toList];exact e⟩
theorem ZkJ(F:∀i,k<=i->i<na->BV lt false p a 0 i=false)(o:Swo lt):∀x∈(a.extract k na).toList,Le lt p x:=fun x hx=>by
 obtain⟨m,h1,h2,e⟩:=Zbj hx;have h3:=F m h1 h2;unfold BV at h3;rw[Nat.zero_add,e] at h3;have h4:(!lt p x)=false:=h3;exact o.le_of (by simpa using h4)
theorem ZfW(F:∀i,i<k->BV lt false p a 0 i=true):∀y∈a.toList.take k,Le lt y p:=fun y hy=>by
 obtain⟨i,hi,e⟩:=Zbh hy;have h3:=F i hi;unfold BV at h3;rw[Nat.zero_add,<- Array.getElem?_toList,e] at h3;have h4:(!lt p y)=true:=h3;show lt p y=false
 simpa using h4
theorem ZlE(F:∀i,k<=i->i<nb->BV lt true q b 0 i=false):∀x∈(b.extract k nb).toList,Le lt q x:=fun x hx=>by
 obtain⟨m,h1,h2,e⟩:=Zbj hx;have h3:=F m h1 h2;unfold BV at h3;rw[Nat.zero_add,e] at h3;exact h3
theorem Zi5(F:∀i,i<k->BV lt true q b 0 i=true)(o:Swo lt):∀y∈b.toList.take k,Le lt y q:=fun y hy=>by
 obtain⟨i,hi,e⟩:=Zbh hy;have h3:=F i hi;unfold BV at h3;rw[Nat.zero_add,<- Array.getElem?_toList,e] at h3;exact o.le_of h3
theorem Zfz(h:So lt out.toList.reverse)(hp:∀x∈out.toList,Le lt p x):So lt (out.push p).toList.reverse:=by
 rw[Array.toList_push,List.reverse_append];exact List.pairwise_cons.mpr ⟨fun x hx=>hp x (List.mem_reverse.mp hx),h⟩
theorem OutHL.pushA(h:OutHL lt a b out na nb)(SA:So lt a.toList)(h1:1<=na)(hp:a[na-1]?= some p)(hb:∀y∈b.toList.take nb,Le lt y p):OutHL lt a b (out.push p) (na-1) nb:=by
 have hm:p∈a.toList.take na:=by rw[ZbO h1 hp];exact List.mem_append_right _ (List.mem_singleton.mpr rfl)
 refine⟨h.perm.pushA h1 hp,Zfz h.sort fun x hx=>h.hiA x hx p hm,fun x hx y hy=>?_,fun x hx y hy=>?_⟩
 ·rcases mem_push hx with hx|rfl
  ·exact h.hiA x hx y (ZdU (by lia) hy)
  ·exact SA.last h1 hp y hy
 ·rcases mem_push hx with hx|rfl
  ·exact h.hiB x hx y hy
  ·exact hb y hy
theorem OutHL.pushB(h:OutHL lt a b out na nb)(SB:So lt b.toList)(h1:1<=nb)(hp:b[nb-1]?= some p)(ha:∀y∈a.toList.take na,Le lt y p):OutHL lt a b (out.push p) na (nb-1):=by
 have hm:p∈b.toList.take nb:=by rw[ZbO h1 hp];exact List.mem_append_right _ (List.mem_singleton.mpr rfl)
 refine⟨h.perm.pushB h1 hp,Zfz h.sort fun x hx=>h.hiB x hx p hm,fun x hx y hy=>?_,fun x hx y hy=>?_⟩
 ·rcases mem_push hx with hx|rfl
  ·exact h.hiA x hx y hy
  ·exact ha y hy
 ·rcases mem_push hx with hx|rfl
  ·exact h.hiB x hx y (ZdU (by lia) hy)
  ·exact SB.last h1 hp y hy
theorem ZiY(h:So lt a.toList)(i j:Nat):So lt (a.extract i j).toList:=by
 rw[Array.toList_extract,List.extract_eq_drop_take];exact(h.drop i).take _
theorem ZhN{i j:Nat}{x:Keyed}(h:x∈(a.extract i j).toList):x∈a.toList.take j:=by
 obtain⟨m,h1,h2,e⟩:=Zbj h;rw[<- Array.getElem?_toList] at e;refine List.mem_iff_getElem?.mpr ⟨m,?_⟩;rw[List.getElem?_take_of_lt h2];exact e
theorem Zdq(h:So lt a.toList){i j:Nat}{x y:Keyed}(hy:y∈a.toList.take i)(hx:x∈(a.extract i j).toList):Le lt y x:=by
 obtain⟨m,h1,h2,e⟩:=Zbj hx;obtain⟨l,hl,e2⟩:=Zbh hy;rw[Array.getElem?_toList] at e2;exact ZeP h 0 (m+1) l m _ _ (Nat.zero_le _) (by lia) (by lia) e2 e
theorem OutHL.extA(h:OutHL lt a b out na nb)(SA:So lt a.toList)(hk:k<=na)(hb:∀x∈(a.extract k na).toList,∀y∈b.toList.take nb,Le lt y x):OutHL lt a b (out++(a.extract k na).reverse) k nb:=by
 have hm:∀x,x∈(out++(a.extract k na).reverse).toList->x∈out.toList\/x∈(a.extract k na).toList:=fun x hx=>by
  rw[Array.toList_append,Array.toList_reverse] at hx;rcases List.mem_append.mp hx with hx|hx
  ·exact .inl hx
  ·exact .inr (List.mem_reverse.mp hx)
 refine⟨h.perm.extA hk,?_,fun x hx y hy=>?_,fun x hx y hy=>?_⟩
 ·rw[Array.toList_append,Array.toList_reverse,List.reverse_append,List.reverse_reverse];exact List.pairwise_append.mpr ⟨ZiY SA _ _,h.sort,fun x hx y hy=>h.hiA y (List.mem_reverse.mp hy) x (ZhN hx)⟩
 ·rcases hm x hx with hx|hx
  ·exact h.hiA x hx y (ZdU (by lia) hy)
  ·exact Zdq SA hy hx
 ·rcases hm x hx with hx|hx
  ·exact h.hiB x hx y hy
  ·exact hb x hx y hy
theorem OutHL.extB(h:OutHL lt a b out na nb)(SB:So lt b.toList)(hk:k<=nb)(ha:∀x∈(b.extract k nb).toList,∀y∈a.toList.take na,Le lt y x):OutHL lt a b (out++(b.extract k nb).reverse) na k:=by
 have hm:∀x,x∈(out++(b.extract k nb).reverse).toList->x∈out.toList\/x∈(b.extract k nb).toList:=fun x hx=>by
  rw[Array.toList_append,Array.toList_reverse] at hx;rcases List.mem_append.mp hx with hx|hx
  ·exact .inl hx
  ·exact .inr (List.mem_reverse.mp hx)
 refine⟨h.perm.extB hk,?_,fun x hx y hy=>?_,fun x hx y hy=>?_⟩
 ·rw[Array.toList_append,Array.toList_reverse,List.reverse_append,List.reverse_reverse];exact List.pairwise_append.mpr ⟨ZiY SB _ _,h.sort,fun x hx y hy=>h.hiB y (List.mem_reverse.mp hy) x (ZhN hx)⟩
 ·rcases hm x hx with hx|hx
  ·exact h.hiA x hx y hy
  ·exact ha x hx y hy
 ·rcases hm x hx with hx|hx
  ·exact h.hiB x hx y (ZdU (by lia) hy)
  ·exact Zdq SB hy hx
theorem OutHL.doneA(h:OutHL lt a b out na nb)(SB:So lt b.toList)(e:(na == 0)=true):Rs lt a b (a.extract 0 na++b.extract 0 nb++out.reverse):=by
 refine⟨h.perm.done,?_⟩;rw[Array.toList_append,Array.toList_append,ex0,ex0,Array.toList_reverse,eq_of_beq e,List.take_zero,List.nil_append];exact List.pairwise_append.mpr ⟨SB.take nb,h.sort,fun x hx y hy=>h.hiB y (List.mem_reverse.mp hy) x hx⟩
theorem OutHL.doneB(h:OutHL lt a b out na nb)(SA:So lt a.toList)(e:(nb == 0)=true):Rs lt a b (a.extract 0 na++b.extract 0 nb++out.reverse):=by
 refine⟨h.perm.done,?_⟩;rw[Array.toList_append,Array.toList_append,ex0,ex0,Array.toList_reverse,eq_of_beq e,List.take_zero,List.append_nil];exact List.pairwise_append.mpr ⟨SA.take na,h.sort,fun x hx y hy=>h.hiA y (List.mem_reverse.mp hy) x hx⟩
theorem OutHL.firstL(h:OutHL lt a b out na nb)(SA:So lt a.toList)(SB:So lt b.toList)(hb0:∀p,b[0]?= some p->∀y∈a.toList,Le lt p y)(e:(nb == 1)=true):Rs lt a b (b.extract 0 nb++a.extract 0 na++out.reverse):=by
 refine⟨h.perm.first,?_⟩
 rw[Array.toList_append,Array.toList_append,ex0,ex0,Array.toList_reverse];refine List.pairwise_append.mpr ⟨List.pairwise_append.mpr ⟨SB.take nb,SA.take na,fun x hx y hy=>?_⟩,h.sort,fun x hx y hy=>?_⟩
 ·obtain⟨i,hi,e2⟩:=Zbh hx;rw[eq_of_beq e] at hi;obtain rfl:i=0:=by lia
  rw[Array.getElem?_toList] at e2;exact hb0 x e2 y (List.mem_of_mem_take hy)
 ·rcases List.mem_append.mp hx with hx|hx
  ·exact h.hiB y (List.mem_reverse.mp hy) x hx
  ·exact h.hiA y (List.mem_reverse.mp hy) x hx
theorem Zku(SA:So lt a.toList)(h1:1<=a.size)(hp:a[a.size-1]?= some p)(LA:∀x∈b.toList,∀q,a[a.size-1]?= some q->Le lt x q):OutHL lt a b #[p] (a.size-1) b.size:=by
 refine⟨Zld h1 hp,List.pairwise_singleton _ _,fun x hx y hy=>?_,fun x hx y hy=>?_⟩
 ·obtain rfl:x=p:=by simpa using hx
  exact SA.last h1 hp y hy
 ·obtain rfl:x=p:=by simpa using hx
  exact LA y (List.mem_of_mem_take hy) x hp
end
section
variable{prog:Program}{w:World}{A:Around}{E:Value->Shared->Prop}{s:Shared}{κ : SortKind}{Ok:Keyed->Prop}{st:SortSt}{lt:Keyed->Keyed->Bool}
abbrev HiT:=Option (Array Keyed)×Nat×Nat×Array Keyed×Nat×Nat×Nat
def hi3(a b:Array Keyed)(na nb:Nat)(out:Array Keyed)(g ac bc:Nat):StateT SortSt Sem (ForInStep HiT) :=
 elem' a (na-1) >>= fun p=>if(na-1 == 0)=true then pure (.done (some (a.extract 0 (na-1)++b.extract 0 nb++(out.push p).reverse),na-1,nb,out.push p,g,ac,bc))
  else if(decide (ac<7)&&decide (bc<7))=true then pure (.done (none,na-1,nb,out.push p,g,ac,bc)) else pure (.yield (none,na-1,nb,out.push p,g,ac,bc))
structure HiQ(lt:Keyed->Keyed->Bool)(a b:Array Keyed)(st:SortSt)(N:Nat)(Q:ForInStep HiT->SortSt->Prop):Prop where
 R:∀r na nb out g ac bc,Rs lt a b r->Q (.done (some r,na,nb,out,g,ac,bc)) st
 N:∀na nb out g ac bc,OutHL lt a b out na nb->1<=na->na<=a.size->2<=nb->nb<=b.size->na+nb<=N->Q (.done (none,na,nb,out,g,ac,bc)) st/\Q (.yield (none,na,nb,out,g,ac,bc)) st
def HiP(lt:Keyed->Keyed->Bool)(a b:Array Keyed)(st:SortSt)(x:Nat):ForInStep HiT->SortSt->Prop:=fun r st'=>match r with
 | .done c=>Like st st'/\((∃r na nb out g ac bc,c=(some r,na,nb,out,g,ac,bc)/\Rs lt a b r)\/∃na nb out g ac bc,c=(none,na,nb,out,g,ac,bc)/\OutHL lt a b out na nb/\1<=na/\na<=a.size/\2<=nb/\nb<=b.size/\na+nb+x+2<=a.size+b.size)
 | .yield c=>Like st st'/\∃na nb out g ac bc,c=(none,na,nb,out,g,ac,bc)/\OutHL lt a b out na nb/\1<=na/\na<=a.size/\2<=nb/\nb<=b.size/\na+nb+x+2<=a.size+b.size
section
variable{a b out:Array Keyed}{na nb g ac bc N:Nat}{Q:ForInStep HiT->SortSt->Prop}
theorem Zi9(SA:So lt a.toList)(SB:So lt b.toList)(q:HiQ lt a b st N Q)(ho:OutHL lt a b out na nb)(h1:1<=na)(h2:na<=a.size)(h3:2<=nb)(h4:nb<=b.size)(hN:na+nb<=N)(hp:∀p,a[na-1]?= some p->∀y∈b.toList.take nb,Le lt y p) :
  wpS (model prog w) A E s (hi3 a b na nb out g ac bc) Q st:=by
 unfold hi3;refine wpS_bind (Zy (by lia) fun p4 w4 e4=>?_);have o4:=ho.pushA SA h1 e4 (hp p4 e4);by_cases f1:(na-1 == 0)=true
 ·rw[if_pos f1];exact wpS_pure (q.R _ _ _ _ _ _ _ (o4.doneA SB f1))
 rw[if_neg f1];have n4 : ¬ na-1=0:=fun e=>f1 (by simp[e]);have z:=q.N _ _ _ g ac bc o4 (by lia) (by lia) h3 h4 (by lia);by_cases f2:(decide (ac<7)&&decide (bc<7))=true
 ·rw[if_pos f2];exact wpS_pure z.1
 ·rw[if_neg f2];exact wpS_pure z.2
theorem Zf2(o:Swo lt)(hc:ZfD prog w A s κ Ok lt)(hk:kindOf st= κ)(ha:∀p∈a.toList,Ok p)(hb:∀p∈b.toList,Ok p)(hb0:∀p,b[0]?= some p->∀y∈a.toList,Le lt p y)(SA:So lt a.toList)(SB:So lt b.toList)(q:HiQ lt a b st N Q)(ho:OutHL lt a b out na nb)(h1:1<=na)(h2:na<=a.size)(h3:2<=nb)(h4:nb<=b.size)(hN:na+nb<=N)(hp:∀p,b[nb-1]?= some p->∀y∈a.toList.take na,Le lt y p)
  {T:Keyed->Option Nat->StateT SortSt Sem (ForInStep HiT)} (hT:∀p k,T p (some k)=if nb-1-k > 0 then(if(k == 1)=true then pure (.done (some (b.extract 0 k++a.extract 0 na++(out.push p++(b.extract k (nb-1)).reverse).reverse),na,k,out.push p++(b.extract k (nb-1)).reverse,g,ac,nb-1-k))
     else if(k == 0)=true then pure (.done (some (a.extract 0 na++b.extract 0 k++(out.push p++(b.extract k (nb-1)).reverse).reverse),na,k,out.push p++(b.extract k (nb-1)).reverse,g,ac,nb-1-k))
     else hi3 a b na k (out.push p++(b.extract k (nb-1)).reverse) g ac (nb-1-k))
    else hi3 a b na (nb-1) (out.push p) g ac (nb-1-k)) :
  wpS (model prog w) A E s (elem' b (nb-1) >>= fun p=>if(nb-1 == 1)=true then pure (.done (some (b.extract 0 (nb-1)++a.extract 0 na++(out.push p).reverse),na,nb-1,out.push p,g,ac,bc))
   else elem' a (na-1) >>= fun q=>Ze4 true q b 0 (nb-1) (nb-1-1) >>= T p) Q st:=by
 refine wpS_bind (Zy (by lia) fun p3 w3 e3=>?_);have o2:=ho.pushB SB (by lia) e3 (hp p3 e3);by_cases c3:(nb-1 == 1)=true
 ·rw[if_pos c3];exact wpS_pure (q.R _ _ _ _ _ _ _ (o2.firstL SA SB hb0 c3))
 rw[if_neg c3];have n3 : ¬ nb-1=1:=fun e=>c3 (by simp[e]);refine wpS_bind (Zy (by lia) fun q3 v3 u3=>?_);refine wpS_bind (Zah o hc hk (ha q3 v3) hb (by lia) (by lia) (ZeP SB _ _) fun k2 hk2 G1 G2=>?_);rw[hT];by_cases k20:nb-1-k2 > 0
 ·rw[if_pos k20];have o3:=o2.extB SB (k:=k2) (by lia) (fun x hx=>Zek o SA (by lia) u3 (ZlE G2 x hx));by_cases c4:(k2 == 1)=true
  ·rw[if_pos c4];exact wpS_pure (q.R _ _ _ _ _ _ _ (o3.firstL SA SB hb0 c4))
  rw[if_neg c4];by_cases c5:(k2 == 0)=true
  ·rw[if_pos c5];exact wpS_pure (q.R _ _ _ _ _ _ _ (o3.doneB SA c5))
  rw[if_neg c5];have n5 : ¬ k2=1:=fun e=>c4 (by simp[e]);have n6 : ¬ k2=0:=fun e=>c5 (by simp[e]);exact Zi9 SA SB q o3 h1 h2 (by lia) (by lia) (by lia) fun p e=>by rw[Z4 e u3];exact Zi5 G1 o
 ·rw[if_neg k20];exact Zi9 SA SB q o2 h1 h2 (by lia) (by lia) (by lia) fun p e=>by rw[Z4 e u3];exact Zi5 (fun i hi=>G1 i (by lia)) o
end
set_option maxHeartbeats 2000000 in
theorem Zet{a b:Array Keyed}{Q:Array Keyed->SortSt->Prop}(o:Swo lt)(hc:ZfD prog w A s κ Ok lt)(hk:kindOf st= κ)(ha:∀p∈a.toList,Ok p)(hb:∀p∈b.toList,Ok p)(ha1:1<=a.size)(hb1:1<=b.size)(SA:So lt a.toList)(SB:So lt b.toList)(hb0:∀p,b[0]?= some p->∀y∈a.toList,Le lt p y)(LA:∀x∈b.toList,∀q,a[a.size-1]?= some q->Le lt x q)
  (h:∀r st',Like st st'->Rs lt a b r->Q r st'):wpS (model prog w) A E s (Zid a b) Q st:=by
 refine wpS_bind (wpS_lift (wpAny_rule ⟨rfl,?_⟩));refine wpS_bind (Zy (by lia) fun p hp he=>?_)
 try dsimp -zeta only
 have o0:OutHL lt a b #[p] (a.size-1) b.size:=Zku SA ha1 he LA;by_cases c1:(a.size-1 == 0)=true
 ·rw[if_pos c1];exact wpS_pure (h _ _ (Like.refl _) (o0.doneA SB c1))
 rw[if_neg c1];by_cases c2:(b.size == 1)=true
 ·rw[if_pos c2];exact wpS_pure (h _ _ (Like.refl _) (o0.firstL SA SB hb0 c2))
 rw[if_neg c2];have n1:1<b.size:=by
  have : ¬ b.size=1:=fun e=>c2 (by simp[e]);lia
 have n2:1<a.size:=by
  have : ¬ a.size-1=0:=fun e=>c1 (by simp[e]);lia
 refine wpS_bind (wpS_get ?_);refine wpS_bind (wpS_mono (wpS_forRange (I:=fun x c st'=>Like st st'/\∃na nb out g,c=(none,na,nb,out,g)/\OutHL lt a b out na nb/\1<=na/\na<=a.size/\2<=nb/\nb<=b.size/\na+nb+x+1<=a.size+b.size)
  (Q:=fun c st'=>Like st st'/\∃r na nb out g,c=(some r,na,nb,out,g)/\Rs lt a b r) ?_ ?_ ⟨Like.refl _,_,_,_,_,rfl,o0,by lia,by lia,by lia,by lia,by lia⟩) ?_)
 ·rintro x c st1 _ hx ⟨lk,na,nb,out,g,rfl,ho,h1,h2,h3,h4,hxx⟩
  try dsimp -zeta only
  refine wpS_bind (wpS_mono (wpS_forRange (I:=fun y c st'=>Like st st'/\∃na nb out ac bc,c=(none,na,nb,out,ac,bc)/\OutHL lt a b out na nb/\1<=na/\na<=a.size/\2<=nb/\nb<=b.size/\na+nb+x+1+(if y=0 then 0 else 1)<=a.size+b.size)
   (Q:=fun c st'=>Like st st'/\((∃r na nb out ac bc,c=(some r,na,nb,out,ac,bc)/\Rs lt a b r)\/∃na nb out ac bc,c=(none,na,nb,out,ac,bc)/\OutHL lt a b out na nb/\1<=na/\na<=a.size/\2<=nb/\nb<=b.size/\na+nb+x+2<=a.size+b.size)) ?_ ?_ ⟨lk,na,nb,out,0,0,rfl,ho,h1,h2,h3,h4,by simp;lia⟩) ?_)
  ·rintro y c st2 _ hy ⟨lk2,na,nb,out,ac,bc,rfl,ho,h1,h2,h3,h4,hxx⟩;have hxx2:na+nb+x+1<=a.size+b.size:=by split at hxx <;> lia
   try dsimp only
   refine wpS_bind (Zy (by lia) fun p hp ep=>?_);refine wpS_bind (Zy (by lia) fun q hq eq=>?_);refine wpS_bind (ZcP hc (lk2.kind.trans hk) (hb p hp) (ha q hq) ?_);cases hbw:lt p q with
   | true =>
    try dsimp only
    rw[if_pos rfl];refine wpS_bind (Zy (by lia) fun p2 hp2 ep2=>?_);have o1:=ho.pushA SA h1 ep2 (by rw[Z4 ep2 eq];exact Zek o SB (by lia) ep (o.le_of hbw));by_cases d1:(na-1 == 0)=true
    ·rw[if_pos d1];exact wpS_pure ⟨lk2,.inl ⟨_,_,_,_,_,_,rfl,(o1.doneA SB d1)⟩⟩
    rw[if_neg d1];have m1 : ¬ na-1=0:=fun e=>d1 (by simp[e]);by_cases d2:ac+1>=g
    ·rw[if_pos d2];exact wpS_pure ⟨lk2,.inr ⟨_,_,_,_,_,rfl,o1,by lia,by lia,h3,h4,by lia⟩⟩
    ·rw[if_neg d2];exact wpS_pure ⟨lk2,_,_,_,_,_,rfl,o1,by lia,by lia,h3,h4,by rw[if_neg (by lia)];lia⟩
   | false =>
    try dsimp only
    rw[if_neg Bool.false_ne_true];refine wpS_bind (Zy (by lia) fun p2 hp2 ep2=>?_);have o1:=ho.pushB SB (by lia) ep2 (by rw[Z4 ep2 ep];exact Zek o SA h1 eq hbw);by_cases d1:(nb-1 == 1)=true
    ·rw[if_pos d1];exact wpS_pure ⟨lk2,.inl ⟨_,_,_,_,_,_,rfl,(o1.firstL SA SB hb0 d1)⟩⟩
    rw[if_neg d1];have m1 : ¬ nb-1=1:=fun e=>d1 (by simp[e]);by_cases d2:bc+1>=g
    ·rw[if_pos d2];exact wpS_pure ⟨lk2,.inr ⟨_,_,_,_,_,rfl,o1,h1,h2,by lia,by lia,by lia⟩⟩
    ·rw[if_neg d2];exact wpS_pure ⟨lk2,_,_,_,_,_,rfl,o1,h1,h2,by lia,by lia,by rw[if_neg (by lia)];lia⟩
  ·rintro c st2 ⟨lk2,na,nb,out,ac,bc,rfl,ho,h1,h2,h3,h4,hxx⟩;refine⟨lk2,.inr ⟨_,_,_,_,_,rfl,ho,h1,h2,h3,h4,?_⟩⟩;rw[if_neg (by lia)] at hxx;lia
  ·rintro c st2 ⟨lk2,⟨r,na,nb,out,ac,bc,rfl,hr⟩|⟨na,nb,out,ac,bc,rfl,ho,h1,h2,h3,h4,hxx⟩⟩
   ·exact wpS_pure ⟨lk2,_,_,_,_,_,rfl,hr⟩
   try dsimp -zeta only
   refine wpS_bind (wpS_lift (wpAny_rule ⟨rfl,?_⟩))
   try dsimp -zeta only
   refine wpS_bind (wpS_mono (wpS_forRange (I:=fun y c st'=>Like st st'/\∃na nb out g ac bc,c=(none,na,nb,out,g,ac,bc)/\OutHL lt a b out na nb/\1<=na/\na<=a.size/\2<=nb/\nb<=b.size/\na+nb+x+2<=a.size+b.size)
    (Q:=fun c st'=>Like st st'/\((∃r na nb out g ac bc,c=(some r,na,nb,out,g,ac,bc)/\Rs lt a b r)\/∃na nb out g ac bc,c=(none,na,nb,out,g,ac,bc)/\OutHL lt a b out na nb/\1<=na/\na<=a.size/\2<=nb/\nb<=b.size/\na+nb+x+2<=a.size+b.size)) ?_ ?_ ⟨lk2,na,nb,out,_,_,_,rfl,ho,h1,h2,h3,h4,hxx⟩) ?_)
   ·rintro y c st3 _ hy ⟨lk3,na,nb,out,g3,ac,bc,rfl,ho,h1,h2,h3,h4,hxx⟩
    try dsimp only
    refine wpS_mono (Q:=HiP lt a b st x) ?_ (fun r st' h=>by cases r <;> exact h)
    have hiq:∀{st4},Like st st4->HiQ lt a b st4 (na+nb) (HiP lt a b st x):=fun lk4=>⟨fun r na nb out g ac bc hr=>⟨lk4,.inl ⟨r,na,nb,out,g,ac,bc,rfl,hr⟩⟩,fun na nb out g ac bc ho h1 h2 h3 h4 hN=>⟨⟨lk4,.inr ⟨na,nb,out,g,ac,bc,rfl,ho,h1,h2,h3,h4,by lia⟩⟩,⟨lk4,na,nb,out,g,ac,bc,rfl,ho,h1,h2,h3,h4,by lia⟩⟩⟩;by_cases g1:g3 > 1
    ·rw[if_pos g1];refine wpS_bind (wpS_modify ?_);have lk4:=lk3.trans (ZaC st3 (g3-1));refine wpS_bind (Zy (by lia) fun p0 w0 e0=>?_);refine wpS_bind (Zah o hc (lk4.kind.trans hk) (hb p0 w0) ha (by lia) (by lia) (ZeP SA _ _) fun k hk1 F1 F2=>?_);dsimp only;by_cases k0:na-k > 0
     ·rw[if_pos k0];have o1:=ho.extA SA (k:=k) (by lia) (fun x hx=>Zek o SB (by lia) e0 (ZkJ F2 o x hx));by_cases c1:(k == 0)=true
      ·rw[if_pos c1];exact wpS_pure ⟨lk4,.inl ⟨_,_,_,_,_,_,_,rfl,(o1.doneA SB c1)⟩⟩
      rw[if_neg c1];have n1 : ¬ k=0:=fun e=>c1 (by simp[e]);refine Zf2 o hc (lk4.kind.trans hk) ha hb hb0 SA SB (N:=na+nb) (hiq lk4) o1 (by lia) (by lia) h3 h4 (by lia) (fun p e=>by rw[Z4 e e0];exact ZfW F1) ?_;exact fun _ _=>rfl
     ·rw[if_neg k0];refine Zf2 o hc (lk4.kind.trans hk) ha hb hb0 SA SB (N:=na+nb) (hiq lk4) ho h1 h2 h3 h4 (Nat.le_refl _) (fun p e=>by rw[Z4 e e0];exact ZfW fun i hi=>F1 i (by lia)) ?_;exact fun _ _=>rfl
    ·rw[if_neg g1];refine wpS_bind (wpS_modify ?_);have lk4:=lk3.trans (ZaC st3 g3);refine wpS_bind (Zy (by lia) fun p0 w0 e0=>?_);refine wpS_bind (Zah o hc (lk4.kind.trans hk) (hb p0 w0) ha (by lia) (by lia) (ZeP SA _ _) fun k hk1 F1 F2=>?_);dsimp only;by_cases k0:na-k > 0
     ·rw[if_pos k0];have o1:=ho.extA SA (k:=k) (by lia) (fun x hx=>Zek o SB (by lia) e0 (ZkJ F2 o x hx));by_cases c1:(k == 0)=true
      ·rw[if_pos c1];exact wpS_pure ⟨lk4,.inl ⟨_,_,_,_,_,_,_,rfl,(o1.doneA SB c1)⟩⟩
      rw[if_neg c1];have n1 : ¬ k=0:=fun e=>c1 (by simp[e]);refine Zf2 o hc (lk4.kind.trans hk) ha hb hb0 SA SB (N:=na+nb) (hiq lk4) o1 (by lia) (by lia) h3 h4 (by lia) (fun p e=>by rw[Z4 e e0];exact ZfW F1) ?_;exact fun _ _=>rfl
     ·rw[if_neg k0];refine Zf2 o hc (lk4.kind.trans hk) ha hb hb0 SA SB (N:=na+nb) (hiq lk4) ho h1 h2 h3 h4 (Nat.le_refl _) (fun p e=>by rw[Z4 e e0];exact ZfW fun i hi=>F1 i (by lia)) ?_;exact fun _ _=>rfl
   ·rintro c st3 ⟨lk3,na,nb,out,g3,ac,bc,rfl,ho,h1,h2,h3,h4,hxx⟩;exact⟨lk3,.inr ⟨_,_,_,_,_,_,rfl,ho,h1,h2,h3,h4,hxx⟩⟩
   ·rintro c st3 ⟨lk3,⟨r,na,nb,out,g3,ac,bc,rfl,hr⟩|⟨na,nb,out,g3,ac,bc,rfl,ho,h1,h2,h3,h4,hxx⟩⟩
    ·exact wpS_pure ⟨lk3,_,_,_,_,_,rfl,hr⟩
    ·try dsimp only
     refine wpS_bind (wpS_modify ?_);exact wpS_pure ⟨lk3.trans (ZaC _ _),_,_,_,_,rfl,ho,h1,h2,h3,h4,by lia⟩
 ·rintro c st1 ⟨lk,na,nb,out,g,rfl,ho,h1,h2,h3,h4,hx⟩;exfalso;lia
 ·rintro c st1 ⟨lk,r,na,nb,out,g,rfl,hr⟩;exact wpS_pure (h r st1 lk hr)
end
structure Pl(lo hi:Nat)(st st':SortSt):Prop where
 pm:Pm st st'
 out:∀i,i<lo\/hi<=i->(arrOf st')[i]?= (arrOf st)[i]?
theorem Pl.refl(lo hi:Nat)(st:SortSt):Pl lo hi st st:=⟨Pm.refl _,fun _ _=>rfl⟩
theorem Pl.trans{lo hi:Nat}{a b c:SortSt}(x:Pl lo hi a b)(y:Pl lo hi b c):Pl lo hi a c:=⟨x.pm.trans y.pm,fun i h=>(y.out i h).trans (x.out i h)⟩
theorem Pl.mirror{lo hi i j:Nat}(st:SortSt)(h1:lo<=i)(h2:j<=hi)(hj:j<=(arrOf st).size):Pl lo hi st (setArr st (mirror (arrOf st) i j ((j-i) / 2))):=⟨Pm.mirror st i j,fun k hk=>by
 show(PyProof.Rows.mirror (arrOf st) i j ((j-i) / 2))[k]?= _;rw[getElem?_mirror_all hj,if_neg (by lia)]⟩
theorem Pl.bubble{lo hi src dst:Nat}(st:SortSt)(h1:lo<=dst)(h2:dst<=src)(h3:src<hi)(hs:src<(arrOf st).size):Pl lo hi st (setArr st (bubble (arrOf st) src (src-dst))):=⟨Pm.bubble st src dst,fun k hk=>by
 show(PyProof.Rows.bubble (arrOf st) src (src-dst))[k]?= _;rw[getElem?_bubble hs _ (by lia),if_neg (by lia),if_neg (by lia)]⟩
section
variable{lt:Keyed->Keyed->Bool}{arr:Array Keyed}{lo hi m:Nat}{p q:Keyed}
def Dn(lt:Keyed->Keyed->Bool)(arr:Array Keyed)(i j:Nat):Prop := ∀x y p q,i<=x->x<y->y<j->arr[x]?= some p->arr[y]?= some q->Le lt q p
def Eqv(lt:Keyed->Keyed->Bool)(arr:Array Keyed)(i j:Nat):Prop := ∀x y p q,i<=x->x<j->i<=y->y<j->arr[x]?= some p->arr[y]?= some q->Le lt p q
theorem Zi7:Up lt arr lo (lo+1):=fun x y _ _ h1 h2 h3=>by lia
theorem Zkq:Dn lt arr lo (lo+1):=fun x y _ _ h1 h2 h3=>by lia
theorem Up.ext(o:Swo lt)(h:Up lt arr lo m)(hm:lo<m)(hp:arr[m-1]?= some p)(hq:arr[m]?= some q)(hle:Le lt p q):Up lt arr lo (m+1):=fun x y u v h1 h2 h3 eu ev=>by
 by_cases hy:y<m
 ·exact h x y u v h1 h2 hy eu ev
 obtain rfl:y=m:=by lia
 rw[hq] at ev;cases ev;by_cases hx:x=y-1
 ·rw[hx,hp] at eu;cases eu;exact hle
 ·exact o.le_trans (h x (y-1) u p h1 (by lia) (by lia) eu hp) hle
theorem Dn.ext(o:Swo lt)(h:Dn lt arr lo m)(hm:lo<m)(hp:arr[m-1]?= some p)(hq:arr[m]?= some q)(hle:Le lt q p):Dn lt arr lo (m+1):=fun x y u v h1 h2 h3 eu ev=>by
 by_cases hy:y<m
 ·exact h x y u v h1 h2 hy eu ev
 obtain rfl:y=m:=by lia
 rw[hq] at ev;cases ev;by_cases hx:x=y-1
 ·rw[hx,hp] at eu;cases eu;exact hle
 ·exact o.le_trans hle (h x (y-1) u p h1 (by lia) (by lia) eu hp)
theorem Dn.mirror(h:Dn lt arr lo hi)(hs:hi<=arr.size):Up lt (mirror arr lo hi ((hi-lo) / 2)) lo hi:=fun x y u v h1 h2 h3 eu ev=>by
 rw[getElem?_mirror_all hs,if_pos (by lia)] at eu ev;exact h (lo+hi-1-y) (lo+hi-1-x) v u (by lia) (by lia) (by lia) ev eu
theorem Up.mirror(h:Up lt arr lo hi)(hs:hi<=arr.size):Dn lt (mirror arr lo hi ((hi-lo) / 2)) lo hi:=fun x y u v h1 h2 h3 eu ev=>by
 rw[getElem?_mirror_all hs,if_pos (by lia)] at eu ev;exact h (lo+hi-1-y) (lo+hi-1-x) v u (by lia) (by lia) (by lia) ev eu
theorem Dn.turn(h:Dn lt arr lo hi)(he:Eqv lt arr m hi)(hm:lo<=m)(hs:hi<=arr.size):Dn lt (PyProof.Rows.mirror arr m hi ((hi-m) / 2)) lo hi:=fun x y u v h1 h2 h3 eu ev=>by
 rw[getElem?_mirror_all hs] at eu ev;by_cases hy:m<=y/\y<hi
 ·rw[if_pos hy] at ev;by_cases hx:m<=x/\x<hi
  ·rw[if_pos hx] at eu;exact he _ _ _ _ (by lia) (by lia) (by lia) (by lia) ev eu
  ·rw[if_neg hx] at eu;exact h x (m+hi-1-y) u v h1 (by lia) (by lia) eu ev
 ·rw[if_neg hy] at ev;rw[if_neg (by lia)] at eu;exact h x y u v h1 h2 h3 eu ev
end
section
variable{prog:Program}{w:World}{A:Around}{E:Value->Shared->Prop}{s:Shared}{κ : SortKind}{Ok:Keyed->Prop}{st:SortSt}{lt:Keyed->Keyed->Bool}
theorem Zag{i j:Nat}{Q:Option Bool->SortSt->Prop}(hc:ZfD prog w A s κ Ok lt)(hk:kindOf st= κ)(ho:∀p∈(arrOf st).toList,Ok p)(hi:i<(arrOf st).size)(hj:j<(arrOf st).size)(h:∀p q,(arrOf st)[i]?= some p->(arrOf st)[j]?= some q->Q (some (lt p q)) st):wpS (model prog w) A E s (ltAt' i j) Q st:=by
 rw[ltAt'_eq];refine wpS_bind (wpS_get ?_);refine wpS_bind (Zy hi fun p hp e1=>wpS_bind (Zy hj fun q hq e2=>?_));exact ZcP hc hk (ho p hp) (ho q hq) (h p q e1 e2)
theorem ZaN{i j:Nat}{Q:PUnit->SortSt->Prop}(h:Q ⟨⟩ (setArr st (mirror (arrOf st) i j ((j-i) / 2)))):wpS (model prog w) A E s (reverseSlice' i j) Q st:=by
 rw[reverseSlice'_eq];exact wpS_modify h
theorem ZhA{i j:Nat}{Q:PUnit->SortSt->Prop}(h:Q ⟨⟩ (setArr st (bubble (arrOf st) i (i-j)))):wpS (model prog w) A E s (moveDown' i j) Q st:=by
 rw[moveDown'_eq];exact wpS_modify h
theorem Zkh(o:Swo lt){arr:Array Keyed}{lo k l:Nat}{pv:Keyed}(h:Up lt arr lo (lo+k))(hs:lo+k<arr.size)(hl:l<=k)(ep:arr[lo+k]?= some pv)(h1:∀i p,i<l->arr[lo+i]?= some p->Le lt p pv)(h2:∀i p,l<=i->i<k->arr[lo+i]?= some p->lt pv p=true) :
  Up lt (bubble arr (lo+k) (lo+k-(lo+l))) lo (lo+k+1):=fun x y u v a1 a2 a3 eu ev=>by
 rw[getElem?_bubble hs _ (by lia)] at eu ev;rw[show lo+k-(lo+k-(lo+l))=lo+l by lia] at eu ev;by_cases hy:y=lo+l
 ·rw[if_pos hy,ep] at ev;cases ev;rw[if_neg (by lia),if_neg (by lia)] at eu;exact h1 (x-lo) u (by lia) (by rw[show lo+(x-lo)=x by lia];exact eu)
 rw[if_neg hy] at ev;by_cases hx:x=lo+l
 ·rw[if_pos hx,ep] at eu;cases eu;rw[if_pos (by lia)] at ev;exact o.le_of (h2 (y-1-lo) v (by lia) (by lia) (by rw[show lo+(y-1-lo)=y-1 by lia];exact ev))
 rw[if_neg hx] at eu;by_cases hy2:lo+l<y/\y<=lo+k
 ·rw[if_pos hy2] at ev;by_cases hx2:lo+l<x/\x<=lo+k
  ·rw[if_pos hx2] at eu;exact h (x-1) (y-1) u v (by lia) (by lia) (by lia) eu ev
  ·rw[if_neg hx2] at eu;exact h x (y-1) u v (by lia) (by lia) (by lia) eu ev
 ·rw[if_neg hy2] at ev;rw[if_neg (by lia)] at eu;exact h x y u v (by lia) (by lia) (by lia) eu ev
set_option maxHeartbeats 1000000 in
theorem Ze0{lo n ok:Nat}{Q:Bool->SortSt->Prop}(o:Swo lt)(hc:ZfD prog w A s κ Ok lt)(hk:kindOf st= κ)(ho:∀p∈(arrOf st).toList,Ok p)(hn:lo+n<=(arrOf st).size)(hok:ok<=n)(hn1:1<=n)(hu:Up lt (arrOf st) lo (lo+ok))(h:∀st',Pl lo (lo+n) st st'->Up lt (arrOf st') lo (lo+n)->Q true st'):wpS (model prog w) A E s (binarySort' lo n ok) Q st:=by
 have hu0:Up lt (arrOf st) lo (lo+max ok 1):=by
  by_cases h0:ok=0
  ·rw[h0];exact Zi7
  ·rw[show max ok 1=ok by lia];exact hu
 refine wpS_bind (wpS_mono (wpS_forRange (I:=fun x c st'=>c=(none,())/\Pl lo (lo+n) st st'/\Up lt (arrOf st') lo (lo+x)) (Q:=fun c st'=>c=(none,())/\Pl lo (lo+n) st st'/\Up lt (arrOf st') lo (lo+n)) ?_ ?_ ⟨rfl,Pl.refl _ _ _,hu0⟩) ?_)
 ·rintro k c st1 hk1 hkn ⟨rfl,pl,u1⟩
  try dsimp only
  have hsz:=pl.pm.size;obtain⟨pv,epv⟩:∃pv,(arrOf st1)[lo+k]?= some pv:=⟨_,getElem?_pos _ (lo+k) (by lia)⟩;refine wpS_bind (wpS_mono (wpS_forRange (I:=fun y c st'=>st'=st1/\∃l r,c=(none,l,r)/\l<=r/\r<=k/\(∀i p,i<l->(arrOf st1)[lo+i]?= some p->Le lt p pv)/\(∀i p,r<=i->i<k->(arrOf st1)[lo+i]?= some p->lt pv p=true)/\r-l+y<=k)
   (Q:=fun c st'=>st'=st1/\∃l r,c=(none,l,r)/\l=r/\r<=k/\(∀i p,i<l->(arrOf st1)[lo+i]?= some p->Le lt p pv)/\(∀i p,r<=i->i<k->(arrOf st1)[lo+i]?= some p->lt pv p=true)) ?_ ?_ ⟨rfl,0,k,rfl,by lia,by lia,fun i p hi=>by lia,fun i p h1 h2=>by lia,by lia⟩) ?_)
  ·rintro y c st2 _ _ ⟨rfl,l,r,rfl,h1,h2,h3,h4,h5⟩
   try dsimp only
   by_cases hlr:l>=r
   ·rw[if_pos hlr];exact wpS_pure ⟨rfl,l,r,rfl,by lia,h2,h3,h4⟩
   rw[if_neg hlr];refine wpS_bind (Zag hc (pl.pm.kind.trans hk) (pl.pm.ok ho) (by lia) (by lia) fun p q e1 e2=>?_);rw[epv] at e1;cases e1;cases hb:lt pv q with
   | true =>
    refine wpS_pure ⟨rfl,_,_,rfl,by lia,by lia,h3,fun i p hi1 hi2 ei=>?_,by lia⟩;by_cases e:i=(l+r) / 2
    ·rw[e,e2] at ei;cases ei;exact hb
    ·exact o.lt_le hb (u1 _ _ q p (by lia) (show lo+(l+r) / 2<lo+i by lia) (by lia) e2 ei)
   | false =>
    refine wpS_pure ⟨rfl,_,_,rfl,by lia,by lia,fun i p hi1 ei=>?_,h4,by lia⟩;by_cases e:i=(l+r) / 2
    ·rw[e,e2] at ei;cases ei;exact hb
    ·exact o.le_trans (u1 _ _ p q (by lia) (show lo+i<lo+(l+r) / 2 by lia) (by lia) ei e2) hb
  ·rintro c st2 ⟨rfl,l,r,rfl,h1,h2,h3,h4,h5⟩;exact⟨rfl,l,r,rfl,by lia,h2,h3,h4⟩
  ·rintro c st2 ⟨rfl,l,r,rfl,rfl,h2,h3,h4⟩
   try dsimp only
   refine wpS_bind (ZhA ?_);exact wpS_pure ⟨rfl,pl.trans (Pl.bubble st2 (by lia) (by lia) (by lia) (by lia)),Zkh o u1 (by lia) h2 epv h3 h4⟩
 ·rintro c st1 ⟨rfl,pl,u1⟩;rw[show max (max ok 1) n=n by lia] at u1;exact⟨rfl,pl,u1⟩
 ·rintro c st1 ⟨rfl,pl,u1⟩;exact wpS_pure (h st1 pl u1)
set_option maxHeartbeats 4000000 in
theorem Zgu{lo nrem:Nat}{Q:Option Nat->SortSt->Prop}(o:Swo lt)(hc:ZfD prog w A s κ Ok lt)(hk:kindOf st= κ)(ho:∀p∈(arrOf st).toList,Ok p)(h1:1<=nrem)(hn:lo+nrem<=(arrOf st).size)(h:∀n st',1<=n->n<=nrem->Pl lo (lo+nrem) st st'->Up lt (arrOf st') lo (lo+n)->Q (some n) st'):wpS (model prog w) A E s (countRun' lo nrem) Q st:=by
 refine wpS_bind (wpS_mono (wpS_forRange (I:=fun x c st'=>st'=st/\∃n,c=(none,n)/\n=x/\Up lt (arrOf st) lo (lo+n)) (Q:=fun c st'=>st'=st/\∃n,c=(none,n)/\1<=n/\n<=nrem/\Up lt (arrOf st) lo (lo+n)/\(n=nrem\/∀p q,(arrOf st)[lo+n]?= some p->(arrOf st)[lo+n-1]?= some q->lt p q=true)) ?_ ?_ ⟨rfl,1,rfl,rfl,Zi7⟩) ?_)
 ·rintro x c st1 hx1 hx ⟨rfl,n,rfl,rfl,u1⟩
  try dsimp only
  refine wpS_bind (Zag hc hk ho (by lia) (by lia) fun p q e1 e2=>?_);cases hb:lt p q with
  | true=>exact wpS_pure ⟨rfl,n,rfl,by lia,by lia,u1,.inr fun p' q' f1 f2=>by rw[e1] at f1;rw[e2] at f2;cases f1;cases f2;exact hb⟩
  | false=>exact wpS_pure ⟨rfl,n+1,rfl,rfl,u1.ext (m:=lo+n) o (by lia) e2 e1 hb⟩
 ·rintro c st1 ⟨rfl,n,rfl,rfl,u1⟩;exact⟨rfl,_,rfl,by lia,by lia,u1,.inl (by lia)⟩
 ·rintro c st1 ⟨rfl,n,rfl,n1,n2,u1,hstop⟩
  try dsimp only
  by_cases e1:(n == nrem)=true
  ·rw[if_pos e1];exact wpS_pure (h n st1 n1 n2 (Pl.refl _ _ _) u1)
  rw[if_neg e1];have n3:n<nrem:=by
   have : ¬ n=nrem:=fun e=>e1 (by simp[e]);lia
  have hstop2:=hstop.resolve_left (by lia);obtain⟨pn,epn⟩:∃p,(arrOf st1)[lo+n]?= some p:=⟨_,getElem?_pos _ (lo+n) (by lia)⟩;obtain⟨pm,epm⟩:∃p,(arrOf st1)[lo+n-1]?= some p:=⟨_,getElem?_pos _ (lo+n-1) (by lia)⟩;have hless:=hstop2 pn pm epn epm;by_cases e2:n > 1
  ·rw[if_pos e2];refine wpS_bind (Zag hc hk ho (by lia) (by lia) fun p q f1 f2=>?_);cases hb:lt p q with
   | true =>
    try dsimp only
    rw[if_pos rfl];exact wpS_pure (h n st1 n1 n2 (Pl.refl _ _ _) u1)
   | false =>
    try dsimp only
    rw[if_neg Bool.false_ne_true];refine wpS_bind (ZaN ?_);have p2:=Pl.mirror (lo:=lo) (hi:=lo+nrem) (i:=lo) (j:=lo+n) st1 (by lia) (by lia) (by lia);have d2:Dn lt (arrOf (setArr st1 (mirror (arrOf st1) lo (lo+n) ((lo+n-lo) / 2)))) lo (lo+n):=u1.mirror (by lia);have d3:Dn lt (arrOf (setArr st1 (mirror (arrOf st1) lo (lo+n) ((lo+n-lo) / 2)))) lo (lo+(n+1)):=by
     refine d2.ext (m:=lo+n) o (by lia) (p:=p) (q:=pn) ?_ ?_ ?_
     ·show(mirror (arrOf st1) lo (lo+n) ((lo+n-lo) / 2))[lo+n-1]?= some p;rw[getElem?_mirror_all (by lia),if_pos (by lia),show lo+(lo+n)-1-(lo+n-1)=lo by lia];exact f1
     ·show(mirror (arrOf st1) lo (lo+n) ((lo+n-lo) / 2))[lo+n]?= some pn;rw[getElem?_mirror_all (by lia),if_neg (by lia)];exact epn
     ·rw[epm] at f2;cases f2;exact o.le_trans (o.le_of hless) hb
    generalize setArr st1 (mirror (arrOf st1) lo (lo+n) ((lo+n-lo) / 2))=st2 at p2 d3;refine wpS_bind (wpS_lift (wpAny_rule ⟨rfl,?_⟩));refine wpS_bind (wpS_mono (wpS_forRange (I:=fun x c st'=>Pl lo (lo+nrem) st1 st'/\∃n q,c=(none,n,q)/\n=x/\1<=n/\q+1<=n/\Dn lt (arrOf st') lo (lo+n)/\Eqv lt (arrOf st') (lo+n-(q+1)) (lo+n)) (Q:=fun c st'=>Pl lo (lo+nrem) st1 st'/\∃n q,c=(none,n,q)/\1<=n/\n<=nrem/\q+1<=n/\Dn lt (arrOf st') lo (lo+n)/\Eqv lt (arrOf st') (lo+n-(q+1)) (lo+n)) ?_ ?_ ⟨p2,n+1,0,rfl,rfl,by lia,by lia,d3,fun x y u v a1 a2 a3 a4 eu ev=>by obtain rfl:x=y:=(by lia);rw[eu] at ev;cases ev;exact o.le_refl _⟩) ?_)
    ·rintro x c st3 hx1 hx ⟨p3,n,q,rfl,rfl,m1,m2,d3,q3⟩;have z3:=p3.pm.size
     try dsimp only
     refine wpS_bind (Zag hc (p3.pm.kind.trans hk) (p3.pm.ok ho) (by lia) (by lia) fun p1 p0 e1 e0=>?_);cases hb:lt p1 p0 with
     | true =>
      try dsimp only
      rw[if_pos rfl];by_cases q0:q > 0
      ·rw[if_pos q0];refine wpS_bind (ZaN ?_);have p4:=Pl.mirror (lo:=lo) (hi:=lo+nrem) (i:=lo+n-(q+1)) (j:=lo+n) st3 (by lia) (by lia) (by lia);have d4:=d3.turn q3 (by lia) (by lia);refine wpS_pure ⟨p3.trans p4,n+1,0,rfl,rfl,by lia,by lia,?_,fun x y u v a1 a2 a3 a4 eu ev=>by obtain rfl:x=y:=(by lia);rw[eu] at ev;cases ev;exact o.le_refl _⟩;obtain⟨p5,e5⟩:∃p5,(arrOf (setArr st3 (mirror (arrOf st3) (lo+n-(q+1)) (lo+n) ((lo+n-(lo+n-(q+1))) / 2))))[lo+n-1]?= some p5:=⟨_,getElem?_pos _ (lo+n-1) (by show _<(mirror _ _ _ _).size;rw[mirror_size];lia)⟩;refine d4.ext (m:=lo+n) o (by lia) e5 (q:=p1) ?_ ?_
       ·show(mirror (arrOf st3) (lo+n-(q+1)) (lo+n) ((lo+n-(lo+n-(q+1))) / 2))[lo+n]?= some p1;rw[getElem?_mirror_all (by lia),if_neg (by lia)];exact e1
       ·have e6:(mirror (arrOf st3) (lo+n-(q+1)) (lo+n) ((lo+n-(lo+n-(q+1))) / 2))[lo+n-1]?= some p5:=e5;rw[getElem?_mirror_all (by lia),if_pos (by lia)] at e6;exact o.le_trans (o.le_of hb) (q3 _ _ p0 p5 (show lo+n-(q+1)<=lo+n-1 by lia) (by lia) (by lia) (by lia) e0 e6)
      ·rw[if_neg q0];exact wpS_pure ⟨p3,n+1,0,rfl,rfl,by lia,by lia,d3.ext (m:=lo+n) o (by lia) e0 e1 (o.le_of hb),fun x y u v a1 a2 a3 a4 eu ev=>by obtain rfl:x=y:=(by lia);rw[eu] at ev;cases ev;exact o.le_refl _⟩
     | false =>
      try dsimp only
      rw[if_neg Bool.false_ne_true];refine wpS_bind (Zag hc (p3.pm.kind.trans hk) (p3.pm.ok ho) (by lia) (by lia) fun p0' p1' e0' e1'=>?_);rw[e0] at e0';rw[e1] at e1';cases e0';cases e1';cases hb2:lt p0 p1 with
      | true=>exact wpS_pure ⟨p3,n,q,rfl,m1,by lia,m2,d3,q3⟩
      | false =>
       refine wpS_pure ⟨p3,n+1,q+1,rfl,rfl,by lia,by lia,d3.ext (m:=lo+n) o (by lia) e0 e1 hb2,fun x y u v a1 a2 a3 a4 eu ev=>?_⟩;have one:∀x u,lo+(n+1)-(q+1+1)<=x->x<lo+(n+1)->(arrOf st3)[x]?= some u->Le lt u p0/\Le lt p0 u:=fun x u a1 a2 eu=>by
        by_cases hx:x=lo+n
        ·rw[hx,e1] at eu;cases eu;exact⟨hb2,hb⟩
        ·exact⟨q3 x (lo+n-1) u p0 (by lia) (by lia) (by lia) (by lia) eu e0,q3 (lo+n-1) x p0 u (by lia) (by lia) (by lia) (by lia) e0 eu⟩
       exact o.le_trans (one x u a1 a2 eu).1 (one y v a3 a4 ev).2
    ·rintro c st3 ⟨p3,n',q,rfl,rfl,m1,m2,d3,q3⟩;exact⟨p3,_,q,rfl,m1,by lia,m2,d3,q3⟩
    ·rintro c st3 ⟨p3,n,q,rfl,m1,mn,m2,d3,q3⟩;have z3:=p3.pm.size
     try dsimp only
     by_cases q0:q > 0
     ·rw[if_pos q0];refine wpS_bind (ZaN ?_);have p4:=Pl.mirror (lo:=lo) (hi:=lo+nrem) (i:=lo+n-(q+1)) (j:=lo+n) st3 (by lia) (by lia) (by lia);have d4:=d3.turn q3 (by lia) (by lia);have z4:=p4.pm.size;generalize hst4:setArr st3 (mirror (arrOf st3) (lo+n-(q+1)) (lo+n) ((lo+n-(lo+n-(q+1))) / 2))=st4 at p4 z4;have d5:Dn lt (arrOf st4) lo (lo+n):=by rw[<- hst4];exact d4
      refine wpS_bind (ZaN ?_);have p6:=(p3.trans p4).trans (Pl.mirror (lo:=lo) (hi:=lo+nrem) (i:=lo) (j:=lo+n) st4 (by lia) (by lia) (by lia));have u6:Up lt (arrOf (setArr st4 (mirror (arrOf st4) lo (lo+n) ((lo+n-lo) / 2)))) lo (lo+n):=d5.mirror (by lia);have z6:=p6.pm.size;generalize setArr st4 (mirror (arrOf st4) lo (lo+n) ((lo+n-lo) / 2))=st5 at p6 u6 z6;refine wpS_bind (wpS_mono (wpS_forRange (I:=fun x c st'=>st'=st5/\∃k,c=(none,k)/\k=x/\Up lt (arrOf st5) lo (lo+k)) (Q:=fun c st'=>st'=st5/\∃k,c=(none,k)/\n<=k/\k<=nrem/\Up lt (arrOf st5) lo (lo+k)) ?_ ?_ ⟨rfl,n,rfl,rfl,u6⟩) ?_)
      ·rintro x c st7 hx1 hx2 ⟨rfl,k,rfl,rfl,u7⟩
       try dsimp only
       refine wpS_bind (Zag hc (p6.pm.kind.trans hk) (p6.pm.ok ho) (by lia) (by lia) fun p q e1 e2=>?_);cases hb:lt p q with
       | true=>exact wpS_pure ⟨rfl,k,rfl,by lia,by lia,u7⟩
       | false=>exact wpS_pure ⟨rfl,k+1,rfl,rfl,u7.ext (m:=lo+k) o (by lia) e2 e1 hb⟩
      ·rintro c st7 ⟨rfl,k,rfl,rfl,u7⟩;exact⟨rfl,max n nrem,rfl,by lia,by lia,u7⟩
      ·rintro c st7 ⟨rfl,k,rfl,k1,k2,u7⟩;exact wpS_pure (h k _ (by lia) k2 p6 u7)
     ·rw[if_neg q0];refine wpS_bind (ZaN ?_);have p6:=p3.trans (Pl.mirror (lo:=lo) (hi:=lo+nrem) (i:=lo) (j:=lo+n) st3 (by lia) (by lia) (by lia));have u6:Up lt (arrOf (setArr st3 (mirror (arrOf st3) lo (lo+n) ((lo+n-lo) / 2)))) lo (lo+n):=d3.mirror (by lia);have z6:=p6.pm.size;generalize setArr st3 (mirror (arrOf st3) lo (lo+n) ((lo+n-lo) / 2))=st5 at p6 u6 z6;refine wpS_bind (wpS_mono (wpS_forRange (I:=fun x c st'=>st'=st5/\∃k,c=(none,k)/\k=x/\Up lt (arrOf st5) lo (lo+k)) (Q:=fun c st'=>st'=st5/\∃k,c=(none,k)/\n<=k/\k<=nrem/\Up lt (arrOf st5) lo (lo+k)) ?_ ?_ ⟨rfl,n,rfl,rfl,u6⟩) ?_)
      ·rintro x c st7 hx1 hx2 ⟨rfl,k,rfl,rfl,u7⟩
       try dsimp only
       refine wpS_bind (Zag hc (p6.pm.kind.trans hk) (p6.pm.ok ho) (by lia) (by lia) fun p q e1 e2=>?_);cases hb:lt p q with
       | true=>exact wpS_pure ⟨rfl,k,rfl,by lia,by lia,u7⟩
       | false=>exact wpS_pure ⟨rfl,k+1,rfl,rfl,u7.ext (m:=lo+k) o (by lia) e2 e1 hb⟩
      ·rintro c st7 ⟨rfl,k,rfl,rfl,u7⟩;exact⟨rfl,max n nrem,rfl,by lia,by lia,u7⟩
      ·rintro c st7 ⟨rfl,k,rfl,k1,k2,u7⟩;exact wpS_pure (h k _ (by lia) k2 p6 u7)
  ·rw[if_neg e2];have p2:=Pl.refl lo (lo+nrem) st1;have d3:Dn lt (arrOf st1) lo (lo+(n+1)):=by
    obtain rfl:n=1:=by lia
    exact Zkq.ext (m:=lo+1) o (by lia) epm epn (o.le_of hless)
   refine wpS_bind (wpS_lift (wpAny_rule ⟨rfl,?_⟩));refine wpS_bind (wpS_mono (wpS_forRange (I:=fun x c st'=>Pl lo (lo+nrem) st1 st'/\∃n q,c=(none,n,q)/\n=x/\1<=n/\q+1<=n/\Dn lt (arrOf st') lo (lo+n)/\Eqv lt (arrOf st') (lo+n-(q+1)) (lo+n)) (Q:=fun c st'=>Pl lo (lo+nrem) st1 st'/\∃n q,c=(none,n,q)/\1<=n/\n<=nrem/\q+1<=n/\Dn lt (arrOf st') lo (lo+n)/\Eqv lt (arrOf st') (lo+n-(q+1)) (lo+n)) ?_ ?_ ⟨p2,n+1,0,rfl,rfl,by lia,by lia,d3,fun x y u v a1 a2 a3 a4 eu ev=>by obtain rfl:x=y:=(by lia);rw[eu] at ev;cases ev;exact o.le_refl _⟩) ?_)
   ·rintro x c st3 hx1 hx ⟨p3,n,q,rfl,rfl,m1,m2,d3,q3⟩;have z3:=p3.pm.size
    try dsimp only
    refine wpS_bind (Zag hc (p3.pm.kind.trans hk) (p3.pm.ok ho) (by lia) (by lia) fun p1 p0 e1 e0=>?_);cases hb:lt p1 p0 with
    | true =>
     try dsimp only
     rw[if_pos rfl];by_cases q0:q > 0
     ·rw[if_pos q0];refine wpS_bind (ZaN ?_);have p4:=Pl.mirror (lo:=lo) (hi:=lo+nrem) (i:=lo+n-(q+1)) (j:=lo+n) st3 (by lia) (by lia) (by lia);have d4:=d3.turn q3 (by lia) (by lia);refine wpS_pure ⟨p3.trans p4,n+1,0,rfl,rfl,by lia,by lia,?_,fun x y u v a1 a2 a3 a4 eu ev=>by obtain rfl:x=y:=(by lia);rw[eu] at ev;cases ev;exact o.le_refl _⟩;obtain⟨p5,e5⟩:∃p5,(arrOf (setArr st3 (mirror (arrOf st3) (lo+n-(q+1)) (lo+n) ((lo+n-(lo+n-(q+1))) / 2))))[lo+n-1]?= some p5:=⟨_,getElem?_pos _ (lo+n-1) (by show _<(mirror _ _ _ _).size;rw[mirror_size];lia)⟩;refine d4.ext (m:=lo+n) o (by lia) e5 (q:=p1) ?_ ?_
      ·show(mirror (arrOf st3) (lo+n-(q+1)) (lo+n) ((lo+n-(lo+n-(q+1))) / 2))[lo+n]?= some p1;rw[getElem?_mirror_all (by lia),if_neg (by lia)];exact e1
      ·have e6:(mirror (arrOf st3) (lo+n-(q+1)) (lo+n) ((lo+n-(lo+n-(q+1))) / 2))[lo+n-1]?= some p5:=e5;rw[getElem?_mirror_all (by lia),if_pos (by lia)] at e6;exact o.le_trans (o.le_of hb) (q3 _ _ p0 p5 (show lo+n-(q+1)<=lo+n-1 by lia) (by lia) (by lia) (by lia) e0 e6)
     ·rw[if_neg q0];exact wpS_pure ⟨p3,n+1,0,rfl,rfl,by lia,by lia,d3.ext (m:=lo+n) o (by lia) e0 e1 (o.le_of hb),fun x y u v a1 a2 a3 a4 eu ev=>by obtain rfl:x=y:=(by lia);rw[eu] at ev;cases ev;exact o.le_refl _⟩
    | false =>
     try dsimp only
     rw[if_neg Bool.false_ne_true];refine wpS_bind (Zag hc (p3.pm.kind.trans hk) (p3.pm.ok ho) (by lia) (by lia) fun p0' p1' e0' e1'=>?_);rw[e0] at e0';rw[e1] at e1';cases e0';cases e1';cases hb2:lt p0 p1 with
     | true=>exact wpS_pure ⟨p3,n,q,rfl,m1,by lia,m2,d3,q3⟩
     | false =>
      refine wpS_pure ⟨p3,n+1,q+1,rfl,rfl,by lia,by lia,d3.ext (m:=lo+n) o (by lia) e0 e1 hb2,fun x y u v a1 a2 a3 a4 eu ev=>?_⟩;have one:∀x u,lo+(n+1)-(q+1+1)<=x->x<lo+(n+1)->(arrOf st3)[x]?= some u->Le lt u p0/\Le lt p0 u:=fun x u a1 a2 eu=>by
       by_cases hx:x=lo+n
       ·rw[hx,e1] at eu;cases eu;exact⟨hb2,hb⟩
       ·exact⟨q3 x (lo+n-1) u p0 (by lia) (by lia) (by lia) (by lia) eu e0,q3 (lo+n-1) x p0 u (by lia) (by lia) (by lia) (by lia) e0 eu⟩
      exact o.le_trans (one x u a1 a2 eu).1 (one y v a3 a4 ev).2
   ·rintro c st3 ⟨p3,n',q,rfl,rfl,m1,m2,d3,q3⟩;exact⟨p3,_,q,rfl,m1,by lia,m2,d3,q3⟩
   ·rintro c st3 ⟨p3,n,q,rfl,m1,mn,m2,d3,q3⟩;have z3:=p3.pm.size
    try dsimp only
    by_cases q0:q > 0
    ·rw[if_pos q0];refine wpS_bind (ZaN ?_);have p4:=Pl.mirror (lo:=lo) (hi:=lo+nrem) (i:=lo+n-(q+1)) (j:=lo+n) st3 (by lia) (by lia) (by lia);have d4:=d3.turn q3 (by lia) (by lia);have z4:=p4.pm.size;generalize hst4:setArr st3 (mirror (arrOf st3) (lo+n-(q+1)) (lo+n) ((lo+n-(lo+n-(q+1))) / 2))=st4 at p4 z4;have d5:Dn lt (arrOf st4) lo (lo+n):=by rw[<- hst4];exact d4
     refine wpS_bind (ZaN ?_);have p6:=(p3.trans p4).trans (Pl.mirror (lo:=lo) (hi:=lo+nrem) (i:=lo) (j:=lo+n) st4 (by lia) (by lia) (by lia));have u6:Up lt (arrOf (setArr st4 (mirror (arrOf st4) lo (lo+n) ((lo+n-lo) / 2)))) lo (lo+n):=d5.mirror (by lia);have z6:=p6.pm.size;generalize setArr st4 (mirror (arrOf st4) lo (lo+n) ((lo+n-lo) / 2))=st5 at p6 u6 z6;refine wpS_bind (wpS_mono (wpS_forRange (I:=fun x c st'=>st'=st5/\∃k,c=(none,k)/\k=x/\Up lt (arrOf st5) lo (lo+k)) (Q:=fun c st'=>st'=st5/\∃k,c=(none,k)/\n<=k/\k<=nrem/\Up lt (arrOf st5) lo (lo+k)) ?_ ?_ ⟨rfl,n,rfl,rfl,u6⟩) ?_)
     ·rintro x c st7 hx1 hx2 ⟨rfl,k,rfl,rfl,u7⟩
      try dsimp only
      refine wpS_bind (Zag hc (p6.pm.kind.trans hk) (p6.pm.ok ho) (by lia) (by lia) fun p q e1 e2=>?_);cases hb:lt p q with
      | true=>exact wpS_pure ⟨rfl,k,rfl,by lia,by lia,u7⟩
      | false=>exact wpS_pure ⟨rfl,k+1,rfl,rfl,u7.ext (m:=lo+k) o (by lia) e2 e1 hb⟩
     ·rintro c st7 ⟨rfl,k,rfl,rfl,u7⟩;exact⟨rfl,max n nrem,rfl,by lia,by lia,u7⟩
     ·rintro c st7 ⟨rfl,k,rfl,k1,k2,u7⟩;exact wpS_pure (h k _ (by lia) k2 p6 u7)
    ·rw[if_neg q0];refine wpS_bind (ZaN ?_);have p6:=p3.trans (Pl.mirror (lo:=lo) (hi:=lo+nrem) (i:=lo) (j:=lo+n) st3 (by lia) (by lia) (by lia));have u6:Up lt (arrOf (setArr st3 (mirror (arrOf st3) lo (lo+n) ((lo+n-lo) / 2)))) lo (lo+n):=d3.mirror (by lia);have z6:=p6.pm.size;generalize setArr st3 (mirror (arrOf st3) lo (lo+n) ((lo+n-lo) / 2))=st5 at p6 u6 z6;refine wpS_bind (wpS_mono (wpS_forRange (I:=fun x c st'=>st'=st5/\∃k,c=(none,k)/\k=x/\Up lt (arrOf st5) lo (lo+k)) (Q:=fun c st'=>st'=st5/\∃k,c=(none,k)/\n<=k/\k<=nrem/\Up lt (arrOf st5) lo (lo+k)) ?_ ?_ ⟨rfl,n,rfl,rfl,u6⟩) ?_)
     ·rintro x c st7 hx1 hx2 ⟨rfl,k,rfl,rfl,u7⟩
      try dsimp only
      refine wpS_bind (Zag hc (p6.pm.kind.trans hk) (p6.pm.ok ho) (by lia) (by lia) fun p q e1 e2=>?_);cases hb:lt p q with
      | true=>exact wpS_pure ⟨rfl,k,rfl,by lia,by lia,u7⟩
      | false=>exact wpS_pure ⟨rfl,k+1,rfl,rfl,u7.ext (m:=lo+k) o (by lia) e2 e1 hb⟩
     ·rintro c st7 ⟨rfl,k,rfl,rfl,u7⟩;exact⟨rfl,max n nrem,rfl,by lia,by lia,u7⟩
     ·rintro c st7 ⟨rfl,k,rfl,k1,k2,u7⟩;exact wpS_pure (h k _ (by lia) k2 p6 u7)
end
theorem ZgY:∀{l:List (Nat×Nat×Nat)}{lo hi:Nat},Cov l lo hi->∀z∈l,lo<=z.1
 | [],_,_,_,z,hz=>(nomatch hz)
 | x::r,lo,hi,⟨a,b,c⟩,z,hz=>by
  rcases List.mem_cons.mp hz with rfl|hz
  ·lia
  ·have:=ZgY c z hz;lia
theorem Zje:∀{l:List (Nat×Nat×Nat)}{lo hi:Nat},Cov l lo hi->∀z∈l,z.1+z.2.1<=hi
 | [],_,_,_,z,hz=>(nomatch hz)
 | x::r,lo,hi,⟨a,b,c⟩,z,hz=>by
  rcases List.mem_cons.mp hz with rfl|hz
  ·have:=c.le;lia
  ·exact Zje c z hz
theorem Zdx:∀{l:List (Nat×Nat×Nat)}{i lo hi sa na p sb nb q:Nat},Cov l lo hi->l[i]?= some (sa,na,p)->l[i+1]?= some (sb,nb,q) ->
  ∀z∈(l.set i (sa,na+nb,p)).eraseIdx (i+1),z=(sa,na+nb,p)\/z∈l/\(z.1+z.2.1<=sa\/sb+nb<=z.1)
 | x::y::r,0,lo,hi,sa,na,p,sb,nb,q,⟨a,b,c1,c2,c3⟩,h1,h2,z,hz=>by
  have e1:x=(sa,na,p):=by simpa using h1
  have e2:y=(sb,nb,q):=by simpa using h2
  subst e1;subst e2;have hz':z∈(sa,na+nb,p)::r:=hz;rcases List.mem_cons.mp hz' with hz|hz
  ·exact .inl hz
  ·refine .inr ⟨List.mem_cons_of_mem _ (List.mem_cons_of_mem _ hz),.inr ?_⟩;have:=ZgY c3 z hz;have c1':sb=lo+na:=c1;have this':lo+na+nb<=z.1:=this;lia
 | x::r,i+1,lo,hi,sa,na,p,sb,nb,q,⟨a,b,c⟩,h1,h2,z,hz=>by
  have h1':r[i]?= some (sa,na,p):=by simpa using h1
  have hz':z∈x::((r.set i (sa,na+nb,p)).eraseIdx (i+1)):=hz;rcases List.mem_cons.mp hz' with rfl|hz
  ·refine .inr ⟨List.mem_cons_self ..,.inl ?_⟩;have:=ZgY c _ (List.mem_of_getElem? h1');have this':lo+z.2.1<=sa:=this;lia
  ·rcases Zdx (l:=r) (i:=i) c h1' (by simpa using h2) z hz with h|⟨h,h'⟩
   ·exact .inl h
   ·exact .inr ⟨List.mem_cons_of_mem _ h,h'⟩
 | [x],0,_,_,_,_,_,_,_,_,_,_,h2,_,_=>by simp at h2
 | [],_,_,_,_,_,_,_,_,_,_,h1,_,_,_=>by simp at h1
theorem ZgH{L r:List Keyed}{m:Nat}(h:m+r.length<=L.length)(x:Nat):(L.take m++r++L.drop (m+r.length))[x]?= if x<m then L[x]? else if x<m+r.length then r[x-m]? else L[x]? := by
 have hm:(L.take m).length=m:=by rw[List.length_take];lia
 by_cases h1:x<m
 ·rw[if_pos h1,List.append_assoc,List.getElem?_append_left (by lia),List.getElem?_take_of_lt h1]
 rw[if_neg h1];by_cases h2:x<m+r.length
 ·rw[if_pos h2,List.getElem?_append_left (by rw[List.length_append];lia),List.getElem?_append_right (by lia),hm]
 ·rw[if_neg h2,List.getElem?_append_right (by rw[List.length_append];lia),List.getElem?_drop,List.length_append,hm]
  congr 1
  lia
section
variable{lt:Keyed->Keyed->Bool}{κ : SortKind}
structure SBL(lt:Keyed->Keyed->Bool)(a₀ : Array Keyed)(κ : SortKind)(hi:Nat)(st:SortSt):Prop where
 sb:SB a₀ κ hi st
 ups:∀z∈(pendingOf st).toList,Up lt (arrOf st) z.1 (z.1+z.2.1)
theorem Up.same{arr arr':Array Keyed}{i j:Nat}(h:Up lt arr i j)(e:∀x,i<=x->x<j->arr'[x]?= arr[x]?):Up lt arr' i j:=fun x y p q h1 h2 h3 ep eq=>by
 rw[e x (by lia) (by lia)] at ep;rw[e y (by lia) (by lia)] at eq;exact h x y p q h1 h2 h3 ep eq
theorem SBL.pl{a₀ : Array Keyed}{hi hi':Nat}{st st':SortSt}(x:SBL lt a₀ κ hi st)(p:Pl hi hi' st st'):SBL lt a₀ κ hi st':=⟨x.sb.pm p.pm,fun z hz=>by
 rw[p.pm.pend] at hz;have h1:=Zje x.sb.cov z hz;exact(x.ups z hz).same fun i _ h=>p.out i (.inl (by lia))⟩
end
section
variable{prog:Program}{w:World}{A:Around}{E:Value->Shared->Prop}{s:Shared}{κ : SortKind}{Ok:Keyed->Prop}{st:SortSt}{lt:Keyed->Keyed->Bool}
set_option maxHeartbeats 4000000 in
theorem Zbk{a₀ : Array Keyed}{hi i:Nat}{Q:Bool->SortSt->Prop}(o:Swo lt)(hc:ZfD prog w A s κ Ok lt)(h0:∀p∈a₀.toList,Ok p)(hL:SBL lt a₀ κ hi st)(hh:hi<=a₀.size)(hi1:i+1<(pendingOf st).size)
  (h:∀st',SBL lt a₀ κ hi st'->(∀x,hi<=x->(arrOf st')[x]?= (arrOf st)[x]?)->(pendingOf st').size+1=(pendingOf st).size->Q true st'):wpS (model prog w) A E s (mergeAt' i) Q st:=by
 have hB:=hL.sb;refine wpS_bind (wpS_get ?_);obtain⟨⟨sa,na,p⟩,e1⟩:∃x,(pendingOf st)[i]?= some x:=⟨_,getElem?_pos _ i (by lia)⟩;obtain⟨⟨sb,nb,q⟩,e2⟩:∃x,(pendingOf st)[i+1]?= some x:=⟨_,getElem?_pos _ (i+1) hi1⟩;obtain⟨k1,k2,k3,k4,k5⟩:=hB.cov.at (i:=i) (by rw[<- e1];simp) (by rw[<- e2];simp);have e3:((pendingOf st)[i]?,(pendingOf st)[i+1]?)=(some (sa,na,p),some (sb,nb,q)):=by rw[e1,e2]
 have hsz:=hB.size;have l1:(pendingOf st).toList[i]?= some (sa,na,p):=by rw[<- e1];simp
 have l2:(pendingOf st).toList[i+1]?= some (sb,nb,q):=by rw[<- e2];simp
 have ua:Up lt (arrOf st) sa (sa+na):=hL.ups _ (List.mem_of_getElem? l1);have ub:Up lt (arrOf st) sb (sb+nb):=hL.ups _ (List.mem_of_getElem? l2);have oth:=Zdx hB.cov l1 l2;show wpS _ _ _ _ (match ((pendingOf st)[i]?,(pendingOf st)[i+1]?) with|(some (sa,na,power),some (sb,nb,_))=>_|_=>_) Q st
 rw[e1,e2];dsimp only;have hpl:(((pendingOf st).setIfInBounds i (sa,na+nb,p)).eraseIdxIfInBounds (i+1)).toList=((pendingOf st).toList.set i (sa,na+nb,p)).eraseIdx (i+1):=by
  simp
 have hps:((((pendingOf st).setIfInBounds i (sa,na+nb,p)).eraseIdxIfInBounds (i+1)).size+1=(pendingOf st).size):=by
  have:=congrArg List.length hpl;rw[Array.length_toList,List.length_eraseIdx,List.length_set,Array.length_toList,if_pos hi1] at this;lia
 have hB1:SB a₀ κ hi (SortSt.mk' (kindOf st) (arrOf st) (((pendingOf st).setIfInBounds i (sa,na+nb,p)).eraseIdxIfInBounds (i+1)) (gallopOf st) (failedOf st)):=⟨hB.arr,hB.kind,hB.fail,by
  show Cov (((pendingOf st).setIfInBounds i (sa,na+nb,p)).eraseIdxIfInBounds (i+1)).toList 0 hi;rw[hpl];exact k5⟩
 have hok:=hB.ok h0;have fin:∀st':SortSt,SB a₀ κ hi st'->(pendingOf st').toList=((pendingOf st).toList.set i (sa,na+nb,p)).eraseIdx (i+1)->(∀x,x<sa\/sb+nb<=x->(arrOf st')[x]?= (arrOf st)[x]?)->Up lt (arrOf st') sa (sa+(na+nb))->SBL lt a₀ κ hi st':=fun st' hB' hp he hu=>⟨hB',fun z hz=>by
  rw[hp] at hz;rcases oth z hz with rfl|⟨hz,hd⟩
  ·exact hu
  ·exact(hL.ups z hz).same fun x h1 h2=>he x (by lia)⟩
 have exm:∀(arr:Array Keyed)(x y:Nat){p:Keyed},p∈(arr.extract x y).toList->p∈arr.toList:=fun arr x y p hp=>by
  rw[Array.toList_extract,List.extract_eq_drop_take] at hp;exact List.mem_of_mem_drop (List.mem_of_mem_take hp)
 refine wpS_bind (Zjw ?_);refine wpS_bind (Zy (arr:=arrOf st) (by lia) fun p1 m1 ep1=>?_);refine wpS_bind (Zah (a:=arrOf st) o hc hB1.kind (hok p1 m1) hok (by lia) (by lia) ua fun k hk F1 F2=>?_);dsimp only;have low1:∀i u,i<k->(arrOf st)[sa+i]?= some u->Le lt u p1:=fun i u hi eu=>by
  have h3:=F1 i hi;unfold BV at h3;rw[eu] at h3;have h4:(!lt p1 u)=true:=h3;show lt p1 u=false
  simpa using h4
 have hig1:∀i u,k<=i->i<na->(arrOf st)[sa+i]?= some u->Le lt p1 u:=fun i u h1 h2 eu=>by
  have h3:=F2 i h1 h2;unfold BV at h3;rw[eu] at h3;have h4:(!lt p1 u)=false:=h3;exact o.le_of (by simpa using h4)
 have p1le:∀y v,sb<=y->y<sb+nb->(arrOf st)[y]?= some v->Le lt p1 v:=fun y v h1 h2 ev=>by
  by_cases e:y=sb
  ·rw[e,ep1] at ev;cases ev;exact o.le_refl _
  ·exact ub sb y p1 v (by lia) (by lia) h2 ep1 ev
 by_cases c1:(na-k == 0)=true
 ·rw[if_pos c1];have ek:k=na:=by
   have:=eq_of_beq c1;lia
  refine wpS_pure (h _ (fin _ hB1 hpl (fun _ _=>rfl) ?_) (fun _ _=>rfl) hps);intro x y u v a1 a2 a3 eu ev;have eu':(arrOf st)[x]?= some u:=eu;have ev':(arrOf st)[y]?= some v:=ev;by_cases hy:y<sb
  ·exact ua x y u v a1 a2 (by lia) eu' ev'
  by_cases hx:sb<=x
  ·exact ub x y u v hx a2 (by lia) eu' ev'
  exact o.le_trans (low1 (x-sa) u (by lia) (by rw[show sa+(x-sa)=x by lia];exact eu')) (p1le y v (by lia) (by lia) ev')
 rw[if_neg c1];have n1 : ¬ na-k=0:=fun e=>c1 (by simp[e]);refine wpS_bind (Zy (arr:=arrOf st) (by lia) fun p2 m2 ep2=>?_);refine wpS_bind (Zah (a:=arrOf st) o hc hB1.kind (hok p2 m2) hok (by lia) (by lia) ub fun nb' hnb G1 G2=>?_);dsimp only;have ep2':(arrOf st)[sb-1]?= some p2:=by
  rw[<- ep2]
  congr 1
  lia
 have lep2:∀x u,sa<=x->x<sb->(arrOf st)[x]?= some u->Le lt u p2:=fun x u h1 h2 eu=>by
  by_cases e:x=sb-1
  ·rw[e,ep2'] at eu;cases eu;exact o.le_refl _
  ·exact ua x (sb-1) u p2 h1 (by lia) (by lia) eu ep2'
 have low2:∀i u,i<nb'->(arrOf st)[sb+i]?= some u->Le lt u p2:=fun i u hi eu=>by
  have h3:=G1 i hi;unfold BV at h3;rw[eu] at h3;exact o.le_of h3
 have hig2:∀i u,nb'<=i->i<nb->(arrOf st)[sb+i]?= some u->Le lt p2 u:=fun i u h1 h2 eu=>by
  have h3:=G2 i h1 h2;unfold BV at h3;rw[eu] at h3;exact h3
 by_cases c2:(nb' == 0)=true
 ·rw[if_pos c2];have ek:nb'=0:=eq_of_beq c2;refine wpS_pure (h _ (fin _ hB1 hpl (fun _ _=>rfl) ?_) (fun _ _=>rfl) hps);intro x y u v a1 a2 a3 eu ev;have eu':(arrOf st)[x]?= some u:=eu;have ev':(arrOf st)[y]?= some v:=ev;by_cases hy:y<sb
  ·exact ua x y u v a1 a2 (by lia) eu' ev'
  by_cases hx:sb<=x
  ·exact ub x y u v hx a2 (by lia) eu' ev'
  exact o.le_trans (lep2 x u a1 (by lia) eu') (hig2 (y-sb) v (by lia) (by lia) (by rw[show sb+(y-sb)=y by lia];exact ev'))
 rw[if_neg c2];have n2 : ¬ nb'=0:=fun e=>c2 (by simp[e]);have xs:((arrOf st).extract (sa+k) sb).size=na-k:=by
  rw[Array.size_extract];lia
 have ys:((arrOf st).extract sb (sb+nb')).size=nb':=by
  rw[Array.size_extract];lia
 have SX:So lt ((arrOf st).extract (sa+k) sb).toList:=List.pairwise_iff_getElem.mpr fun x y hx hy hxy=>by
  rw[Array.length_toList] at hx hy;have ex:((arrOf st).extract (sa+k) sb)[x]?= (arrOf st)[sa+k+x]? := by rw[Array.getElem?_extract,if_pos (by lia)]
  have ey:((arrOf st).extract (sa+k) sb)[y]?= (arrOf st)[sa+k+y]? := by rw[Array.getElem?_extract,if_pos (by lia)]
  rw[<- Array.getElem?_toList,List.getElem?_eq_getElem (by rw[Array.length_toList];exact hx)] at ex;rw[<- Array.getElem?_toList,List.getElem?_eq_getElem (by rw[Array.length_toList];exact hy)] at ey;exact ua _ _ _ _ (by lia) (show sa+k+x<sa+k+y by lia) (by lia) ex.symm ey.symm
 have SY:So lt ((arrOf st).extract sb (sb+nb')).toList:=List.pairwise_iff_getElem.mpr fun x y hx hy hxy=>by
  rw[Array.length_toList] at hx hy;have ex:((arrOf st).extract sb (sb+nb'))[x]?= (arrOf st)[sb+x]? := by rw[Array.getElem?_extract,if_pos (by lia)]
  have ey:((arrOf st).extract sb (sb+nb'))[y]?= (arrOf st)[sb+y]? := by rw[Array.getElem?_extract,if_pos (by lia)]
  rw[<- Array.getElem?_toList,List.getElem?_eq_getElem (by rw[Array.length_toList];exact hx)] at ex;rw[<- Array.getElem?_toList,List.getElem?_eq_getElem (by rw[Array.length_toList];exact hy)] at ey;exact ub _ _ _ _ (by lia) (show sb+x<sb+y by lia) (by lia) ex.symm ey.symm
 have HB0:∀p,((arrOf st).extract sb (sb+nb'))[0]?= some p->∀y∈((arrOf st).extract (sa+k) sb).toList,Le lt p y:=fun p ep y hy=>by
  rw[Array.getElem?_extract,if_pos (by lia),Nat.add_zero,ep1] at ep;cases ep;obtain⟨m,h1,h2,e⟩:=Zbj hy;exact hig1 (m-sa) y (by lia) (by lia) (by rw[show sa+(m-sa)=m by lia];exact e)
 have HLA:∀x∈((arrOf st).extract sb (sb+nb')).toList,∀q,((arrOf st).extract (sa+k) sb)[((arrOf st).extract (sa+k) sb).size-1]?= some q->Le lt x q:=fun x hx q eq=>by
  rw[xs,Array.getElem?_extract,if_pos (by lia),show sa+k+(na-k-1)=sb-1 by lia,ep2'] at eq;cases eq;obtain⟨m,h1,h2,e⟩:=Zbj hx;exact low2 (m-sb) x (by lia) (by rw[show sb+(m-sb)=m by lia];exact e)
 have whole:∀(r:Array Keyed)(arr':Array Keyed),Rs lt ((arrOf st).extract (sa+k) sb) ((arrOf st).extract sb (sb+nb')) r->r.toList.length=(na-k)+nb'->arr'.toList=(arrOf st).toList.take (sa+k)++r.toList++(arrOf st).toList.drop (sa+k+r.toList.length) ->
   (∀x,x<sa\/sb+nb<=x->arr'[x]?= (arrOf st)[x]?)/\Up lt arr' sa (sa+(na+nb)):=fun r arr' hr hrl ha=>by
  have get:∀x,arr'[x]?= if x<sa+k then(arrOf st)[x]? else if x<sa+k+r.toList.length then r.toList[x-(sa+k)]? else(arrOf st)[x]? := fun x=>by
   rw[<- Array.getElem?_toList,ha,ZgH (by have hll:(arrOf st).toList.length=(arrOf st).size:=Array.length_toList;lia),Array.getElem?_toList]
  have inr:∀u,u∈r.toList->(∃m,sa+k<=m/\m<sb/\(arrOf st)[m]?= some u)\/∃m,sb<=m/\m<sb+nb'/\(arrOf st)[m]?= some u:=fun u hu=>by
   rcases List.mem_append.mp (hr.perm.mem_iff.mp hu) with hu|hu
   ·exact .inl (Zbj hu)
   ·exact .inr (Zbj hu)
  refine⟨fun x hx=>?_,fun x y u v a1 a2 a3 eu ev=>?_⟩
  ·rw[get];by_cases h1:x<sa+k
   ·rw[if_pos h1]
   ·rw[if_neg h1,if_neg (by lia)]
  rw[get] at eu ev;by_cases hx1:x<sa+k
  ·rw[if_pos hx1] at eu;have hu1:=low1 (x-sa) u (by lia) (by rw[show sa+(x-sa)=x by lia];exact eu);by_cases hy1:y<sa+k
   ·rw[if_pos hy1] at ev;exact ua x y u v a1 a2 (by lia) eu ev
   rw[if_neg hy1] at ev;by_cases hy2:y<sa+k+r.toList.length
   ·rw[if_pos hy2] at ev;rcases inr v (List.mem_of_getElem? ev) with⟨m,b1,b2,e⟩|⟨m,b1,b2,e⟩
    ·exact ua x m u v a1 (by lia) (by lia) eu e
    ·exact o.le_trans hu1 (p1le m v b1 (by lia) e)
   ·rw[if_neg hy2] at ev;exact o.le_trans hu1 (p1le y v (by lia) (by lia) ev)
  rw[if_neg hx1] at eu;rw[if_neg (by lia)] at ev;by_cases hx2:x<sa+k+r.toList.length
  ·rw[if_pos hx2] at eu;by_cases hy2:y<sa+k+r.toList.length
   ·rw[if_pos hy2] at ev;obtain⟨hx3,rfl⟩:=List.getElem?_eq_some_iff.mp eu;obtain⟨hy3,rfl⟩:=List.getElem?_eq_some_iff.mp ev;exact(List.pairwise_iff_getElem.mp hr.sort) _ _ hx3 hy3 (by lia)
   ·rw[if_neg hy2] at ev;rcases inr u (List.mem_of_getElem? eu) with⟨m,b1,b2,e⟩|⟨m,b1,b2,e⟩
    ·exact o.le_trans (lep2 m u (by lia) b2 e) (hig2 (y-sb) v (by lia) (by lia) (by rw[show sb+(y-sb)=y by lia];exact ev))
    ·exact ub m y u v b1 (by lia) (by lia) e ev
  ·rw[if_neg hx2] at eu;rw[if_neg (by lia)] at ev;exact ub x y u v (by lia) a2 (by lia) eu ev
 by_cases c3:na-k<=nb'
 ·rw[if_pos c3];refine wpS_bind (Zel (a:=(arrOf st).extract (sa+k) sb) (b:=(arrOf st).extract sb (sb+nb')) o hc hB1.kind (fun p hp=>hok p (exm _ _ _ hp)) (fun p hp=>hok p (exm _ _ _ hp)) (by rw[xs];lia) (by rw[ys];lia) SX SY HB0 HLA fun r st2 lk hr=>?_);refine wpS_bind (wpS_modify ?_);refine wpS_bind (wpS_get ?_);have hf:failedOf st2=none:=lk.fail.trans hB.fail;have hr2:r.toList.Perm (((arrOf st).toList.drop (sa+k)).take ((na-k)+nb')):=by
   refine hr.perm.trans (List.Perm.of_eq ?_);rw[Array.toList_extract,Array.toList_extract,Zi2 _ (by lia) (by lia)]
   congr 1
   lia
  have hrl:r.toList.length=(na-k)+nb':=by
   rw[hr2.length_eq,List.length_take,List.length_drop,Array.length_toList];lia
  show wpS _ _ _ _ (pure (failedOf st2).isNone) Q _;rw[hf];have hnew:(List.foldl (fun(a:Array Keyed)(x:Keyed×Nat)=>a.setIfInBounds (sa+k+x.2) x.1) (arrOf st2) r.toList.zipIdx).toList=(arrOf st).toList.take (sa+k)++r.toList++(arrOf st).toList.drop (sa+k+r.toList.length):=by
   rw[lk.arr,ZhG _ _ _ (by show sa+k+r.toList.length<=(arrOf st).size;lia)]
  obtain⟨w1,w2⟩:=whole r _ hr hrl hnew;refine wpS_pure (h _ (fin _ ⟨?_,lk.kind.trans hB.kind,hf,?_⟩ (by show(pendingOf st2).toList=_;rw[lk.pend];exact hpl) w1 w2) (fun x hx=>w1 x (.inr (by lia))) ?_)
  ·show(List.foldl (fun(a:Array Keyed)(x:Keyed×Nat)=>a.setIfInBounds (sa+k+x.2) x.1) (arrOf st2) r.toList.zipIdx).toList.Perm a₀.toList;rw[hnew];exact(ZfA hr2 hrl).trans hB.arr
  ·show Cov (pendingOf st2).toList 0 hi;rw[lk.pend];exact hB1.cov
  ·show(pendingOf st2).size+1=_;rw[lk.pend];exact hps
 ·rw[if_neg c3];refine wpS_bind (Zet (a:=(arrOf st).extract (sa+k) sb) (b:=(arrOf st).extract sb (sb+nb')) o hc hB1.kind (fun p hp=>hok p (exm _ _ _ hp)) (fun p hp=>hok p (exm _ _ _ hp)) (by rw[xs];lia) (by rw[ys];lia) SX SY HB0 HLA fun r st2 lk hr=>?_);refine wpS_bind (wpS_modify ?_);refine wpS_bind (wpS_get ?_);have hf:failedOf st2=none:=lk.fail.trans hB.fail;have hr2:r.toList.Perm (((arrOf st).toList.drop (sa+k)).take ((na-k)+nb')):=by
   refine hr.perm.trans (List.Perm.of_eq ?_);rw[Array.toList_extract,Array.toList_extract,Zi2 _ (by lia) (by lia)]
   congr 1
   lia
  have hrl:r.toList.length=(na-k)+nb':=by
   rw[hr2.length_eq,List.length_take,List.length_drop,Array.length_toList];lia
  show wpS _ _ _ _ (pure (failedOf st2).isNone) Q _;rw[hf];have hnew:(List.foldl (fun(a:Array Keyed)(x:Keyed×Nat)=>a.setIfInBounds (sa+k+x.2) x.1) (arrOf st2) r.toList.zipIdx).toList=(arrOf st).toList.take (sa+k)++r.toList++(arrOf st).toList.drop (sa+k+r.toList.length):=by
   rw[lk.arr,ZhG _ _ _ (by show sa+k+r.toList.length<=(arrOf st).size;lia)]
  obtain⟨w1,w2⟩:=whole r _ hr hrl hnew;refine wpS_pure (h _ (fin _ ⟨?_,lk.kind.trans hB.kind,hf,?_⟩ (by show(pendingOf st2).toList=_;rw[lk.pend];exact hpl) w1 w2) (fun x hx=>w1 x (.inr (by lia))) ?_)
  ·show(List.foldl (fun(a:Array Keyed)(x:Keyed×Nat)=>a.setIfInBounds (sa+k+x.2) x.1) (arrOf st2) r.toList.zipIdx).toList.Perm a₀.toList;rw[hnew];exact(ZfA hr2 hrl).trans hB.arr
  ·show Cov (pendingOf st2).toList 0 hi;rw[lk.pend];exact hB1.cov
  ·show(pendingOf st2).size+1=_;rw[lk.pend];exact hps
end
section
variable{prog:Program}{w:World}{A:Around}{E:Value->Shared->Prop}{s:Shared}{κ : SortKind}{Ok:Keyed->Prop}{st:SortSt}{lt:Keyed->Keyed->Bool}
set_option maxHeartbeats 4000000 in
theorem Zea{a₀ : Array Keyed}{Q:Unit->SortSt->Prop}(o:Swo lt)(hc:ZfD prog w A s κ Ok lt)(h0:∀p∈a₀.toList,Ok p)(hB:SBL lt a₀ κ 0 st)(h:∀st',(arrOf st').toList.Perm a₀.toList->So lt (arrOf st').toList->failedOf st'=none->Q () st'):wpS (model prog w) A E s sortRuns' Q st:=by
 refine wpS_bind (wpS_get ?_);have hsz:=hB.sb.size;show wpS _ _ _ _ (forIn [:(arrOf st).size] _ _ >>= _) Q st;rw[hsz];refine wpS_bind (wpS_mono (wpS_forRange (I:=fun x c st'=>∃lo,c=(none,lo)/\lo<=a₀.size/\SBL lt a₀ κ lo st'/\x<=lo) (Q:=fun c st'=>∃lo,c=(none,lo)/\lo=a₀.size/\SBL lt a₀ κ lo st') ?_ (fun c st' ⟨lo,z1,z2,z3,z4⟩=>⟨lo,z1,by lia,z3⟩) ⟨0,rfl,Nat.zero_le _,hB,Nat.le_refl _⟩) ?_)
 ·rintro x c st1 _ hx ⟨lo,rfl,hlo,hB1,hxl⟩
  try dsimp only
  by_cases c1:lo>=a₀.size
  ·rw[if_pos c1];exact wpS_pure ⟨lo,rfl,by lia,hB1⟩
  rw[if_neg c1];have hs1:=hB1.sb.size;refine wpS_bind (Zgu o hc hB1.sb.kind (hB1.sb.ok h0) (by lia) (by lia) fun n st2 n1 n2 p2 u2=>?_);have hB2:=hB1.pl p2;have hs2:=hB2.sb.size
  try dsimp only
  show wpS _ _ _ _ (if n<minRun' a₀.size a₀.size 0 then _ else _) _ st2
  by_cases c2:n<minRun' a₀.size a₀.size 0
  ·rw[if_pos c2];refine wpS_bind (wpS_lift (wpAny_rule ⟨rfl,?_⟩));refine wpS_bind (Ze0 o hc hB2.sb.kind (hB2.sb.ok h0) (by show lo+min (a₀.size-lo) (minRun' a₀.size a₀.size 0)<=_;lia) (by show n<=min (a₀.size-lo) (minRun' a₀.size a₀.size 0);lia) (by show 1<=min (a₀.size-lo) (minRun' a₀.size a₀.size 0);lia) u2 fun st3 p3 u3=>?_);rw[if_neg (by decide)];have hB3:=hB2.pl p3;have u3':Up lt (arrOf st3) lo (lo+min (a₀.size-lo) (minRun' a₀.size a₀.size 0)):=u3;have hN:1<=min (a₀.size-lo) (minRun' a₀.size a₀.size 0):=by lia
   refine wpS_bind (wpS_get ?_);cases hb:(pendingOf st3).back? with
   | none =>
    dsimp only;refine wpS_bind (wpS_modify ?_);refine wpS_pure ⟨lo+min (a₀.size-lo) (minRun' a₀.size a₀.size 0),rfl,by lia,⟨⟨hB3.sb.arr,hB3.sb.kind,hB3.sb.fail,?_⟩,fun z hz=>?_⟩,by lia⟩
    ·show Cov ((pendingOf st3).push (lo,min (a₀.size-lo) (minRun' a₀.size a₀.size 0),0)).toList 0 (lo+min (a₀.size-lo) (minRun' a₀.size a₀.size 0));rw[Array.toList_push];exact hB3.sb.cov.push hN
    ·have hz':z∈((pendingOf st3).push (lo,min (a₀.size-lo) (minRun' a₀.size a₀.size 0),0)).toList:=hz;rw[Array.toList_push] at hz';rcases List.mem_append.mp hz' with hz'|hz'
     ·exact hB3.ups z hz'
     ·rw[List.mem_singleton.mp hz'];exact u3'
   | some t =>
    obtain⟨s1,n1,q⟩:=t;dsimp only;refine wpS_bind (wpS_mono (wpS_forRange (I:=fun _ c st'=>c=(none,())/\SBL lt a₀ κ lo st'/\∀x,lo<=x->(arrOf st')[x]?= (arrOf st3)[x]?) (Q:=fun c st'=>c=(none,())/\SBL lt a₀ κ lo st'/\∀x,lo<=x->(arrOf st')[x]?= (arrOf st3)[x]?) ?_ (fun _ _ z=>z) ⟨rfl,hB3,fun _ _=>rfl⟩) ?_)
    ·rintro y c st4 _ _ ⟨rfl,hB4,hO4⟩;refine wpS_bind (wpS_get ?_);by_cases g1:(pendingOf st4).size > 1
     ·rw[if_pos g1];obtain⟨⟨a1,a2,older⟩,e⟩:∃x,(pendingOf st4)[(pendingOf st4).size-2]?= some x:=⟨_,getElem?_pos _ _ (by lia)⟩;rw[e];dsimp only
      split
      ·exact wpS_pure ⟨rfl,hB4,hO4⟩
      ·refine wpS_bind (Zbk o hc h0 hB4 hlo (by show(pendingOf st4).size-2+1<(pendingOf st4).size;lia) fun st5 hB5 hO5 _=>?_);rw[if_neg (by decide)];exact wpS_pure ⟨rfl,hB5,fun x hx=>(hO5 x hx).trans (hO4 x hx)⟩
     ·rw[if_neg g1];exact wpS_pure ⟨rfl,hB4,hO4⟩
    ·rintro c st4 ⟨rfl,hB4,hO4⟩;dsimp only;refine wpS_bind (wpS_modify ?_);refine wpS_bind (wpS_modify ?_);refine wpS_pure ⟨lo+min (a₀.size-lo) (minRun' a₀.size a₀.size 0),rfl,by lia,⟨⟨hB4.sb.arr,hB4.sb.kind,hB4.sb.fail,?_⟩,fun z hz=>?_⟩,by lia⟩
     ·show Cov (Array.push ((pendingOf st4).modify _ _) (lo,min (a₀.size-lo) (minRun' a₀.size a₀.size 0),0)).toList 0 (lo+min (a₀.size-lo) (minRun' a₀.size a₀.size 0));rw[Array.toList_push,Array.toList_modify];refine Cov.push ?_ hN;refine Cov.last _ (fun x=>?_) _ hB4.sb.cov;exact⟨rfl,rfl⟩
     ·change z∈(Array.push ((pendingOf st4).modify _ _) (lo,min (a₀.size-lo) (minRun' a₀.size a₀.size 0),0)).toList at hz;rw[Array.toList_push,Array.toList_modify] at hz;rcases List.mem_append.mp hz with hz|hz
      ·obtain⟨i,hi⟩:=List.mem_iff_getElem?.mp hz;rw[List.getElem?_modify] at hi;obtain⟨z0,hz0,rfl⟩:=Option.map_eq_some_iff.mp hi;have h1:=hB4.ups z0 (List.mem_of_getElem? hz0)
       split
       ·exact h1
       ·exact h1
      ·rw[List.mem_singleton.mp hz];exact u3'.same fun x h1 _=>hO4 x h1
  ·rw[if_neg c2];have hB3:=hB2;have hN:=n1;have u3':=u2;refine wpS_bind (wpS_get ?_);cases hb:(pendingOf st2).back? with
   | none =>
    dsimp only;refine wpS_bind (wpS_modify ?_);refine wpS_pure ⟨lo+n,rfl,by lia,⟨⟨hB3.sb.arr,hB3.sb.kind,hB3.sb.fail,?_⟩,fun z hz=>?_⟩,by lia⟩
    ·show Cov ((pendingOf st2).push (lo,n,0)).toList 0 (lo+n);rw[Array.toList_push];exact hB3.sb.cov.push hN
    ·have hz':z∈((pendingOf st2).push (lo,n,0)).toList:=hz;rw[Array.toList_push] at hz';rcases List.mem_append.mp hz' with hz'|hz'
     ·exact hB3.ups z hz'
     ·rw[List.mem_singleton.mp hz'];exact u3'
   | some t =>
    obtain⟨s1,n1,q⟩:=t;dsimp only;refine wpS_bind (wpS_mono (wpS_forRange (I:=fun _ c st'=>c=(none,())/\SBL lt a₀ κ lo st'/\∀x,lo<=x->(arrOf st')[x]?= (arrOf st2)[x]?) (Q:=fun c st'=>c=(none,())/\SBL lt a₀ κ lo st'/\∀x,lo<=x->(arrOf st')[x]?= (arrOf st2)[x]?) ?_ (fun _ _ z=>z) ⟨rfl,hB3,fun _ _=>rfl⟩) ?_)
    ·rintro y c st4 _ _ ⟨rfl,hB4,hO4⟩;refine wpS_bind (wpS_get ?_);by_cases g1:(pendingOf st4).size > 1
     ·rw[if_pos g1];obtain⟨⟨a1,a2,older⟩,e⟩:∃x,(pendingOf st4)[(pendingOf st4).size-2]?= some x:=⟨_,getElem?_pos _ _ (by lia)⟩;rw[e];dsimp only
      split
      ·exact wpS_pure ⟨rfl,hB4,hO4⟩
      ·refine wpS_bind (Zbk o hc h0 hB4 hlo (by show(pendingOf st4).size-2+1<(pendingOf st4).size;lia) fun st5 hB5 hO5 _=>?_);rw[if_neg (by decide)];exact wpS_pure ⟨rfl,hB5,fun x hx=>(hO5 x hx).trans (hO4 x hx)⟩
     ·rw[if_neg g1];exact wpS_pure ⟨rfl,hB4,hO4⟩
    ·rintro c st4 ⟨rfl,hB4,hO4⟩;dsimp only;refine wpS_bind (wpS_modify ?_);refine wpS_bind (wpS_modify ?_);refine wpS_pure ⟨lo+n,rfl,by lia,⟨⟨hB4.sb.arr,hB4.sb.kind,hB4.sb.fail,?_⟩,fun z hz=>?_⟩,by lia⟩
     ·show Cov (Array.push ((pendingOf st4).modify _ _) (lo,n,0)).toList 0 (lo+n);rw[Array.toList_push,Array.toList_modify];refine Cov.push ?_ hN;refine Cov.last _ (fun x=>?_) _ hB4.sb.cov;exact⟨rfl,rfl⟩
     ·change z∈(Array.push ((pendingOf st4).modify _ _) (lo,n,0)).toList at hz;rw[Array.toList_push,Array.toList_modify] at hz;rcases List.mem_append.mp hz with hz|hz
      ·obtain⟨i,hi⟩:=List.mem_iff_getElem?.mp hz;rw[List.getElem?_modify] at hi;obtain⟨z0,hz0,rfl⟩:=Option.map_eq_some_iff.mp hi;have h1:=hB4.ups z0 (List.mem_of_getElem? hz0)
       split
       ·exact h1
       ·exact h1
      ·rw[List.mem_singleton.mp hz];exact u3'.same fun x h1 _=>hO4 x h1
 ·rintro c st1 ⟨lo,rfl,rfl,hB1⟩
  try dsimp only
  refine wpS_bind (wpS_mono (wpS_forRange (I:=fun x c st'=>c=(none,())/\SBL lt a₀ κ a₀.size st'/\(pendingOf st').size+x<=a₀.size+1) (Q:=fun c st'=>c=(none,())/\SBL lt a₀ κ a₀.size st'/\(pendingOf st').size<=1) ?_ (fun c st' ⟨z1,z2,z3⟩=>⟨z1,z2,by lia⟩) ⟨rfl,hB1,by have:=hB1.sb.cov.le;rw[Array.length_toList] at this;lia⟩) ?_)
  ·rintro x c st2 _ _ ⟨rfl,hB2,hp2⟩
   try dsimp only
   refine wpS_bind (wpS_get ?_)
   try dsimp only
   by_cases c2:(pendingOf st2).size<=1
   ·rw[if_pos c2];exact wpS_pure ⟨rfl,hB2,c2⟩
   ·rw[if_neg c2];have hx:∀b:Bool,(if b=true then(pendingOf st2).size-2-1 else(pendingOf st2).size-2)+1<(pendingOf st2).size:=fun b=>by
     cases b
     ·rw[if_neg Bool.false_ne_true];lia
     ·rw[if_pos rfl];lia
    refine wpS_bind (Zbk o hc h0 hB2 (Nat.le_refl _) (hx _) fun st3 hB3 _ hs3=>?_);rw[if_neg (by decide)];exact wpS_pure ⟨rfl,hB3,by lia⟩
  ·rintro c st2 ⟨rfl,hB2,hp2⟩;refine wpS_pure (h st2 hB2.sb.arr ?_ hB2.sb.fail);have hz2:=hB2.sb.size;have hcov:=hB2.sb.cov;have hups:=hB2.ups;have hpl:(pendingOf st2).toList.length<=1:=by rw[Array.length_toList];exact hp2
   match hl:(pendingOf st2).toList,hpl with
   | [],_ =>
    rw[hl] at hcov;have h0:0=a₀.size:=hcov;refine ZkS (n:=0) (fun x y _ _ _ _ h3=>by lia) (by lia)
   | [z],_ =>
    rw[hl] at hcov hups;obtain⟨z1,z2,z3⟩:=hcov;have z3':0+z.2.1=a₀.size:=z3;have hu:=hups z (List.mem_singleton.mpr rfl);rw[z1,z3'] at hu;exact ZkS hu (by lia)
end
end Srd
namespace Srd
open PySem PyProof.Rows Srt PySem.W
section
variable{prog:Program}{w:World}{A:Around}{E:Value->Shared->Prop}{s:Shared}
def Zbi(prog:Program)(w:World)(A:Around)(lv:Value->Value->Bool)(vs:List Value)(s:Shared):Prop :=
 ∃ κ,(∀(Q:SortKind->Shared->Prop)(E:Value->Shared->Prop),Q κ s->wpAny (model prog w) A (keyKind' vs.toArray) Q E s)/\ZfD prog w A s κ (fun p=>p∈(pairsOf vs).toList) fun x y=>lv x.1 y.1
theorem ZcZ{vs:List Value}{p:Keyed}(h:p∈(pairsOf vs).toList):p.1=p.2:=by
 rw[pairsOf_toList] at h;obtain⟨i,hi⟩:=List.mem_iff_getElem?.mp h;rw[List.getElem?_zip_eq_some] at hi;have:=hi.1.symm.trans hi.2;exact Option.some.inj this
theorem ZiB{lt:Keyed->Keyed->Bool}{vs:List Value}(h:vs.length<2):So lt (pairsOf vs).toList:=List.pairwise_iff_getElem.mpr fun i j hi hj hij=>by
 rw[Array.length_toList,pairsOf_size] at hi hj;lia
theorem ZhP{lv:Value->Value->Bool}{vs:List Value}{xs:Array Keyed}(hp:xs.toList.Perm (pairsOf vs).toList)(h:So (fun x y=>lv x.1 y.1) xs.toList):(xs.map (·.2)).toList.Pairwise (fun u v=>lv v u=false):=by
 rw[Array.toList_map,List.pairwise_map];refine List.Pairwise.imp_of_mem (fun{x y} hx hy hxy=>?_) h;have hxy':lv y.1 x.1=false:=hxy;rw[ZcZ (hp.mem_iff.mp hx),ZcZ (hp.mem_iff.mp hy)] at hxy';exact hxy'
theorem ZeX{lv:Value->Value->Bool}(o:Swo fun x y=>lv x.1 y.1){a:Addr}{vs:List Value}{n:Nat}{P:Fin->Shared->Prop}(ho:s.heap.get? a=some (seqObj "list" vs.toArray n)) (hlen:vs.length<=90000)
  (hc:∀h6:Heap,(∀b o,b≠a->s.heap.get? b=some o->h6.get? b=some o)->2<=vs.length->Zbi prog w A lv vs { s with heap:=h6 })
  (h:∀out:Array Value,out.toList.Perm vs->out.toList.Pairwise (fun u v=>lv v u=false)->P (.done (.ret .none)) { s with heap:=sortedHeap s.heap a vs out }):wpAny (model prog w) A (Builtin.«list.sort» ⟨[.ref a],[]⟩) P E s:=by
 have hv:vs.toArray.size<=sizeLine:=by rw[List.size_toArray,sizeLine_eq];lia
 have ha:a<s.heap.objs.size:=Heap.lt_size ho;obtain⟨e1,ho1⟩:∃e1,(s.heap.update a (Obj.mapSeq fun _=>#[])).get? a=some (seqObj "list" #[] e1):=⟨_,get?_update_seq ho (fun _=>#[])⟩;rw[list_sort_plain];refine wpAny_bind (listItems_at ho rfl (wpAny_bind (listUpdate_at ho rfl (wpAny_bind (seqEpoch_at ho1 rfl (wpAny_bind (wpAny_newTuple (wpAny_bind (wpAny_newList (wpAny_holding ?_)))))))  hv (Nat.zero_le _))));have nT:a≠(s.heap.update a (Obj.mapSeq fun _=>#[])).objs.size:=by rw[Heap.size_update];exact Nat.ne_of_lt ha
 have nL:a≠((s.heap.update a (Obj.mapSeq fun _=>#[])).push (seqObj "tuple" vs.toArray 0)).objs.size:=by rw[size_push',Heap.size_update];exact Nat.ne_of_lt (Nat.lt_succ_of_lt ha)
 have ho6:(((s.heap.update a (Obj.mapSeq fun _=>#[])).push (seqObj "tuple" vs.toArray 0)).push (seqObj "list" #[] 0)).get? a=some (seqObj "list" #[] e1):=by
  rw[Heap.get?_push_ne _ _ _ nL,Heap.get?_push_ne _ _ _ nT];exact ho1
 have hkeep:∀b o,b≠a->s.heap.get? b=some o->(((s.heap.update a (Obj.mapSeq fun _=>#[])).push (seqObj "tuple" vs.toArray 0)).push (seqObj "list" #[] 0)).get? b=some o:=fun b o hb e=>by
  refine Heap.get?_push_of_some _ (Heap.get?_push_of_some _ ?_);rw[Heap.get?_update_other _ _ hb.symm];exact e
 show wpAny (model prog w) A _ P E { s with heap:=((s.heap.update a (Obj.mapSeq fun _=>#[])).push (seqObj "tuple" vs.toArray 0)).push (seqObj "list" #[] 0) };dsimp only;by_cases h2:vs.toArray.size<2
 ·rw[if_pos h2,if_pos h2];refine wpAny_bind (wpAny_pure ?_);rw[StateT.run_pure];refine wpAny_bind (wpAny_pure (wpAny_bind (seqEpoch_at ho6 rfl (wpAny_bind (listUpdate_at ho6 rfl ?_ (Nat.zero_le _) ?_)))))
  ·simp only[bne_self_eq_false,Bool.false_eq_true,if_false];exact wpAny_pure (h _ (Zex (xs:=pairsOf vs) (List.Perm.refl _)) (ZhP (xs:=pairsOf vs) (List.Perm.refl _) (ZiB (by rw[List.size_toArray] at h2;exact h2))))
  ·show((pairsOf vs).map (·.2)).size<=_;rw[Array.size_map,pairsOf_size,sizeLine_eq];lia
 ·rw[if_neg h2,if_neg h2];rw[List.size_toArray] at h2;obtain⟨κ,hkk,hcm⟩:=hc _ hkeep (by lia);refine wpAny_bind (hkk _ _ ?_);refine wpAny_bind (wpAny_mono (Zea (a₀ := pairsOf vs) (Q:=fun _ st'=>(arrOf st').toList.Perm (pairsOf vs).toList/\So (fun x y=>lv x.1 y.1) (arrOf st').toList/\failedOf st'=none) o hcm (fun p hp=>hp) ⟨⟨List.Perm.refl _,rfl,rfl,rfl⟩,fun z hz=>(nomatch hz)⟩ fun st' a1 a3 a2=>⟨a1,a3,a2⟩) ?_ fun _ _ e=>e)
  rintro⟨⟨⟩,st'⟩ s' ⟨rfl,hp,hso,hf⟩;dsimp only;refine wpAny_bind (seqEpoch_at ho6 rfl (wpAny_bind (listUpdate_at ho6 rfl ?_ (Nat.zero_le _) ?_)))
  ·rw[hf];simp only[bne_self_eq_false,Bool.false_eq_true,if_false];exact wpAny_pure (h _ (Zex hp) (ZhP hp hso))
  ·have hp':(arrOf st').toList.Perm (pairsOf vs).toList:=hp;have:=hp'.length_eq;rw[Array.length_toList,Array.length_toList,pairsOf_size] at this;show((arrOf st').map (·.2)).size<=_;rw[Array.size_map,sizeLine_eq];lia
theorem ZeO{lv:Value->Value->Bool}(o:Swo fun x y=>lv x.1 y.1){v:Value}{C:List Value->Prop}{Q:Value->Shared->Prop}
  (hcol:∀(Q':List Value->Shared->Prop)(E':Value->Shared->Prop),(∀(ys:List Value)(h':Heap)(tk:Nat)(d:Drawn),(∀b o,s.heap.get? b=some o->h'.get? b=some o)->C ys->ys.length<=90000->s.heap.objs.size<=h'.objs.size->Q' ys { s with heap:=h',toks:=tk,drawn:=d })->wpAny (model prog w) A.in1 (collect v) Q' E' s)
  (hc:∀(ys:List Value)(h6:Heap)(tk:Nat)(d:Drawn),C ys->(∀b o,s.heap.get? b=some o->h6.get? b=some o)->2<=ys.length->Zbi prog w A.in1.in1 lv ys { s with heap:=h6,toks:=tk,drawn:=d })
  (q:∀(p:Addr)(ys:List Value)(out:Array Value)(h':Heap)(tk:Nat)(d:Drawn)(c:Nat),C ys->out.toList.Perm ys->out.toList.Pairwise (fun u v=>lv v u=false)->(∀b o,s.heap.get? b=some o->h'.get? b=some o)->h'.get? p=some (seqObj "list" out c)->s.heap.objs.size<=p->out.size<=90000->Q (.ref p) { s with heap:=h',toks:=tk,drawn:=d }) :
  wpAny (model prog w) A (call (.builtin "sorted") [v]) Q E s:=by
 refine Calls.call_function_entry kind_sorted plain_sorted entry_sorted (args_sorted1 _) ?_;unfold Builtin.«sorted»;refine wpAny_bind (m:=checkCount "sorted" 1 1 _) (wpAny_pure (wpAny_bind (hcol _ _ fun ys h1 tk d k1 hC hyl hle=>wpAny_bind (wpAny_newList ?_ (by rw[sizeLine_eq];lia)))));have hoL:(h1.push (seqObj "list" ys.toArray 0)).get? h1.objs.size=some (seqObj "list" ys.toArray 0):=Heap.get?_push_size _ rfl;have keep:∀b o,s.heap.get? b=some o->(h1.push (seqObj "list" ys.toArray 0)).get? b=some o:=fun b o e=>Heap.get?_push_of_some _ (k1 b o e);have hbp:∀b o,s.heap.get? b=some o->h1.objs.size≠b:=fun b o e=>Nat.ne_of_gt (Nat.lt_of_lt_of_le (Heap.lt_size e) hle);change wpAny _ _ _ _ _ { s with heap:=h1.push (seqObj "list" ys.toArray 0),toks:=tk,drawn:=d };refine wpAny_bind (wpAny_holding (wpAny_call_entry slot_list_sort ⟨_,hoL,rfl⟩ entry_list_sort (ZeX (s:={ s with heap:=h1.push (seqObj "list" ys.toArray 0),toks:=tk,drawn:=d }) o hoL (by lia) (fun h6 k6 h2=>hc ys h6 tk d hC (fun b o e=>k6 b o (hbp b o e).symm (keep b o e)) h2) fun out hp hso=>⟨_,rfl,?_⟩) (args_list_sort _)));generalize h1.push (seqObj "list" ys.toArray 0)=h5 at hoL keep;obtain⟨e1,ho1⟩:∃e1,(h5.update h1.objs.size (Obj.mapSeq fun _=>#[])).get? h1.objs.size=some (seqObj "list" #[] e1):=⟨_,get?_update_seq hoL (fun _=>#[])⟩;have ho6:=Heap.get?_push_of_some (seqObj "list" #[] 0) (Heap.get?_push_of_some (seqObj "tuple" ys.toArray 0) ho1);have hol:out.size<=90000:=by rw[<- Array.length_toList,hp.length_eq];exact hyl
 refine wpAny_pure ⟨_,rfl,q h1.objs.size ys out (sortedHeap h5 h1.objs.size ys out) tk d _ hC hp hso (fun b o e=>?_) (get?_update_seq ho6 (fun _=>out)) hle hol⟩;unfold sortedHeap;rw[Heap.get?_update_other _ _ (hbp b o e)];refine Heap.get?_push_of_some _ (Heap.get?_push_of_some _ ?_);rw[Heap.get?_update_other _ _ (hbp b o e)];exact keep b o e
def Zh3:Value->Int
 | .int i _=>i
 | _=>0
def iLt(u v:Value):Bool:=decide (Zh3 u<Zh3 v)
theorem Zh2:Swo fun x y=>iLt x.1 y.1:=⟨fun x y h=>decide_eq_false (by have:=of_decide_eq_true h;lia),fun x y z h1 h2=>decide_eq_false (by have:=of_decide_eq_false h1;have:=of_decide_eq_false h2;lia)⟩
theorem Zde{vs:List Value}(hv:∀v∈vs,∃i t,v=Value.int i t)(h2:2<=vs.length):Zbi prog w A iLt vs s:=by
 refine⟨oneType',fun Q E hq=>kas_kind (T:=.type "int") h2 (fun v hm=>?_) rfl rfl hq,?_⟩
 ·obtain⟨i,t,rfl⟩:=hv v hm;exact Looks.of_pure rfl
 ·intro x y hx hy E;rw[pairsOf_toList] at hx hy;obtain⟨i,t,e⟩:=hv _ (mem_zip_self hx).2;obtain⟨i',t',e'⟩:=hv _ (mem_zip_self hy).2;rw[e,e',keyLt'_oneType];refine oneLt_int ⟨rfl,?_⟩;show decide (i<i')=decide (Zh3 x.1<Zh3 y.1);rw[e,e'];rfl
end
structure Sto{α : Type}(lt : α -> α -> Bool):Prop where
 irr:∀a,lt a a=false
 trans:∀a b c,lt a b=true->lt b c=true->lt a c=true
 tri:∀a b,lt a b=false->lt b a=false->a=b
section
variable{α β : Type}{lt : α -> α -> Bool}{lt2 : β -> β -> Bool}
theorem Sto.asym(o:Sto lt){a b : α}(h:lt a b=true):lt b a=false:=by
 cases e:lt b a with
 | false=>rfl
 | true =>
  have:=o.trans a b a h e;rw[o.irr] at this;cases this
theorem Sto.neg(o:Sto lt){x y z : α}(h1:lt x y=false)(h2:lt y z=false):lt x z=false:=by
 cases e:lt x z with
 | false=>rfl
 | true =>
  cases e2:lt y x with
  | true=>rw[o.trans y x z e2 e] at h2;cases h2
  | false =>
   have:=o.tri x y h1 e2;subst this;rw[e] at h2;cases h2
theorem Sto.swo(o:Sto lt)(f:Value -> α):Swo fun x y=>lt (f x.1) (f y.1):=⟨fun _ _ h=>o.asym h,fun _ _ _ h1 h2=>o.neg h1 h2⟩
def ZjV[DecidableEq α](lt : α -> α -> Bool)(lt2 : β -> β -> Bool)(x y : α × β):Bool:=lt x.1 y.1 || (decide (x.1=y.1)&&lt2 x.2 y.2)
theorem Sto.lex[DecidableEq α](o:Sto lt)(o2:Sto lt2):Sto (ZjV lt lt2) where
 irr:=fun a=>by unfold ZjV;rw[o.irr,o2.irr];simp
 trans:=fun a b c h1 h2=>by
  unfold ZjV at *;simp only[Bool.or_eq_true,Bool.and_eq_true,decide_eq_true_eq] at *;rcases h1 with h1|⟨e1,h1⟩
  ·rcases h2 with h2|⟨e2,h2⟩
   ·exact .inl (o.trans _ _ _ h1 h2)
   ·exact .inl (e2 ▸ h1)
  ·rcases h2 with h2|⟨e2,h2⟩
   ·exact .inl (e1.symm ▸ h2)
   ·exact .inr ⟨e1.trans e2,o2.trans _ _ _ h1 h2⟩
 tri:=fun a b h1 h2=>by
  unfold ZjV at *;simp only[Bool.or_eq_false_iff,Bool.and_eq_false_imp,decide_eq_true_eq] at *;have e1:=o.tri _ _ h1.1 h2.1;have e2:=o2.tri _ _ (h1.2 e1) (h2.2 e1.symm);exact Prod.ext e1 e2
theorem ZeQ:Sto fun a b:Int=>decide (a<b):=⟨fun a=>by simp,fun a b c h1 h2=>by simp only[decide_eq_true_eq] at *;lia,fun a b h1 h2=>by simp only[decide_eq_false_iff_not] at *;lia⟩
theorem ZcG:∀a b:List Nat,¬ a<b -> ¬ b<a->a=b
 | [],[],_,_=>rfl
 | [],b::bs,h,_=>absurd (List.nil_lt_cons b bs) h
 | a::as,[],_,h=>absurd (List.nil_lt_cons a as) h
 | a::as,b::bs,h1,h2=>by
  rw[List.cons_lt_cons_iff] at h1 h2;have e:a=b:=by
   rcases Nat.lt_trichotomy a b with z|z|z
   ·exact absurd (.inl z) h1
   ·exact z
   ·exact absurd (.inl z) h2
  subst e;rw[ZcG as bs (fun z=>h1 (.inr ⟨rfl,z⟩)) (fun z=>h2 (.inr ⟨rfl,z⟩))]
theorem ZaW:∀a:List Nat,¬ a<a
 | [],h=>by cases h
 | a::as,h=>by
  rw[List.cons_lt_cons_iff] at h;rcases h with h|⟨_,h⟩
  ·lia
  ·exact ZaW as h
theorem ZbY:∀a b c:List Nat,a<b->b<c->a<c
 | [],_,[],_,h2=>by cases h2
 | [],_,c::cs,_,_=>List.nil_lt_cons c cs
 | a::as,[],_,h1,_=>by cases h1
 | a::as,b::bs,[],_,h2=>by cases h2
 | a::as,b::bs,c::cs,h1,h2=>by
  rw[List.cons_lt_cons_iff] at *;rcases h1 with h1|⟨e1,h1⟩
  ·rcases h2 with h2|⟨e2,h2⟩
   ·exact .inl (by lia)
   ·exact .inl (by lia)
  ·rcases h2 with h2|⟨e2,h2⟩
   ·exact .inl (by lia)
   ·exact .inr ⟨by lia,ZbY as bs cs h1 h2⟩
theorem Zju{x y:Str}(h:x.cps.toList=y.cps.toList):x=y:=by
 cases x;cases y
 congr 1
 exact Array.toList_inj.mp h
theorem Zj0:Sto fun a b:Str=>decide (a.cps.toList<b.cps.toList):=⟨fun a=>decide_eq_false (ZaW _),fun a b c h1 h2=>decide_eq_true (ZbY _ _ _ (of_decide_eq_true h1) (of_decide_eq_true h2)),fun a b h1 h2=>Zju (ZcG _ _ (of_decide_eq_false h1) (of_decide_eq_false h2))⟩
end
abbrev Qd:=Int×Str×Int×Int
def qLt:Qd->Qd->Bool:=ZjV (fun a b:Int=>decide (a<b)) (ZjV (fun a b:Str=>decide (a.cps.toList<b.cps.toList)) (ZjV (fun a b:Int=>decide (a<b)) fun a b:Int=>decide (a<b)))
theorem ZjQ:Sto qLt:=ZeQ.lex (Zj0.lex (ZeQ.lex ZeQ))
def IsQ(h:Heap)(v:Value)(q:Qd):Prop := ∃a o t u t2 t3 n,v=.ref a/\h.get? a=some o/\o.cls=.type "tuple" /\ o.data=.seq #[.int q.1 t,.str q.2.1 u,.int q.2.2.1 t2,.int q.2.2.2 t3] n
theorem IsQ.inj{h:Heap}{v:Value}{q q':Qd}(x:IsQ h v q)(y:IsQ h v q'):q=q':=by
 obtain⟨a,o,t,u,t2,t3,n,rfl,h1,_,h3⟩:=x;obtain⟨a',o',t',u',t2',t3',n',e,h1',_,h3'⟩:=y;cases e;rw[h1] at h1';cases h1';rw[h3] at h3';obtain⟨q1,q2,q3,q4⟩:=q;obtain⟨r1,r2,r3,r4⟩:=q';simp only[Data.seq.injEq,Array.mk.injEq,List.cons.injEq,Value.int.injEq,Value.str.injEq,and_true] at h3';obtain⟨⟨⟨e1,_⟩,⟨e2,_⟩,⟨e3,_⟩,⟨e4,_⟩⟩,_⟩:=h3';rw[e1,e2,e3,e4]
theorem IsQ.keep{h h':Heap}{v:Value}{q:Qd}(x:IsQ h v q)(k:∀b o,h.get? b=some o->h'.get? b=some o):IsQ h' v q:=by
 obtain⟨a,o,t,u,t2,t3,n,rfl,h1,r⟩:=x;exact⟨a,o,t,u,t2,t3,n,rfl,k _ _ h1,r⟩
open Classical in
noncomputable def kq(h:Heap)(v:Value):Qd:=if x:∃q,IsQ h v q then x.choose else(0,Str.empty,0,0)
theorem ZkQ{h:Heap}{v:Value}{q:Qd}(x:IsQ h v q):kq h v=q:=by
 unfold kq;rw[dif_pos ⟨q,x⟩];exact(Exists.choose_spec (⟨q,x⟩:∃q,IsQ h v q)).inj x
section
variable{prog:Program}{w:World}{A:Around}{s:Shared}
theorem ZhB{h:Heap}:∀{vs:List Value},(∀v∈vs,∃q,IsQ h v q)->∃fs,KatTups h vs fs/\fs.length=vs.length/\∀f∈fs,∃i t,f=.int i t
 | [],_=>⟨[],trivial,rfl,fun _ h=>nomatch h⟩
 | v::vs,hv=>by
  obtain⟨q,a,o,t,u,t2,t3,n,rfl,ho,hc,hd⟩:=hv v (List.mem_cons_self ..);obtain⟨fs,kt,hl,hf⟩:=ZhB (vs:=vs) fun x hx=>hv x (List.mem_cons_of_mem _ hx);refine⟨.int q.1 t::fs,KatTups.cons ho hc hd rfl kt,by simp[hl],fun f hm=>?_⟩;rcases List.mem_cons.mp hm with rfl|hm
  ·exact⟨_,t,rfl⟩
  ·exact hf f hm
theorem ZeJ{h0:Heap}{vs:List Value}(hv:∀v∈vs,∃q,IsQ h0 v q)(k0:∀b o,h0.get? b=some o->s.heap.get? b=some o)(h2:2<=vs.length):Zbi prog w A (fun u v=>qLt (kq h0 u) (kq h0 v)) vs s:=by
 have hv':∀v∈vs,∃q,IsQ s.heap v q:=fun v hm=>let ⟨q,x⟩:=hv v hm;⟨q,x.keep k0⟩;obtain⟨fs,k,hl,hf⟩:=ZhB hv';refine⟨tuples' true,fun Q E hq=>?_,?_⟩
 ·refine kat_kind (T:=.type "int") k (by lia) (fun v hm=>?_) rfl hq;obtain⟨i,t,rfl⟩:=hf v hm;exact Looks.of_pure rfl
 ·intro x y hx hy E;rw[pairsOf_toList] at hx hy;obtain⟨q,xq⟩:=hv _ (mem_zip_self hx).2;obtain⟨q',yq⟩:=hv _ (mem_zip_self hy).2;have e1:(fun x y:Keyed=>qLt (kq h0 x.1) (kq h0 y.1)) x y=qLt q q':=by
   show qLt (kq h0 x.1) (kq h0 y.1)=_;have hx1:=(mem_zip_self hx);have hy1:=(mem_zip_self hy);rw[ZkQ xq,ZkQ yq]
  rw[e1];obtain⟨a,o,t,u,t2,t3,n,e,ho,hc,hd⟩:=xq.keep k0;obtain⟨a',o',t',u',t2',t3',n',e',ho',hc',hd'⟩:=yq.keep k0;rw[e,e'];obtain⟨q1,q2,q3,q4⟩:=q;obtain⟨r1,r2,r3,r4⟩:=q';refine kat_lt ho hd ho' hd' ?_;have unf:qLt (q1,q2,q3,q4) (r1,r2,r3,r4)=(decide (q1<r1) || (decide (q1=r1)&&(decide (q2.cps.toList<r2.cps.toList) || (decide (q2=r2)&&(decide (q3<r3) || (decide (q3=r3)&&decide (q4<r4))))))):=rfl;rw[unf];refine kat_cons (wpAny_eqBool_int (kat_go (fun c1=>kat_yes ?_) (fun c1=>kat_no ?_)))
  ·have c1':q1=r1:=eq_of_beq c1;refine kat_cons (wpAny_eqBool_str (kat_go (fun c2=>kat_yes ?_) (fun c2=>kat_no ?_)))
   ·have c2':q2=r2:=of_decide_eq_true c2;refine kat_cons (wpAny_eqBool_int (kat_go (fun c3=>kat_yes ?_) (fun c3=>kat_no ?_)))
    ·have c3':q3=r3:=eq_of_beq c3;refine kat_cons (wpAny_eqBool_int (kat_go (fun c4=>kat_yes (kat_nil ⟨rfl,?_⟩)) (fun c4=>kat_no ?_)))
     ·have c4':q4=r4:=eq_of_beq c4;subst c1' c2' c3' c4';rw[decide_eq_false (ZaW q2.cps.toList)];simp
     ·refine kat_one _ _ (wpAny_lt_int ⟨rfl,?_⟩);subst c1' c2' c3';rw[decide_eq_false (ZaW q2.cps.toList)];simp
    ·refine kat_one _ _ (wpAny_lt_int ⟨rfl,?_⟩);have c3' : ¬ q3=r3:=fun z=>by rw[z] at c3;simp at c3
     subst c1' c2';rw[decide_eq_false (ZaW q2.cps.toList)];simp[c3']
   ·refine kat_one _ _ (PyProof.Rows.lt_str ⟨rfl,?_⟩);have c2' : ¬ q2=r2:=of_decide_eq_false c2;subst c1';simp[c2']
  ·refine oneLt_int ⟨rfl,?_⟩;have c1' : ¬ q1=r1:=fun z=>by rw[z] at c1;simp at c1
   simp[c1']
end
end Srd
namespace L2
open PySem PySem.Spec PyProof.Rows PySem.W
section
variable{X:Cx}{e:Expr}{te:TE}{p p' pos pos':Pos}
set_option maxHeartbeats 1000000 in
theorem Zbm(hc:X.calm=true)(hu:X.A.units+200<cLine)(hg:Gl X "sorted") (hm:X.mg "sorted" = none) (hg':Gl X "set") (hm':X.mg "set" = none) (pa:PA X [e] (Zfj te Zkb))
  (hs:starEach [e] X.env=[(false,eval e X.env)]:=by rfl) (hs':starEach [.Call (.Name "set" p') [e] [] pos'] X.env=[(false,eval (.Call (.Name "set" p') [e] [] pos') X.env)]:=by rfl) :
  PE X (.Call (.Name "sorted" p) [.Call (.Name "set" p') [e] [] pos'] [] pos) (fun σ H Q=>te σ H fun v H1=>ZfY X.K v H1 Q):=by
 intro pins s σ H Q I h;refine wpAny_Call_Name_kw (ZbQ I hg hm Zdv ?_);refine PyProof.Rows.callWith_builtin1 ?_ hs' rfl;rw[hs'];refine Calls.spliced_cons ?_;refine wpAny_Call_Name_kw (ZbQ I hg' hm' ZkH ?_);refine PyProof.Rows.callWith_type1 (thn (pa pos' pins s σ H (fun vs H1=>match vs with | [v]=>ZfY X.K v H1 Q|_=>False) I h) fun us s1 ⟨vs,H1,I1,r,q⟩=>?_) hs rfl
 match vs,r,q with
 | [v],r,q =>
  obtain⟨u,rfl,ru⟩:=r.one;obtain⟨l,ys,rfl,hq,hl9,hy,q⟩:=q;cases ru;obtain⟨its,rv,pl,hz⟩:=I1.list hq;have hlen:=rv.length;obtain⟨m,lv,hkeys,hsw,hsrt⟩:∃m lv,(∀v∈its.toArray.toList,Sts.EV (ZaZ X.prog X.w) m s1.heap v)/\(Srd.Swo fun x y=>lv x.1 y.1)/\∀(A:Around)(s6:Shared)(zs:List Value),(∀z∈zs,z∈its)->(∀b o,s1.heap.get? b=some o->s6.heap.get? b=some o)->2<=zs.length->Srd.Zbi X.prog X.w A lv zs s6:=by
   rcases hy with hy|hy
   ·refine⟨false,_,fun v hv=>?_,Srd.ZjQ.swo (Srd.kq s1.heap),fun A s6 zs hzs k6 h2l=>Srd.ZeJ (h0:=s1.heap) (fun v hv=>?_) k6 h2l⟩
    ·obtain⟨y,hy1,ry⟩:=Zbs rv v hv;obtain⟨t,i,x,j,k,rfl,ht⟩:=hy y hy1;obtain rfl:v=Value.ref t:=ry;exact⟨[Sum.inl i,Sum.inr x,Sum.inl j,Sum.inl k],t,rfl,Zkx I1.hok ht⟩
    ·obtain⟨y,hy1,ry⟩:=Zbs rv v (hzs v hv);obtain⟨t,i,x,j,k,rfl,ht⟩:=hy y hy1;obtain rfl:v=Value.ref t:=ry;obtain⟨_,us,rus,o,ho,hc',n,hd⟩:=I1.hok t _ ht
     match us,rus with
     | [u1,u2,u3,u4],.cons r1 (.cons r2 (.cons r3 (.cons r4 .nil))) =>
      obtain⟨t1,rfl⟩:=r1;obtain⟨t2,rfl⟩:=r2;obtain⟨t3,rfl⟩:=r3;obtain⟨t4,rfl⟩:=r4;exact⟨(i,x,j,k),t,o,t1,t2,t3,t4,n,rfl,ho,hc',hd⟩
   ·refine⟨true,_,fun v hv=>?_,Srd.Zh2,fun A s6 zs hzs k6 h2l=>Srd.Zde (fun v hv=>?_) h2l⟩
    ·obtain⟨y,hy1,ry⟩:=Zbs rv v hv;obtain⟨i,rfl⟩:=hy y hy1;obtain⟨t,rfl⟩:=ry;exact⟨i,t,rfl⟩
    ·obtain⟨y,hy1,ry⟩:=Zbs rv v (hzs v hv);obtain⟨i,rfl⟩:=hy y hy1;obtain⟨t,rfl⟩:=ry;exact⟨i,t,rfl⟩
  refine Sts.ZdW (knd:=ZaZ X.prog X.w) (m:=m) (I1.ok.hd hc) (by lia) pl.isList hkeys (by rw[List.size_toArray];lia) fun h2 tk hS k2=>?_;refine Calls.spliced_nil ?_;have k2':∀b o,s1.heap.get? b=some o->h2.get? b=some o:=fun b o e=>k2 b o (Heap.lt_size e) e;refine Srd.ZeO (lv:=lv) (s:={ s1 with heap:=h2,toks:=tk }) (C:=fun ys=>ys.length<=its.length/\∀y∈ys,y∈its) hsw (fun Q' E' hq'=>Sts.Zfk (I1.ok.hd hc) hS (by rw[List.size_toArray];lia) fun ys' h' tk' d' k' hl' hv' hle=>hq' ys' h' tk' d' k' ⟨by simpa using hl',fun y hy=>hv' y hy⟩ (Nat.le_trans (show ys'.length<=its.length by simpa using hl') (by lia)) hle) (fun ys' h6 tk6 d6 hC k6 h2l=>hsrt _ _ ys' hC.2 (fun b o e=>k6 b o (k2' b o e)) h2l) fun pa ys' out h3 tk3 d3 c hC hperm _ k3 e3 hle _=>?_;have hos:out.size<=its.length:=by rw[<- Array.length_toList,hperm.length_eq];exact hC.1
  have hov:∀y∈out.toList,y∈its:=fun y hy=>hC.2 y (hperm.mem_iff.mp hy);obtain⟨zs,rz,hsub⟩:=Zf0 rv out.toList fun u hu=>hov u hu;have hzl:zs.length=out.size:=rz.length.trans (Array.length_toList ..);have hS0:s1.heap.objs.size<=pa:=by
   obtain⟨oS,_,_,_,hoS,_⟩:=hS;exact Nat.le_trans (Nat.le_of_lt (Heap.lt_size hoS)) hle
  have I2:=I1.laid (h':=h3) (t':=tk3) (a:=pa) (o:=.lst zs) (fun b o e=>k3 b o (k2' b o e)) hS0 (show Zaw X.prog X.w _ h3 _ (.lst zs) from⟨by lia,out.toList,c,rz,e3⟩);exact⟨.ref pa,_,I2.draws (d:=d3),rfl,q pa zs (I1.hok.fresh hS0) (by lia) hsub⟩
end
end L2
namespace Fg
open PySem L2 FgM
theorem Zdt{α : Type}{l:List α}{i:Nat}{x : α}(h:l[i]?= some x):l.take (i+1)=l.take i ++ [x]:=by
 rw[List.take_add_one,h];rfl
theorem Za2{lo:Int}{n:Nat}{p:Addr}{g:TG}{te:TE}{R:Hp->Prop}{σ0:St}{H0:Hp}(Pv:Nat->List V->St->Hp->Prop)(h0:Pv 0 [] σ0 H0)
  (hl:∀i ys σ H,i<=n->Pv i ys σ H->H p=some (.lst ys))
  (hs:∀i ys σ H,i<n->Pv i ys σ H->g (.int (lo+i)) σ H fun σ3 H4=>te σ3 H4 fun v H5=>H5 p=some (.lst ys)/\ys.length<sizeLine/\∃m',m'<n-i/\CW n Pv (i+1) m' (ys ++ [v]) σ3 (upd H5 p (.lst (ys ++ [v]))))
  (hd:∀ys σ H,Pv n ys σ H->R H) :
  ∃W:Nat->Nat->List V->St->Hp->Prop,(∃m,W 0 m [] σ0 H0)/\∀i m ys σc H2,W i m ys σc H2->H2 p=some (.lst ys)/\(((Itr lo n).stop i H2/\R H2)\/((Itr lo n).go i H2/\∀x H3,(Itr lo n).yld i H2 x H3->g x σc H3 fun σ3 H4=>te σ3 H4 fun v H5 =>
   H5 p=some (.lst ys)/\ys.length<sizeLine/\∃m',m'<m/\W (i+1) m' (ys ++ [v]) σ3 (upd H5 p (.lst (ys ++ [v]))))):=by
 refine⟨CW n Pv,⟨_,rfl,Nat.zero_le _,h0⟩,?_⟩;rintro i m ys σ H ⟨rfl,hi,hp⟩;refine⟨hl i ys σ H hi hp,?_⟩;by_cases hlt:i<n
 ·refine .inr ⟨hlt,?_⟩;rintro x H3 ⟨rfl,rfl⟩;exact hs i ys σ _ hlt hp
 ·have e:i=n:=by lia
  subst e;exact .inl ⟨Nat.le_refl _,hd ys σ H hp⟩
theorem ZaX{X:Cx}{K:PySem.W.Frag}(h:X.K=K):IxR X (ZlN K):=h ▸ ZD
theorem Zdo{X:Cx}{K:PySem.W.Frag}(h:X.K=K):OpR X (compareOp .In) (rIn K false):=h ▸ Zhx
def ZlI(K:PySem.W.Frag)(ta:TE):TT:=fun σ H Q=>ta σ H fun x H'=>∃k,ZlH K x H' k/\Q k H'
theorem Zc5{X:Cx}{K:PySem.W.Frag}{a:Expr}{ta:TE}(h:X.K=K)(ha:PE X a ta)(he:∀whole,isTrue a X.env whole=(do let v <- whole;standAt a.pos;holding [v] (truthy v))) :
  PT X a (ZlI K ta):=by
 subst h;exact Z8 ha he
def ZfU:Sp:=fun vs H Q _=>∃s v:Int,vs=[.int s,.int v]/\∀t:Str,ZdT t->t.length<=8->Q (.str t) H
def ZcA(K:PySem.W.Frag):Sp:=fun vs H Q _=>∃(a:Addr)(ns:List Int)(k:Int),vs=[.ref a,.int k]/\SqL K H a (ns.map V.int)/\ns.length<=63/\0<=k/\k<=1000/\∀v:Int,0<=v->v<2147483647->Q (.int v) H
theorem ZlP{X:Cx}{body:List Stmt}{D:Ends}(R0:St->Hp->Prop)(n:Nat)(R:St->Hp->Prop)(h2:∃u,PSs X (body.drop n) u/\∀ σ' H',R σ' H'->u D σ' H')
  (h1:∀u,PSs X (body.drop n) u->(∀ σ' H',R σ' H'->u D σ' H')->∃t,PSs X body t/\∀ σ H,R0 σ H->t D σ H):∃t,PSs X body t/\∀ σ H,R0 σ H->t D σ H :=
 let ⟨u,a,b⟩:=h2
 h1 u a b
theorem ZeN(x:Int){n:Nat}(h:0<n):∃k:Nat,x % (n:Int)=(k:Int)/\k<n:=by
 have h1:=Int.emod_nonneg x (by lia:(n:Int)≠0);have h2:=Int.emod_lt_of_pos x (by lia:(0:Int)<(n:Int));obtain⟨k,hk⟩:=Int.eq_ofNat_of_zero_le h1;exact⟨k,hk,by lia⟩
abbrev iV(e:Nat):V:=V.int (e:Int)
theorem ZcF{K:PySem.W.Frag}{a p:Addr}{xs:List V}{g:TG}{tt:TT}{te:TE}{R:Hp->Prop}{σ0:St}{H0:Hp}(Pv:Nat->List V->St->Hp->Prop)(h0:Pv 0 [] σ0 H0)
  (hl:∀i ys σ H,i<=xs.length->Pv i ys σ H->SqT K H a xs/\H p=some (.lst ys))
  (hs:∀i ys x σ H,i<xs.length->xs[i]?= some x->Pv i ys σ H->g x σ H fun σ3 H4=>tt σ3 H4 fun b H4'=>if b=true then te σ3 H4' fun v H5=>H5 p=some (.lst ys)/\ys.length<sizeLine/\∃m',m'<xs.length-i/\CW xs.length Pv (i+1) m' (ys ++ [v]) σ3 (upd H5 p (.lst (ys ++ [v])))
   else ∃m',m'<xs.length-i/\CW xs.length Pv (i+1) m' ys σ3 H4')
  (hd:∀ys σ H,Pv xs.length ys σ H->R H) :
  ∃W:Nat->Nat->List V->St->Hp->Prop,(∃m,W 0 m [] σ0 H0)/\∀i m ys σc H2,W i m ys σc H2->H2 p=some (.lst ys)/\(((Itt K a).stop i H2/\R H2)\/((Itt K a).go i H2/\∀x H3,(Itt K a).yld i H2 x H3->g x σc H3 fun σ3 H4=>tt σ3 H4 fun b H4'=>if b=true then te σ3 H4' fun v H5 =>
   H5 p=some (.lst ys)/\ys.length<sizeLine/\∃m',m'<m/\W (i+1) m' (ys ++ [v]) σ3 (upd H5 p (.lst (ys ++ [v]))) else ∃m',m'<m/\W (i+1) m' ys σ3 H4')):=by
 refine⟨CW xs.length Pv,⟨_,rfl,Nat.zero_le _,h0⟩,?_⟩;rintro i m ys σ H ⟨rfl,hi,hp⟩;obtain⟨h1,h2⟩:=hl i ys σ H hi hp;refine⟨h2,?_⟩;by_cases hlt:i<xs.length
 ·refine .inr ⟨⟨xs,xs[i],h1,List.getElem?_eq_getElem hlt⟩,?_⟩;rintro x H3 ⟨rfl,hx⟩;exact hs i ys x σ _ hlt (hx xs h1) hp
 ·have e:i=xs.length:=by lia
  subst e;exact .inl ⟨⟨xs,h1,Nat.le_refl _⟩,hd ys σ H hp⟩
end Fg
namespace L2
open PySem PySem.Spec PyProof.Rows
theorem Zgb{K:PySem.W.Frag}{a p:Addr}{xs:List V}{g:TG}{tt:TT}{te:TE}{R:Hp->Prop}{σ0:St}{H0:Hp}(Pv:Nat->List V->St->Hp->Prop)(h0:Pv 0 [] σ0 H0)
  (hl:∀i ys σ H,i<=xs.length->Pv i ys σ H->SqL K H a xs/\H p=some (.lst ys))
  (hs:∀i ys x σ H,i<xs.length->xs[i]?= some x->Pv i ys σ H->g x σ H fun σ3 H4=>tt σ3 H4 fun b H4'=>if b=true then te σ3 H4' fun v H5=>H5 p=some (.lst ys)/\ys.length<sizeLine/\∃m',m'<xs.length-i/\CW xs.length Pv (i+1) m' (ys ++ [v]) σ3 (upd H5 p (.lst (ys ++ [v])))
   else ∃m',m'<xs.length-i/\CW xs.length Pv (i+1) m' ys σ3 H4')
  (hd:∀ys σ H,Pv xs.length ys σ H->R H) :
  ∃W:Nat->Nat->List V->St->Hp->Prop,(∃m,W 0 m [] σ0 H0)/\∀i m ys σc H2,W i m ys σc H2->H2 p=some (.lst ys)/\(((Itl K a).stop i H2/\R H2)\/((Itl K a).go i H2/\∀x H3,(Itl K a).yld i H2 x H3->g x σc H3 fun σ3 H4=>tt σ3 H4 fun b H4'=>if b=true then te σ3 H4' fun v H5 =>
   H5 p=some (.lst ys)/\ys.length<sizeLine/\∃m',m'<m/\W (i+1) m' (ys ++ [v]) σ3 (upd H5 p (.lst (ys ++ [v]))) else ∃m',m'<m/\W (i+1) m' ys σ3 H4')):=by
 refine⟨CW xs.length Pv,⟨_,rfl,Nat.zero_le _,h0⟩,?_⟩;rintro i m ys σ H ⟨rfl,hi,hp⟩;obtain⟨h1,h2⟩:=hl i ys σ H hi hp;refine⟨h2,?_⟩;by_cases hlt:i<xs.length
 ·refine .inr ⟨⟨xs,xs[i],h1,List.getElem?_eq_getElem hlt⟩,?_⟩;rintro x H3 ⟨rfl,hx⟩;exact hs i ys x σ _ hlt (hx xs h1) hp
 ·have e:i=xs.length:=by lia
  subst e;exact .inl ⟨⟨xs,h1,Nat.le_refl _⟩,hd ys σ H hp⟩
end L2
namespace Stg
open PySem PyProof.Rows Sts
end Stg
namespace L2
open PySem PySem.Spec PyProof.Rows
theorem Zfa{lo:Int}{n:Nat}{p:Addr}{g:TG}{tt:TT}{te:TE}{R:Hp->Prop}{σ0:St}{H0:Hp}(Pv:Nat->List V->St->Hp->Prop)(h0:Pv 0 [] σ0 H0)
  (hl:∀i ys σ H,i<=n->Pv i ys σ H->H p=some (.lst ys))
  (hs:∀i ys σ H,i<n->Pv i ys σ H->g (.int (lo+i)) σ H fun σ3 H4=>tt σ3 H4 fun b H4'=>if b=true then te σ3 H4' fun v H5=>H5 p=some (.lst ys)/\ys.length<sizeLine/\∃m',m'<n-i/\CW n Pv (i+1) m' (ys ++ [v]) σ3 (upd H5 p (.lst (ys ++ [v])))
   else ∃m',m'<n-i/\CW n Pv (i+1) m' ys σ3 H4')
  (hd:∀ys σ H,Pv n ys σ H->R H) :
  ∃W:Nat->Nat->List V->St->Hp->Prop,(∃m,W 0 m [] σ0 H0)/\∀i m ys σc H2,W i m ys σc H2->H2 p=some (.lst ys)/\(((Itr lo n).stop i H2/\R H2)\/((Itr lo n).go i H2/\∀x H3,(Itr lo n).yld i H2 x H3->g x σc H3 fun σ3 H4=>tt σ3 H4 fun b H4'=>if b=true then te σ3 H4' fun v H5 =>
   H5 p=some (.lst ys)/\ys.length<sizeLine/\∃m',m'<m/\W (i+1) m' (ys ++ [v]) σ3 (upd H5 p (.lst (ys ++ [v]))) else ∃m',m'<m/\W (i+1) m' ys σ3 H4')):=by
 refine⟨CW n Pv,⟨_,rfl,Nat.zero_le _,h0⟩,?_⟩;rintro i m ys σ H ⟨rfl,hi,hp⟩;refine⟨hl i ys σ H hi hp,?_⟩;by_cases hlt:i<n
 ·refine .inr ⟨hlt,?_⟩;rintro x H3 ⟨rfl,rfl⟩;exact hs i ys σ _ hlt hp
 ·have e:i=n:=by lia
  subst e;exact .inl ⟨Nat.le_refl _,hd ys σ H hp⟩
end L2
namespace Fg
open PySem L2 FgM
theorem eq_data{K:PySem.W.Frag}{H:Hp}{a b:V}{d:PyData}{neg:Bool}{Q:VK}(ha:Dp K H a d)(hb:Dp K H b d)(hl:d.canLay0=true)(hd:d.depth<=200)(q:Q (.bl (!neg)) H):Zk7 K neg a b H Q:=by
 refine⟨d,d,ha,hb,hl,hl,by lia,?_⟩;rw[PySem.SeqAt.eqv_refl _ hl];cases neg <;> exact q
def gsz:Gr Str->Nat
 | .nil=>0
 | .cons _ w o=>1+gsz w+gsz o
theorem Zap:∀g:Gr Str,(words SL g).length=2*gsz g
 | .nil=>rfl
 | .cons t w o=>by
  have h1:=Zap w;have h2:=Zap o;simp only[words,gsz,List.length_cons,List.length_append];lia
end Fg
namespace L2
open PySem PySem.Spec PyProof.Rows
section
variable{X:Cx}
theorem ZdY{K:PySem.W.Frag}(hK:X.K=K):ZbU X (.builtin "len") (fun xs H Q=>∃p ys,xs=[.ref p]/\(SqL K H p ys\/SqT K H p ys)/\Q (.int ys.length) H):=hK ▸ Zu
end
end L2
namespace Fg
open PySem L2 FgM
namespace Pa
end Pa
end Fg
namespace L2
open PySem PySem.Spec PyProof.Rows PySem.W
theorem ZiF{X:Cx}:Zfc X (fun _ _ _ _=>False):=fun _ _ _ _ _ _ _ _ _ _ _ h=>h.elim
structure XNot(K:Frag)(C D:Addr):Prop where
 ca:findIn K (.ref C) "__class__" = some (some (.builtin "object.__class__"))
 gt:specialIn K (.builtin "object.__class__") "__get__" = some (some (.builtin "getset_descriptor.__get__"))
 tk:takesIn K (.builtin "object.__class__")=some true
 ob:mroIn K C (.type "object")=some true
 ty:typeIn K (.ref D)=some (.type "type")
section
variable{prog:Program}{w:World}{A:Around}{E:Value->Shared->Prop}{s:Shared}{K:Frag}{x C D:Addr}{ox od:Obj}{f:Str}
theorem Zkr{Q:Option Value->Shared->Prop}(X:K.In s.heap)(I:InstAt s.heap x ox C (some od))(Y:XFld K C f)(N:XNot K C D)(h:Q (some (.ref C)) { s with toks:=s.toks+1 }):wpAny (model prog w) A (getAttr? (.ref x) "__class__") Q E s:=by
 have hf:findObj K C (some od) "__class__" = some (.bind (.builtin "getset_descriptor.__get__") (.builtin "object.__class__")):=findObj_data (by obtain⟨cd,hc,_⟩:=any_some Y.hd;rw[hc];rfl) N.ca N.gt N.tk;obtain⟨hp,g,d,t,os⟩:=s;have L0:=I.type (M:=model prog w);have L1:=looks_findIn (M:=model prog w) X Y.ga;have L2:=looks_find (M:=model prog w) X I hf;have L3:Looks (model prog w) hp (hookBefore (.ref C)) none:=looks_hook X ((if_pos (show onTheHeap (Value.ref C)=true from rfl)).trans Y.gt);have L4:Looks (model prog w) hp (isInstance (.ref x) (.type "BaseException")) true:=L0.andThen (looks_mroIn X Y.mb);have F0:=F.excAttr_ValueError;unfold getAttr? getAttrBy? getAttrBy;refine wpAny_bind (wpAny_mkText (wpAny_bind (wpAny_attempt (wpAny_holding (wpAny_bind (L0.at (wpAny_bind (L1.at ?_))))))));have hne:(onTheHeap (Value.ref C)&&Value.builtin "BaseException.__getattribute__" == Value.builtin "object.__getattribute__")=false:=by
  rw[show(Value.builtin "BaseException.__getattribute__" == Value.builtin "object.__getattribute__")=false by decide +kernel,Bool.and_false]
 dsimp only;rw[hne,if_neg Bool.false_ne_true];unfold getAttrByItsOwn;refine wpAny_bind (L3.at (wpAny_bind (wpAny_attempt (wpAny_holding ?_))));unfold callGetattribute boundAndCalled;rw[show(false&&onTheHeap (Value.builtin "BaseException.__getattribute__"))=false from rfl,if_neg Bool.false_ne_true,F0.ga.bind];refine wpAny_bind (wpAny_pure ?_);show wpAny _ _ (call (.builtin "BaseException.__getattribute__") [.ref x,.str "__class__" t]) _ _ _;refine wpAny_call (codeAny_call_builtin F0.ga.plain F.entry_bexc_ga ?_);refine @check_slot (model prog w) _ _ ⟨hp,g,d,t+1,os⟩ "BaseException.__getattribute__" "BaseException" "__getattribute__" (.ref x) [.str "__class__" t] [] _ (by decide +kernel) (by decide +kernel) L4 (ZfZ _ _) ?_;show wpAny _ _ (Builtin.«object.__getattribute__» _) _ _ _;unfold Builtin.«object.__getattribute__»;refine wpAny_bind (wpAny_pure (wpAny_bind (wpAny_pure (wpAny_bind (L0.at (wpAny_bind (L2.at ?_)))))));refine wpAny_bind (wpAny_holding (wpAny_call (class_get (s:=⟨hp,g,d,t+1,os⟩) (ox:=ox) (od:=some od) X I N.ob (wpAny_pure ?_))));show wpAny _ _ (handedOut (.ref C)) _ _ _;rw[handedOut_of rfl];exact wpAny_pure (wpAny_pure h)
theorem Zhp{c:Value}{Q:Value->Shared->Prop}(X:K.In s.heap)(I:InstAt s.heap x ox C (some od))(Y:XFld K C f)(N:XNot K C D)(hne:(Value.ref C == c)=false)(e:kitCls K (.ref C) c=some false)
  (h:Q (.bool false) { s with toks:=s.toks+1 }):wpAny (model prog w) A (call (.builtin "isinstance") [.ref x,c]) Q E s:=by
 obtain⟨cdD,hcD,_⟩:=any_some Y.hd;refine call_isinstance (S:=fun _ R s=>(K.In s.heap/\InstAt s.heap x ox C (some od))/\R (.ok (.ret (.bool false))) { s with toks:=s.toks+1 }) (fun prog w A R s hs=>isinstance_outer ?_ (fun z=>nomatch z)) ⟨⟨X,I⟩,h⟩
 obtain⟨⟨X,I⟩,hq⟩:=hs;have hisD:Looks (model prog w) s.heap (isType (.ref C)) true:=by
  unfold clsIn at hcD
  split at hcD
  ·rename_i c' d' cd' sl' ho
   intro A' Q' E' s' k q;unfold isType loadHead;exact wpAny_bind (wpAny_loadPart (k _ _ (X _ _ ho)) (wpAny_pure q))
  ·cases hcD
 obtain⟨h0,g,d,tt,os⟩:=s;have L0:=I.type (M:=model prog w);unfold Builtin.«isinstance.nested»;refine wpAny_bind (L0.at ?_);rw[if_neg (by rw[hne];decide)];obtain⟨hty,his,hsub⟩:=kit_cls (M:=model prog w) X e;refine wpAny_bind (hty.at ?_);rw[if_pos (by decide)]
 k_delta "plainIsInstance"
 refine wpAny_bind (wpAny_bind (his.at ?_));simp only[Bool.not_true,Bool.false_eq_true,if_false];refine wpAny_bind ((L0.andThen hsub).at ?_);simp only[Bool.false_eq_true,if_false];refine wpAny_bind (Zkr X I Y N ?_);refine wpAny_bind (hisD.at ?_);simp only[Bool.not_true,Bool.false_eq_true,if_false];refine wpAny_bind (wpAny_rule ?_);refine hsub.at ?_
 first
  | exact wpAny_pure hq
  | exact wpAny_pure (wpAny_pure hq)
  | exact wpAny_bind (wpAny_pure (wpAny_pure hq))
theorem Zip{Q:Value->Shared->Prop}(ty:∀M,Looks M s.heap (typeOf (.ref x)) (.ref C))(h:Q (.bool true) s):wpAny (model prog w) A (call (.builtin "isinstance") [.ref x,.ref C]) Q E s:=by
 refine call_isinstance (S:=fun _ R s=>(∀M,Looks M s.heap (typeOf (.ref x)) (.ref C))/\R (.ok (.ret (.bool true))) s) (fun prog w A R s hs=>isinstance_outer ?_ (fun z=>nomatch z)) ⟨ty,h⟩
 obtain⟨LT,hq⟩:=hs;obtain⟨h0,g,d,tt,os⟩:=s;unfold Builtin.«isinstance.nested»;refine wpAny_bind ((LT _).at ?_);rw[if_pos (beq_self_eq_true _)]
 first
  | exact wpAny_bind (wpAny_rule (wpAny_pure hq))
  | exact wpAny_bind (wpAny_rule hq)
  | ((repeat lk);exact hq)
end
section
variable{X:Cx}
theorem ZgC{K:Frag}(hK:X.K=K):ZbU X (.builtin "isinstance") (fun xs H Q=>∃a oe C D b,xs=[.ref a,.ref D]/\H a=some (Known a oe)/\oe.cls=.ref C /\
    ((C=D/\b=true)\/(C≠D/\isClsIn K D=true/\typeIn K (.ref D)=some (.type "type")/\mroIn K C (.ref D)=some true/\b=true) \/
     (C≠D/\isClsIn K D=true/\mroIn K C (.ref D)=some false/\b=false/\∃dx fs f,oe.dict=some dx/\(∃vs,oe.data=.fields vs)/\H dx=some (.xd fs)/\XFld K C f/\XNot K C D))/\Q (.bl b) H):=by
  subst hK;intro pins s σ H xs us Q I r h;obtain⟨a,oe,C,D,b,rfl,hk,hc,h1,q⟩:=h;rcases h1 with⟨rfl,rfl⟩|⟨h1,h2,h3,h4,rfl⟩|⟨h1,h2,h3,rfl,dx,fs,f,hd,⟨vs,hf⟩,hx,Y,N⟩
  · obtain⟨u,v,rfl,rx,ry⟩:=Vals.two r;obtain rfl:u=Value.ref a:=rx;obtain rfl:v=Value.ref C:=ry;have ho:s.heap.get? a=some oe:=(I.hok a _ hk).1;exact Zip (fun M=>hc ▸ (Looks.ld ho).andThen .now) ⟨.bl true,H,I,rfl,q⟩
  · exact Zd9 pins s σ H _ us Q I r ⟨a,oe,C,D,rfl,hk,hc,h1,h2,h3,h4,q⟩
  · obtain⟨u,v,rfl,rx,ry⟩:=Vals.two r;obtain rfl:u=Value.ref a:=rx;obtain rfl:v=Value.ref D:=ry;have ho:s.heap.get? a=some oe:=(I.hok a _ hk).1;obtain⟨mA,n,hr⟩:=(show Zaw X.prog X.w H s.heap dx (.xd fs) from I.hok dx _ hx);obtain⟨od,hod,hlk⟩:=Zec n;have J:InstAt s.heap a oe C (some od):=⟨ho,hc,by unfold notCls;rw[hf],by rw[hd];exact hod⟩;refine Zhp I.kIn J Y N (by simpa using h1) ?_ ⟨.bl false,H,I.tok _,rfl,q⟩;unfold kitCls;dsimp only;unfold isClsIn at h2;rw[h2,N.ty,if_pos (by decide)];exact h3
end
section
variable{prog:Program}{w:World}{A:Around}{E:Value->Shared->Prop}{s:Shared}{K:Frag}{x C D:Addr}{ox:Obj}{f:Str}
theorem ZdG{a g:Value}{name:Str}(hc:(clsIn K C).isSome=true)(ha:findIn K (.ref C) name=some (some a))(hg:specialIn K a "__get__" = some (some g)) (ht:takesIn K a=some true):findObj K C none name=some (.bind g a):=by
 obtain⟨cd,hc⟩:=Option.isSome_iff_exists.mp hc;unfold findObj;rw[hc,Option.bind_some,ha,Option.bind_some];simp[hg,ht]
theorem ZgM{Q:Option Value->Shared->Prop}(X:K.In s.heap)(I:InstAt s.heap x ox C none)(Y:XFld K C f)(N:XNot K C D)(h:Q (some (.ref C)) { s with toks:=s.toks+1 }):wpAny (model prog w) A (getAttr? (.ref x) "__class__") Q E s:=by
 have hf:findObj K C none "__class__" = some (.bind (.builtin "getset_descriptor.__get__") (.builtin "object.__class__")):=ZdG (by obtain⟨cd,hc,_⟩:=any_some Y.hd;rw[hc];rfl) N.ca N.gt N.tk;obtain⟨hp,g,d,t,os⟩:=s;have L0:=I.type (M:=model prog w);have L1:=looks_findIn (M:=model prog w) X Y.ga;have L2:=looks_find (M:=model prog w) X I hf;have L3:Looks (model prog w) hp (hookBefore (.ref C)) none:=looks_hook X ((if_pos (show onTheHeap (Value.ref C)=true from rfl)).trans Y.gt);have L4:Looks (model prog w) hp (isInstance (.ref x) (.type "BaseException")) true:=L0.andThen (looks_mroIn X Y.mb);have F0:=F.excAttr_ValueError;unfold getAttr? getAttrBy? getAttrBy;refine wpAny_bind (wpAny_mkText (wpAny_bind (wpAny_attempt (wpAny_holding (wpAny_bind (L0.at (wpAny_bind (L1.at ?_))))))));have hne:(onTheHeap (Value.ref C)&&Value.builtin "BaseException.__getattribute__" == Value.builtin "object.__getattribute__")=false:=by
  rw[show(Value.builtin "BaseException.__getattribute__" == Value.builtin "object.__getattribute__")=false by decide +kernel,Bool.and_false]
 dsimp only;rw[hne,if_neg Bool.false_ne_true];unfold getAttrByItsOwn;refine wpAny_bind (L3.at (wpAny_bind (wpAny_attempt (wpAny_holding ?_))));unfold callGetattribute boundAndCalled;rw[show(false&&onTheHeap (Value.builtin "BaseException.__getattribute__"))=false from rfl,if_neg Bool.false_ne_true,F0.ga.bind];refine wpAny_bind (wpAny_pure ?_);show wpAny _ _ (call (.builtin "BaseException.__getattribute__") [.ref x,.str "__class__" t]) _ _ _;refine wpAny_call (codeAny_call_builtin F0.ga.plain F.entry_bexc_ga ?_);refine @check_slot (model prog w) _ _ ⟨hp,g,d,t+1,os⟩ "BaseException.__getattribute__" "BaseException" "__getattribute__" (.ref x) [.str "__class__" t] [] _ (by decide +kernel) (by decide +kernel) L4 (ZfZ _ _) ?_;show wpAny _ _ (Builtin.«object.__getattribute__» _) _ _ _;unfold Builtin.«object.__getattribute__»;refine wpAny_bind (wpAny_pure (wpAny_bind (wpAny_pure (wpAny_bind (L0.at (wpAny_bind (L2.at ?_)))))));refine wpAny_bind (wpAny_holding (wpAny_call (class_get (s:=⟨hp,g,d,t+1,os⟩) (ox:=ox) (od:=none) X I N.ob (wpAny_pure ?_))));show wpAny _ _ (handedOut (.ref C)) _ _ _;rw[handedOut_of rfl];exact wpAny_pure (wpAny_pure h)
theorem Zgi{c:Value}{Q:Value->Shared->Prop}(X:K.In s.heap)(I:InstAt s.heap x ox C none)(Y:XFld K C f)(N:XNot K C D)(hne:(Value.ref C == c)=false)(e:kitCls K (.ref C) c=some false)
  (h:Q (.bool false) { s with toks:=s.toks+1 }):wpAny (model prog w) A (call (.builtin "isinstance") [.ref x,c]) Q E s:=by
 obtain⟨cdD,hcD,_⟩:=any_some Y.hd;refine call_isinstance (S:=fun _ R s=>(K.In s.heap/\InstAt s.heap x ox C none)/\R (.ok (.ret (.bool false))) { s with toks:=s.toks+1 }) (fun prog w A R s hs=>isinstance_outer ?_ (fun z=>nomatch z)) ⟨⟨X,I⟩,h⟩
 obtain⟨⟨X,I⟩,hq⟩:=hs;have hisD:Looks (model prog w) s.heap (isType (.ref C)) true:=by
  unfold clsIn at hcD
  split at hcD
  ·rename_i c' d' cd' sl' ho
   intro A' Q' E' s' k q;unfold isType loadHead;exact wpAny_bind (wpAny_loadPart (k _ _ (X _ _ ho)) (wpAny_pure q))
  ·cases hcD
 obtain⟨h0,g,d,tt,os⟩:=s;have L0:=I.type (M:=model prog w);unfold Builtin.«isinstance.nested»;refine wpAny_bind (L0.at ?_);rw[if_neg (by rw[hne];decide)];obtain⟨hty,his,hsub⟩:=kit_cls (M:=model prog w) X e;refine wpAny_bind (hty.at ?_);rw[if_pos (by decide)]
 k_delta "plainIsInstance"
 refine wpAny_bind (wpAny_bind (his.at ?_));simp only[Bool.not_true,Bool.false_eq_true,if_false];refine wpAny_bind ((L0.andThen hsub).at ?_);simp only[Bool.false_eq_true,if_false];refine wpAny_bind (ZgM X I Y N ?_);refine wpAny_bind (hisD.at ?_);simp only[Bool.not_true,Bool.false_eq_true,if_false];refine wpAny_bind (wpAny_rule ?_);refine hsub.at ?_
 first
  | exact wpAny_pure hq
  | exact wpAny_pure (wpAny_pure hq)
  | exact wpAny_bind (wpAny_pure (wpAny_pure hq))
end
section
variable{X:Cx}
theorem Zgc{K:Frag}(hK:X.K=K):ZbU X (.builtin "isinstance") (fun xs H Q=>∃a oe C D b,xs=[.ref a,.ref D]/\H a=some (Known a oe)/\oe.cls=.ref C /\
    ((C=D/\b=true)\/(C≠D/\isClsIn K D=true/\typeIn K (.ref D)=some (.type "type")/\mroIn K C (.ref D)=some true/\b=true) \/
     (C≠D/\isClsIn K D=true/\mroIn K C (.ref D)=some false/\b=false/\∃f,oe.dict=none/\(∃vs,oe.data=.fields vs)/\XFld K C f/\XNot K C D))/\Q (.bl b) H):=by
  subst hK;intro pins s σ H xs us Q I r h;obtain⟨a,oe,C,D,b,rfl,hk,hc,h1,q⟩:=h;rcases h1 with⟨rfl,rfl⟩|⟨h1,h2,h3,h4,rfl⟩|⟨h1,h2,h3,rfl,f,hd,⟨vs,hf⟩,Y,N⟩
  · exact ZgC rfl pins s σ H _ us Q I r ⟨a,oe,C,C,true,rfl,hk,hc,.inl ⟨rfl,rfl⟩,q⟩
  · exact Zd9 pins s σ H _ us Q I r ⟨a,oe,C,D,rfl,hk,hc,h1,h2,h3,h4,q⟩
  · obtain⟨u,v,rfl,rx,ry⟩:=Vals.two r;obtain rfl:u=Value.ref a:=rx;obtain rfl:v=Value.ref D:=ry;have ho:s.heap.get? a=some oe:=(I.hok a _ hk).1;have J:InstAt s.heap a oe C none:=⟨ho,hc,by unfold notCls;rw[hf],by rw[hd];trivial⟩;refine Zgi I.kIn J Y N (by simpa using h1) ?_ ⟨.bl false,H,I.tok _,rfl,q⟩;unfold kitCls;dsimp only;unfold isClsIn at h2;rw[h2,N.ty,if_pos (by decide)];exact h3
end
def ZhJ(X:Cx)(N:List Str)(scope:Scope)(cl:List (Str×Addr))(qual:Str)(f:Addr)(cd:Value)(s:Shared)(H:Hp):Cx where
 prog:=X.prog
 w:=X.w
 K:=X.K
 mg:=X.mg
 base:=X.base
 A:=X.A.deeper (envX qual scope s.heap.objs.size f cd cl)
 N:=N
 s₀ := s
 H₀ := H
 env:=envX qual scope s.heap.objs.size f cd cl
 outer:=X.stack
 stack:=envX qual scope s.heap.objs.size f cd cl::X.stack
 ex:=[]
 fn:=fun _=>false
 calm:=true
 pn:=[]
 xe:=no0
def lamσ(v:V)(σ : St)(cap:List (Str×Nat)):St:=some v::cap.map fun p=>(σ[p.2]?).getD none
structure LamSc(X:Cx)(scope:Scope)(cl:List (Str×Addr))(p:Str)(cap:List (Str×Nat)):Prop where
 kind:scope.kind=.function
 co:scope.isCoroutine=false
 gen:scope.isGenerator=false
 nocell:∀x∈scope.names,x.2 ≠ .cell
 par:scope.names.lookup p=some .local
 own:∀x c,cl.lookup x=some c->X.env.cells.lookup x=some c
 has:∀x,scope.names.lookup x=some .free->∃c,cl.lookup x=some c
 caps:∀q∈cap,X.N[q.2]?= some q.1/\X.env.scope.names.lookup q.1=some .cell/\scope.names.lookup q.1=some .free
section
variable{X:Cx}{pins:List (Addr×Obj)}{σ : St}{H:Hp}{s:Shared}{scope:Scope}{cl:List (Str×Addr)}{p qual:Str}{cap:List (Str×Nat)}{f:Addr}{cd u:Value}{v:V}{h1:Heap}
theorem ZiI{N:List Str}(I:Inv X pins σ H s)(hc:X.calm=true)(S:LamSc X scope cl p cap):(ZhJ X N scope cl qual f cd s H).Ok where
 mod:=I.ok.mod
 kind:=S.kind
 glob:=rfl
 blt:=rfl
 above:=Nat.le_refl _
 inj:=fun x y c e1 e2=>I.ok.inj x y c (S.own x c e1) (S.own y c e2)
 has:=fun x hx=>by
  rcases hx with hx|hx
  ·exact absurd rfl (S.nocell _ (PySem.mem_of_lookup (show scope.names.lookup x=some .cell from hx)))
  ·exact S.has x hx
 cab:=fun x c e=>by cases e
 hd:=fun _=>I.ok.hd hc
 frames:=Around.frames_deeper I.ok.frames
 stk:=.inr ⟨rfl,rfl⟩
 exf:=fun b hb=>absurd (show b∈([]:List Addr) from hb) (by simp)
 bs:=fun b o e=>I.bs b o e
 bsz:=Nat.le_trans I.ok.bsz I.sz
 noex:=fun b o e hb=>absurd (show b∈([]:List Addr) from hb) (by simp)
 exfs:=fun b hb=>absurd (show b∈([]:List Addr) from hb) (by simp)
 funs:=I.stack
 frf:=I.stkFree
theorem Zfb{tk:Nat}(I:Inv X pins σ H s)(hc:X.calm=true)(S:LamSc X scope cl p cap)(r:RelV v u)(hns:h1.Ns s.heap.objs.size (fun x=>([(p,u)]:List (Str×Value)).reverse.lookup x))(hkp:∀b o,s.heap.get? b=some o->h1.get? b=some o) :
  Inv (ZhJ X (p::cap.map (·.1)) scope cl qual f cd s H) [] (lamσ v σ cap) H { s with heap:=h1,toks:=tk } where
 ok:=ZiI I hc S
 os:=rfl
 bare:=I.bare
 base:=Un.kept hkp
 loc:=by
  refine⟨_,hns,fun i x v' e1 e2 hv=>?_⟩;cases i with
  | zero =>
   have e1:p=x:=Option.some.inj e1;have e2:v=v':=Option.some.inj (Option.some.inj e2);subst e1 e2;refine⟨u,r,.inl ⟨S.par,?_⟩⟩;show([(p,u)]:List (Str×Value)).reverse.lookup p=some u;simp[List.lookup_cons]
  | succ i =>
   have hN:(cap.map (·.1))[i]?= some x:=e1;have e2:(cap.map fun p=>(σ[p.2]?).getD none)[i]?= some (some v'):=e2;rw[List.getElem?_map] at hN e2;cases hp:cap[i]? with
   | none=>rw[hp] at hN;cases hN
   | some q =>
    rw[hp] at hN e2;have hx:q.1=x:=Option.some.inj hN;have he:(σ[q.2]?).getD none=some v':=Option.some.inj e2;obtain⟨c1,c2,c3⟩:=S.caps q (List.mem_of_getElem? hp);subst hx;have hs : σ[q.2]?= some (some v'):=by
     cases z0 : σ[q.2]? with
     | none=>rw[z0] at he;cases he
     | some z=>rw[z0] at he;rw[show z=some v' from he]
    obtain⟨m,hn,hl⟩:=I.loc;obtain⟨u',r',l⟩:=hl q.2 q.1 v' c1 hs (.inr (.inl c2));refine⟨u',r',.inr ⟨.inr c3,?_⟩⟩;obtain⟨c,hc⟩:=S.has q.1 c3;refine⟨c,hc,?_⟩;rcases l with⟨l1,_⟩|⟨_,c',l2,o,ho,hd⟩
    ·have:X.env.kindOf q.1=some .cell:=c2;rw[this] at l1;cases l1
    ·have:c=c':=Option.some.inj ((S.own q.1 c hc).symm.trans l2);subst this;exact⟨o,hkp _ _ ho,hd⟩
 cell:=fun x c e=>by
  obtain⟨v,o,ho,hd⟩:=I.cell x c (S.own x c e);exact⟨v,o,hkp _ _ ho,hd⟩
 free:=I.hok.fresh (Nat.le_refl _)
 freeC:=fun x c e=>I.freeC x c (S.own x c e)
 pin:=fun p hp=>by cases hp
 hok:=I.hok.kept hkp
 len:=by
  unfold lamσ;show _=(p::cap.map (·.1)).length;rw[List.length_cons,List.length_cons,List.length_map,List.length_map]
theorem ZjJ{params:Arguments}{body:Expr}{name:Str}{pm ctv:Value}{c':Addr}{oc:Obj}{vs:Array Value}{tq:Tok}{t:TE}{Q:VK}{k:Nat}(I:Inv X pins σ H s)(hc:X.calm=true)(hr:Room (k+1) X.A)(S:LamSc X scope cl p cap)
  (hf:H f=some (.frz (kla_obj name qual params body scope cl pm c' ctv) (.own f))) (ho:H c'=some (.frz oc (.own c'))) (hd:oc.data=.fields vs) (hv:vs[1]?= some (.str qual tq))
  (hb:bindArgs (kla_fn name qual params body scope cl pm (.ref c') ctv) ⟨[u],[]⟩=pure [(p,u)]) (r:RelV v u)
  (hbody:PE (ZhJ X (p::cap.map (·.1)) scope cl qual f (.ref c') s H) body t) (h:t (lamσ v σ cap) H Q):wpAny (model X.prog X.w) X.A (call (.ref f) [u]) (EP X pins σ Q) no0 s:=by
 have hfo:s.heap.get? f=some (kla_obj name qual params body scope cl pm c' ctv):=(I.hok f _ hf).1;have hco:s.heap.get? c'=some oc:=(I.hok c' _ ho).1;refine wpAny_call (kla_callFunE hr.depth hfo rfl S.co S.gen rfl ⟨c',oc,vs,tq,rfl,hco,hd,hv⟩ ?_);rw[hb];refine wpAny_pure (wpAny_newFunctionEnv S.nocell (fun x hx=>?_) (fun h₁ hns hsb=>⟨(I.nolimit).fresh _ hsb,?_⟩) S.kind)
 ·rw[List.mem_singleton.mp hx];exact S.par
 have hkp:∀b o,s.heap.get? b=some o->h₁.get? b=some o:=fun b o e=>hsb.extBut b o (Nat.ne_of_lt (Heap.lt_size e)) (Heap.get?_push_of_some _ e);have J:Inv (ZhJ X (p::cap.map (·.1)) scope cl qual f (.ref c') s H) [] (lamσ v σ cap) H { s with heap:=h₁,toks:=s.toks+1 }:=Zfb I hc S r hns hkp;show codeAny _ _ (.expr body (envX qual scope s.heap.objs.size f (.ref c') cl)) _ _;refine kla_codeExpr (wpAny_mono (hbody [] _ _ H Q J h) (fun u' s' hs=>?_) fun _ _ z=>z.elim);obtain⟨v',H',J',rv,q⟩:=hs;exact I.after ⟨v',H',J'.os,J'.bare,J'.base,J'.hok,rv,q⟩
end
section
variable{X:Cx}{pins:List (Addr×Obj)}{σ : St}{H:Hp}{s:Shared}
theorem Inv.lam{h':Heap}{P c':Addr}{oc fo:Obj}{ps more:Array Value}{tk:Nat}(I:Inv X pins σ H s)(hP:H P=some (.tbl ps))(hx:∀b o,b≠P->s.heap.get? b=some o->h'.get? b=some o)(hg:s.heap.objs.size<=c')(hoc:h'.get? c'=some oc)(hPt:h'.get? P=some (tabObj (ps++more)))(hfr:fo.isFreed=false) :
  Inv X pins σ (upd (upd (upd H P (.tbl (ps++more))) c' (.frz oc (.own c'))) h'.objs.size (.frz fo (.own h'.objs.size))) { s with heap:=h'.push fo,toks:=tk }:=by
 have hc':c'<h'.objs.size:=Heap.lt_size hoc;have old:∀b o,s.heap.get? b=some o->b≠c'/\b≠h'.objs.size:=fun b o e=>⟨Nat.ne_of_lt (Nat.lt_of_lt_of_le (Heap.lt_size e) hg),Nat.ne_of_lt (Nat.lt_trans (Nat.lt_of_lt_of_le (Heap.lt_size e) hg) hc')⟩;have oldH:∀b u,H b=some u->b≠c'/\b≠h'.objs.size:=fun b u e=>⟨Nat.ne_of_lt (Nat.lt_of_lt_of_le (I.hok b u e).lt hg),Nat.ne_of_lt (Nat.lt_trans (Nat.lt_of_lt_of_le (I.hok b u e).lt hg) hc')⟩;have at_:∀b,b≠c'->b≠h'.objs.size->b≠P->(upd (upd (upd H P (.tbl (ps++more))) c' (.frz oc (.own c'))) h'.objs.size (.frz fo (.own h'.objs.size))) b=H b:=fun b h1 h2 h3=>by rw[Zh h2,Zh h1,Zh h3]
 have nP:∀b u,H b=some u->(∀ps,u ≠ .tbl ps)->b≠P:=fun b u e n z=>by
  rw[z,hP] at e;injection e with e;exact n _ e.symm
 have keepH:∀b u,H b=some u->(∀ps,u ≠ .tbl ps)->(upd (upd (upd H P (.tbl (ps++more))) c' (.frz oc (.own c'))) h'.objs.size (.frz fo (.own h'.objs.size))) b=some u:=fun b u e n=>by
  rw[at_ b (oldH b u e).1 (oldH b u e).2 (nP b u e n)];exact e
 have hkp:∀b o,b≠P->s.heap.get? b=some o->(h'.push fo).get? b=some o:=fun b o n e=>Heap.get?_push_of_some _ (hx b o n e);have noP:∀b,H b=none->b≠P:=fun b e z=>by rw[z,hP] at e;cases e
 have hPs:P≠c'/\P≠h'.objs.size:=oldH P _ hP;have eP:(upd (upd (upd H P (.tbl (ps++more))) c' (.frz oc (.own c'))) h'.objs.size (.frz fo (.own h'.objs.size))) P=some (.tbl (ps++more)):=by rw[Zh hPs.2,Zh hPs.1,Zb]
 refine I.un ⟨fun b o e n _ _=>hkp b o (noP b n) e,fun b o e n _ _=>⟨o.slots,hkp b o (noP b n) e⟩,fun b o e n _=>?_,fun b o e _=>?_,fun b xs e=>keepH b _ e (fun _ z=>nomatch z),fun b o u e=>keepH b _ e (fun _ z=>nomatch z),fun b qs e=>?_⟩ ?_
 ·rw[at_ b (old b o e).1 (old b o e).2 (noP b n)];exact n
 ·by_cases hb:b=P
  ·exact⟨_,hb ▸ Heap.get?_push_of_some _ hPt⟩
  ·exact⟨o,hkp b o hb e⟩
 ·by_cases hb:b=P
  ·subst hb;rw[hP] at e;injection e with e;injection e with e;subst e;exact⟨more,eP⟩
  ·refine⟨#[],?_⟩;rw[at_ b (oldH b _ e).1 (oldH b _ e).2 hb,e];simp
 ·intro b u e;by_cases hf:b=h'.objs.size
  ·subst hf;rw[Zb] at e;injection e with e;subst e;exact⟨Heap.get?_push_size _ hfr,_,Heap.get?_push_size _ hfr⟩
  ·rw[Zh hf] at e;by_cases hc:b=c'
   ·subst hc;rw[Zb] at e;injection e with e;subst e;exact⟨Heap.get?_push_of_some _ hoc,_,Heap.get?_push_of_some _ hoc⟩
   ·rw[Zh hc] at e;by_cases hb:b=P
    ·subst hb;rw[Zb] at e;injection e with e;subst e;exact Heap.get?_push_of_some _ hPt
    ·rw[Zh hb] at e;refine(I.hok b u e).stay (fun c v hcc r=>hkp c v ?_ r) (fun c r=>keepH c _ r (fun _ z=>nomatch z)) fun c xs r=>keepH c _ r (fun _ z=>nomatch z)
     rcases hcc with rfl|hcc
     ·exact hb
     ·exact nP c _ hcc (fun _ z=>nomatch z)
end
theorem ZbX{pos:Pos}{m:List Value}{cv:Value}:∀(l:List Value),codeAmong pos l=some cv->codeAmong pos (l++m)=some cv
 | [],h=>by unfold codeAmong at h;cases h
 | [_],h=>by unfold codeAmong at h;split at h <;> simp_all
 | [_,_],h=>by unfold codeAmong at h;split at h <;> simp_all
 | a::b::c::l,h=>by
  unfold codeAmong at h ⊢;rw[List.cons_append,List.cons_append,List.cons_append]
  split at h
  ·rename_i heq
   injection heq with e1 heq;injection heq with e2 heq;injection heq with e3 heq;subst e1 e2 e3 heq;dsimp only
   split at h
   ·rename_i hc
    rw[if_pos hc];exact h
   ·rename_i hc
    rw[if_neg hc];exact ZbX l h
  ·cases h
theorem ZeI{pos pos':Pos}{c:Value}(hne : ¬ (pos'.line=pos.line/\pos'.col=pos.col)):∀{l:List Value},TriplesOk l->codeAmong pos' l=none->codeAmong pos' (l ++ [rawInt pos.line,rawInt pos.col,c])=none:=by
 intro l h hn
 fun_induction TriplesOk l with
 | case1 =>
  simp only[List.nil_append,codeAmong,rawInt];rw[if_neg];intro z;rw[Bool.and_eq_true,beq_iff_eq,beq_iff_eq] at z;exact hne ⟨by lia,by lia⟩
 | case2 a t b u x rest ih =>
  simp only[List.cons_append,codeAmong] at hn ⊢
  split at hn
  ·cases hn
  ·rename_i hc;rw[if_neg hc];exact ih h hn
 | case3 l h1 h2=>exact h.elim
def Zmf(H:Hp)(f:Addr)(name qual:Str)(params:Arguments)(body:Expr)(scope:Scope)(cl:List (Str×Addr)):Prop :=
 ∃pm ctv c' oc vs tq,H f=some (.frz (kla_obj name qual params body scope cl pm c' ctv) (.own f))/\H c'=some (.frz oc (.own c'))/\oc.data=.fields vs/\vs[1]?= some (.str qual tq)
def ZbG(H:Hp)(P:Addr)(L:List (Pos×Str)):Prop :=
 ∃ps:Array Value,H P=some (.tbl ps)/\TriplesOk ps.toList/\∀q∈L,codeAmong q.1 ps.toList=none\/∃c' oc vs tq,codeAmong q.1 ps.toList=some (.ref c')/\H c'=some (.frz oc (.own c'))/\oc.data=.fields vs/\vs[1]?= some (.str q.2 tq)
def ZhT(P:Addr)(H H':Hp):Prop := ∀b o,b≠P->H b=some o->H' b=some o
def Zja(base:Heap)(mg:Str->Option Value):Prop := ∃bm o,mg "__builtins__" = some (.ref bm)/\bm≠builtinsNs/\bm≠mainGlobals/\base.get? bm=some o/\o.cls=.type "module" /\ o.dict=some builtinsNs/\o.data=.plain
theorem ZbG.new{H:Hp}{P:Addr}(L:List (Pos×Str))(h:H P=some (.tbl #[])):ZbG H P L:=⟨#[],h,trivial,fun _ _=>.inl rfl⟩
theorem ZbG.same{H H':Hp}{P:Addr}{L:List (Pos×Str)}(h:ZbG H P L)(s:∀b o,H b=some o->H' b=some o):ZbG H' P L:=by
 obtain⟨ps,h1,h2,h3⟩:=h;exact⟨ps,s _ _ h1,h2,fun q hq=>(h3 q hq).imp id fun⟨c',oc,vs,tq,k1,k2,k3,k4⟩=>⟨c',oc,vs,tq,k1,s _ _ k2,k3,k4⟩⟩
theorem ZbG.keep{H H':Hp}{P:Addr}{L:List (Pos×Str)}(h:ZbG H P L)(s1:∀ps,H P=some (.tbl ps)->H' P=some (.tbl ps))(s2:∀b o u,H b=some (.frz o u)->H' b=some (.frz o u)):ZbG H' P L:=by
 obtain⟨ps,h1,h2,h3⟩:=h;exact⟨ps,s1 _ h1,h2,fun q hq=>(h3 q hq).imp id fun⟨c',oc,vs,tq,k1,k2,k3,k4⟩=>⟨c',oc,vs,tq,k1,s2 _ _ _ k2,k3,k4⟩⟩
section
variable{X:Cx}{pins:List (Addr×Obj)}{σ : St}{H:Hp}{s:Shared}
theorem Zik{params:Arguments}{body:Expr}{scope:Scope}{pos:Pos}{P c:Addr}{L:List (Pos×Str)}{clos:List (Str×Addr)}{Q':Value->Shared->Prop}{E:Value->Shared->Prop}(I:Inv X pins σ H s)(bm:Zja X.base X.mg)(hcode:X.env.code=.ref c)(hhd:codeHdIn X.K c P=true)(T:ZbG H P L)
  (hm:(pos,X.env.qual ++ "<lambda>")∈L) (hu:∀q∈L,q.1.line=pos.line->q.1.col=pos.col->q.2=X.env.qual ++ "<lambda>") (hcl:closureFor scope X.env=pure clos) (hdef:defaultsOf params X.env=([],[]))
  (h:∀f H' s',Inv X pins σ H' s'->H f=none->ZhT P H H'->ZbG H' P L->Zmf H' f "<lambda>" (X.env.qual ++ "<lambda>") params body scope clos->Q' (.ref f) s') :
  wpAny (model X.prog X.w) X.A (eval (.Lambda params body scope pos) X.env) Q' E s:=by
 obtain⟨ps,hP,ht,hL⟩:=T;have hPo:s.heap.get? P=some (tabObj ps):=I.hok P _ hP;have C:CodeHd s.heap c P:=codeHd_of_K I.kIn hhd;have hg:s.heap.Ns mainGlobals X.mg:=I.mod.glob.keeps I.bk;have hgP:mainGlobals≠P:=fun q=>by
  obtain⟨o,es,ep,e,hd,_⟩:=hg;rw[q,hPo] at e;cases e;cases hd
 obtain⟨bma,ob,b1,b2,b3,b4,b5,b6,b7⟩:=bm;have b4':=I.bk _ _ b4;have hbP:bma≠P:=fun q=>by
  rw[q,hPo] at b4';cases b4';cases b5
 have BA:s.heap.BuiltinsAt X.mg P:=⟨bma,ob,b1,b2,b3,hbP,b4',b5,b6,b7⟩;refine kla_eval hdef ?_;rcases hL _ hm with hn|⟨c',oc,vs,tq,k1,k2,k3,k4⟩
 ·refine kla_makeFunction (mg:=X.mg) hcl I.ok.glob hg hcode C hPo ht hn hgP BA fun c' ctv h' tk hx hge hlt hrec htb=>?_;obtain⟨c2,oc,vs,tq,e2,hoc,hd,hv⟩:=hrec;cases e2;have J:=I.lam (tk:=tk) (fo:=kla_obj "<lambda>" (X.env.qual ++ "<lambda>") params body scope clos ((X.mg "__name__").getD .none) c' ctv) hP (fun b o n e=>hx b o n e) hge hoc htb rfl;have oldH:∀b u,H b=some u->b≠c'/\b≠h'.objs.size:=fun b u e=>⟨Nat.ne_of_lt (Nat.lt_of_lt_of_le (I.hok b u e).lt hge),Nat.ne_of_lt (Nat.lt_trans (Nat.lt_of_lt_of_le (I.hok b u e).lt hge) hlt)⟩;have nc:c'≠h'.objs.size:=Nat.ne_of_lt hlt;have hPs:=oldH P _ hP;have sT:ZhT P H (upd (upd (upd H P (.tbl (ps ++ #[rawInt pos.line,rawInt pos.col,.ref c']))) c' (.frz oc (.own c'))) h'.objs.size (.frz (kla_obj "<lambda>" (X.env.qual ++ "<lambda>") params body scope clos ((X.mg "__name__").getD .none) c' ctv) (.own h'.objs.size))):=fun b o n e=>by
   rw[Zh (oldH b o e).2,Zh (oldH b o e).1,Zh n];exact e
  refine h _ _ _ J (I.hok.fresh (Nat.le_trans hge (Nat.le_of_lt hlt))) sT ⟨ps ++ #[rawInt pos.line,rawInt pos.col,.ref c'],?_,?_,fun q hq=>?_⟩ ⟨_,_,c',oc,vs,tq,Zb,?_,hd,hv⟩
  ·rw[Zh hPs.2,Zh hPs.1,Zb]
  ·rw[Array.toList_append];exact TriplesOk_snoc _ _ _ _ ht
  ·have kc:∀{q:Str},q=X.env.qual ++ "<lambda>" -> vs[1]?= some (.str q tq):=fun e=>by rw[e];exact hv
   have hcc:(upd (upd (upd H P (.tbl (ps ++ #[rawInt pos.line,rawInt pos.col,.ref c']))) c' (.frz oc (.own c'))) h'.objs.size (.frz (kla_obj "<lambda>" (X.env.qual ++ "<lambda>") params body scope clos ((X.mg "__name__").getD .none) c' ctv) (.own h'.objs.size))) c'=some (.frz oc (.own c')):=by rw[Zh nc,Zb]
   rw[Array.toList_append];rcases hL q hq with hn'|⟨c2,oc2,vs2,t2,j1,j2,j3,j4⟩
   ·by_cases z:q.1.line=pos.line/\q.1.col=pos.col
    ·refine .inr ⟨c',oc,vs,tq,?_,hcc,hd,kc (hu q hq z.1 z.2)⟩;have:=codeAmong_snoc (pos:=q.1) (c:=.ref c') ps.toList ht hn';rw[z.1,z.2] at this;exact this
    ·exact .inl (ZeI z ht hn')
   ·refine .inr ⟨c2,oc2,vs2,t2,ZbX _ j1,sT c2 _ (fun z=>?_) j2,j3,j4⟩;rw[z,hP] at j2;cases j2
  ·rw[Zh nc,Zb]
 ·refine kla_makeFunctionHit (mg:=X.mg) hcl I.ok.glob hg hcode C hPo ht k1 BA fun ctv h' tk hk hsz=>?_;have hn:H h'.objs.size=none:=I.hok.fresh hsz;have J:Inv X pins σ (upd H h'.objs.size (.frz (kla_obj "<lambda>" (X.env.qual ++ "<lambda>") params body scope clos ((X.mg "__name__").getD .none) c' ctv) (.own h'.objs.size))) { s with heap:=h'.push (kla_obj "<lambda>" (X.env.qual ++ "<lambda>") params body scope clos ((X.mg "__name__").getD .none) c' ctv),toks:=tk } :=
   I.laid (fun b u e=>Heap.get?_push_of_some _ (hk b u e)) hsz ⟨Heap.get?_push_size _ rfl,_,Heap.get?_push_size _ rfl⟩
  have sm:∀b o,H b=some o->(upd H h'.objs.size (.frz (kla_obj "<lambda>" (X.env.qual ++ "<lambda>") params body scope clos ((X.mg "__name__").getD .none) c' ctv) (.own h'.objs.size))) b=some o:=fun b o e=>by
   rw[Zh (Zm e hn)];exact e
  exact h _ _ _ J hn (fun b o _ e=>sm b o e) (ZbG.same ⟨ps,hP,ht,hL⟩ sm) ⟨_,_,c',oc,vs,tq,Zb,sm _ _ k2,k3,k4⟩
end
end L2
namespace Srd
open PySem PyProof.Rows Srt PySem.W
section
variable{prog:Program}{w:World}{A:Around}{E:Value->Shared->Prop}{s:Shared}
theorem ZgL:ZfD prog w A s oneType' (fun p=>∃i t,p.1=Value.int i t) fun x y=>iLt x.1 y.1:=by
 intro x y hx hy E;obtain⟨i,t,e⟩:=hx;obtain⟨i',t',e'⟩:=hy;rw[e,e',keyLt'_oneType];refine oneLt_int ⟨rfl,?_⟩;show decide (i<i')=decide (Zh3 x.1<Zh3 y.1);rw[e,e'];rfl
theorem ZhI{keys:Array Value}{vs:List Value}{kz:List Int}(hk:IntsAre keys.toList kz){xs:Array Keyed}(hp:xs.toList.Perm (keys.zip vs.toArray).toList)(hs:So (fun x y=>iLt x.1 y.1) xs.toList):KskOut false kz vs (xs.map (·.2)).toList:=by
 rw[ksk_zip] at hp;have ek:∀l:List Value,∀z:List Int,IntsAre l z->l.map Zh3=z:=fun l z h=>by
  induction h with
  | nil=>rfl
  | cons n t _ ih=>rw[List.map_cons,ih];rfl
 refine⟨xs.toList.map fun p:Keyed=>(Zh3 p.1,p.2),?_,?_,?_⟩
 ·have e2:(keys.toList.zip vs).map (fun p:Keyed=>(Zh3 p.1,p.2))=kz.zip vs:=by
   rw[<- ek _ _ hk,List.zip_map_left];exact List.map_congr_left fun⟨x,y⟩ _=>rfl
  rw[<- e2];exact hp.map _
 ·rw[Array.toList_map,List.map_map];rfl
 ·rw[List.pairwise_map];refine hs.imp fun{x y} h=>?_;have h:iLt y.1 x.1=false:=h;have h:=of_decide_eq_false h;show Zh3 x.1<=Zh3 y.1;lia
theorem ZfB{a kS:Addr}{e e1:Nat}{keys:Array Value}{vs:List Value}{kz:List Int}{st:SortSt}{P:PySem.Fin->Shared->Prop}(hk:IntsAre keys.toList kz)(hl:keys.size=vs.length)(h9:vs.length<=90000)
  (oK:s.heap.get? kS=some (seqObj "list" keys e)) (oA:s.heap.get? a=some (seqObj "list" #[] e1)) (ne:kS≠a) (hp:(arrOf st).toList.Perm (keys.zip vs.toArray).toList) (hs:So (fun x y=>iLt x.1 y.1) (arrOf st).toList) (hf:failedOf st=none)
  (h:∀out:Array Value,KskOut false kz vs out.toList->out.size=vs.length->P (.done (.ret .none)) { s with heap:=(s.heap.update kS (Obj.mapSeq fun _=>#[])).update a (Obj.mapSeq fun _=>out) }) :
  wpAny (model prog w) A (ksk_tail a false e1 (.ref kS) st) P E s:=by
 have hsz:(arrOf st).size=vs.length:=by
  have hz:(keys.zip vs.toArray).toList.length=vs.length:=by rw[Array.length_toList,Array.size_zip,hl,List.size_toArray,Nat.min_self]
  have:=hp.length_eq.trans hz;rw[Array.length_toList] at this;exact this
 have s1:=Heap.SameBut.update s.heap kS (Obj.mapSeq fun _=>(#[]:Array Value));have na1:(s.heap.update kS (Obj.mapSeq fun _=>(#[]:Array Value))).get? a=some (seqObj "list" #[] e1):=(s1.2 a ne.symm).trans oA;unfold ksk_tail
 try dsimp only
 refine wpAny_bind (listUpdate_at oK rfl ?_ (by rw[hl,sizeLine_eq];lia) (Nat.zero_le _));refine wpAny_bind (wpAny_letGo ?_);refine wpAny_bind (seqEpoch_at na1 rfl ?_);refine wpAny_bind (listUpdate_at na1 rfl ?_ (Nat.zero_le _) ?_)
 ·rw[hf];simp only[bne_self_eq_false,Bool.false_eq_true,if_false];exact wpAny_pure (h _ (ZhI hk hp hs) (by rw[Array.size_map];exact hsz))
 ·show((arrOf st).map (·.2)).size<=_;rw[Array.size_map,sizeLine_eq];lia
theorem ZjF{a kS:Addr}{e e1:Nat}{keys:Array Value}{vs:List Value}{kz:List Int}{P:PySem.Fin->Shared->Prop}(hk:IntsAre keys.toList kz)(hl:keys.size=vs.length)(h9:vs.length<=90000)
  (oK:s.heap.get? kS=some (seqObj "list" keys e)) (oA:s.heap.get? a=some (seqObj "list" #[] e1)) (ne:kS≠a)
  (h:∀out:Array Value,KskOut false kz vs out.toList->out.size=vs.length->P (.done (.ret .none)) { s with heap:=(s.heap.update kS (Obj.mapSeq fun _=>#[])).update a (Obj.mapSeq fun _=>out) }) :
  wpAny (model prog w) A (ksk_end a false vs.toArray e1 (.ref kS) keys) P E s:=by
 unfold ksk_end;simp only[Bool.false_eq_true,if_false];by_cases h2:vs.toArray.size<2
 ·rw[if_pos h2,if_pos h2];refine wpAny_bind (wpAny_pure ?_);rw[StateT.run_pure];refine wpAny_bind (wpAny_pure ?_)
  try dsimp only
  refine ZfB (st:=SortSt.mk' general' (keys.zip vs.toArray) #[] 7 none) hk hl h9 oK oA ne (List.Perm.refl _) ?_ rfl h;show List.Pairwise _ (keys.zip vs.toArray).toList;refine List.pairwise_iff_getElem.mpr fun i j hi hj hij=>?_;rw[Array.length_toList,Array.size_zip,hl,List.size_toArray,Nat.min_self] at hi hj;rw[List.size_toArray] at h2;lia
 ·rw[if_neg h2,if_neg h2];rw[List.size_toArray] at h2;rw[ksk_kind hk (by rw[hl];lia)];refine wpAny_bind (wpAny_pure ?_);refine wpAny_bind (wpAny_mono (Zea (a₀ := keys.zip vs.toArray) (st:=SortSt.mk' oneType' (keys.zip vs.toArray) #[] 7 none) (Q:=fun _ st'=>(arrOf st').toList.Perm (keys.zip vs.toArray).toList/\So (fun x y=>iLt x.1 y.1) (arrOf st').toList/\failedOf st'=none) Zh2 ZgL (fun p hp=>?_) ⟨⟨List.Perm.refl _,rfl,rfl,rfl⟩,fun z hz=>(nomatch hz)⟩ fun st' a1 a2 a3=>⟨a1,a2,a3⟩) ?_ fun _ _ e=>e)
  ·obtain⟨x,y⟩:=p;rw[ksk_zip] at hp;exact hk.all _ (List.of_mem_zip hp).1
  rintro⟨⟨⟩,st'⟩ s' ⟨rfl,hp,hso,hf⟩
  try dsimp only
  exact ZfB hk hl h9 oK oA ne hp hso hf h
end
end Srd
namespace L2
open PySem PySem.Spec PyProof.Rows PySem.W
section
variable{X:Cx}{pins:List (Addr×Obj)}{σ : St}{H:Hp}{s:Shared}
theorem Inv.adopt{a:Addr}{o:HO}(I:Inv X pins σ H s)(f:Za0 X pins H a)(new:Zaw X.prog X.w (upd H a o) s.heap a o):Inv X pins σ (upd H a o) s where
 ok:=I.ok
 os:=I.os
 bare:=I.bare
 base:=⟨I.base.keep,I.base.slot,fun b ob e n hx=>by
   rw[Zh (fun z=>?_)]
   ·exact I.base.free b ob e n hx
   ·subst z;rcases f.2.2.2.1 with z|z
    ·exact hx z
    ·exact absurd (Nat.lt_of_lt_of_le (Heap.lt_size e) z) (Nat.lt_irrefl _),I.base.there,fun b xs e=>by
   have e:=I.base.tups b xs e;rw[Zh (Zm e f.1)];exact e,fun b ob u e=>by
   have e:=I.base.frzs b ob u e;rw[Zh (Zm e f.1)];exact e,fun b ps e=>by
   obtain⟨more,e⟩:=I.base.tbls b ps e;refine⟨more,?_⟩;rw[Zh (Zm e f.1)];exact e⟩
 loc:=I.loc
 cell:=I.cell
 free:=by
  rw[Zh f.2.1.symm];exact I.free
 freeC:=fun x c e=>by
  rw[Zh (f.2.2.2.2.1 x c e)];exact I.freeC x c e
 pin:=fun p hp=>by
  obtain⟨h1,h2,h3⟩:=I.pin p hp;refine⟨h1,?_,h3⟩;rw[Zh (f.2.2.2.2.2 p hp)];exact h2
 hok:=fun b u e=>by
  by_cases hb:b=a
  ·subst hb;rw[Zb] at e;injection e with e;subst e;exact new
  ·rw[Zh hb] at e;exact(I.hok b u e).stay (fun c v _ r=>r) (fun c r=>by rw[Zh (Zm r f.1)];exact r) fun c xs r=>by rw[Zh (Zm r f.1)];exact r
 len:=I.len
theorem Zie{a b:Addr}{oa ob:Obj}{u:Value}{f:Value}{Q2:VK}{Q':Value->Shared->Prop}(I:Inv X pins σ H s)(fa:Za0 X pins H a)(fb:Za0 X pins H b)(ha:s.heap.get? a=some oa)(hb:s.heap.get? b=some ob)(da:∀v,oa.data ≠ .cell v)(db:∀v,ob.data ≠ .cell v)
  (turn:∀(pins:List (Addr×Obj))(s:Shared),Inv X pins σ H s->wpAny (model X.prog X.w) X.A (call f [u]) (EP X pins σ Q2) no0 s)
  (hQ:∀v kx s' H',Inv X pins σ H' s'->s'.heap.get? a=some oa->s'.heap.get? b=some ob->H' a=none->H' b=none->RelV kx v->Q2 kx H'->Q' v s'):wpAny (model X.prog X.w) X.A (call f [u]) Q' no0 s:=by
 have I':Inv X (pins ++ [(a,oa),(b,ob)]) σ H s:=I.pins_of fun q hq=>(List.mem_append.mp hq).elim (fun z=>I.pin q (List.mem_append_right _ z)) fun z=>by
  rcases List.mem_cons.mp z with rfl|z
  ·exact⟨ha,fa.1,fa.2.1,fa.2.2.1,da⟩
  ·rw[List.mem_singleton.mp z];exact⟨hb,fb.1,fb.2.1,fb.2.2.1,db⟩
 refine thn (turn _ s I') fun v s' ⟨kx,H',I2,rk,q⟩=>?_;have pa:=I2.pin (a,oa) (List.mem_append_right _ (List.mem_append_right _ (.head _)));have pb:=I2.pin (b,ob) (List.mem_append_right _ (List.mem_append_right _ (.tail _ (.head _))));exact hQ v kx s' H' I2.unpinned pa.1 pb.1 pa.2.1 pb.2.1 rk q
theorem ZiU{a:Addr}{f:Value}{n:Nat}{vs:List Value}{ks:List Int}{P:PySem.Fin->Shared->Prop}(I:Inv X pins σ H s)(ho:s.heap.get? a=some (seqObj "list" vs.toArray n)) (fa:Za0 X pins H a) (hl:ks.length=vs.length) (h9:vs.length<=90000)
  (turn:∀(i:Nat)(u:Value)(k:Int),vs[i]?= some u->ks[i]?= some k->∀(pins:List (Addr×Obj))(s:Shared),Inv X pins σ H s->wpAny (model X.prog X.w) X.A (call f [u]) (EP X pins σ fun kv H'=>H'=H/\kv=.int k) no0 s)
  (h:∀(s':Shared)(out:Array Value)(c:Nat),Inv X pins σ H s'->s'.heap.get? a=some (seqObj "list" out c)->KskOut false ks vs out.toList->out.size=vs.length->P (.done (.ret .none)) s') :
  wpAny (model X.prog X.w) X.A (ksk_tree a f false) P no0 s:=by
 have ha:a<s.heap.objs.size:=Heap.lt_size ho;obtain⟨e1,ho1⟩:∃e1,(s.heap.update a (Obj.mapSeq fun _=>(#[]:Array Value))).get? a=some (seqObj "list" #[] e1):=⟨_,get?_update_seq ho fun _=>#[]⟩;have sb:=Heap.SameBut.update s.heap a (Obj.mapSeq fun _=>(#[]:Array Value));unfold ksk_tree;refine wpAny_bind (listItems_at ho rfl ?_);refine wpAny_bind (listUpdate_at ho rfl ?_ (by rw[List.size_toArray,sizeLine_eq];lia) (Nat.zero_le _));refine wpAny_bind (seqEpoch_at ho1 rfl ?_);refine wpAny_bind (wpAny_newTuple ?_ (by show vs.length<=_;rw[sizeLine_eq];lia));refine wpAny_bind (wpAny_newList ?_ (Nat.zero_le _));refine wpAny_holding ?_;have I1:Inv X pins σ H { s with heap:=s.heap.update a (Obj.mapSeq fun _=>(#[]:Array Value)),toks:=s.toks }:=I.turned (fun b o hb e=>(sb.2 b hb).trans e) fa.1 fa.2.1 fa.2.2.2.1 fa.2.2.2.2.1 fa.2.2.2.2.2;have I2:Inv X pins σ H { s with heap:=(s.heap.update a (Obj.mapSeq fun _=>(#[]:Array Value))).push (seqObj "tuple" vs.toArray 0),toks:=s.toks }:=I1.kept fun b u e=>Heap.get?_push_of_some _ e;have I3:Inv X pins σ H { s with heap:=((s.heap.update a (Obj.mapSeq fun _=>(#[]:Array Value))).push (seqObj "tuple" vs.toArray 0)).push (seqObj "list" #[] 0),toks:=s.toks }:=I2.kept fun b u e=>Heap.get?_push_of_some _ e;obtain⟨kS,ekS⟩:∃kS,kS=((s.heap.update a (Obj.mapSeq fun _=>(#[]:Array Value))).push (seqObj "tuple" vs.toArray 0)).objs.size:=⟨_,rfl⟩;have fk:Za0 X pins H kS:=I2.fpOk (Nat.le_of_eq ekS.symm) (by rw[ekS];exact I2.hok.fresh (Nat.le_refl _));have ok:(((s.heap.update a (Obj.mapSeq fun _=>(#[]:Array Value))).push (seqObj "tuple" vs.toArray 0)).push (seqObj "list" #[] 0)).get? kS=some (seqObj "list" #[] 0):=by rw[ekS];exact Heap.get?_push_size _ rfl
 have oa:(((s.heap.update a (Obj.mapSeq fun _=>(#[]:Array Value))).push (seqObj "tuple" vs.toArray 0)).push (seqObj "list" #[] 0)).get? a=some (seqObj "list" #[] e1):=Heap.get?_push_of_some _ (Heap.get?_push_of_some _ ho1);have ne:kS≠a:=by
  rw[ekS,size_push',Heap.size_update];exact Nat.ne_of_gt (Nat.lt_succ_of_lt ha)
 show wpAny _ _ (ksk_rest a f false vs.toArray e1 (.ref ((s.heap.update a (Obj.mapSeq fun _=>(#[]:Array Value))).push (seqObj "tuple" vs.toArray 0)).objs.size)) _ _ _;rw[<- ekS];unfold ksk_rest;refine wpAny_bind (wpAny_rule ?_)
 first
  | rw[List.forIn_toArray]
  | (rw[<- Array.forIn_toList];simp only[List.toList_toArray])
  | rw[<- Array.forIn_toList]
 refine wpAny_bind (ksk_fold (fun i s'=>∃kA e,Inv X pins σ H s'/\s'.heap.get? kS=some (seqObj "list" kA e)/\s'.heap.get? a=some (seqObj "list" #[] e1)/\IntsAre kA.toList (ks.take i)) vs 0 _
  ⟨#[],0,I3,ok,oa,by simpa using IntsAre.nil⟩ ?step ?done)
 case step =>
  rintro j x s' hx ⟨kA,e,J,k1,k2,hk⟩;simp only[Nat.zero_add] at hk ⊢;have hj:j<vs.length:=(List.getElem?_eq_some_iff.mp hx).1;obtain⟨k,hkj⟩:∃k,ks[j]?= some k:=⟨_,List.getElem?_eq_getElem (by lia)⟩;have hz:kA.size<=vs.length:=by
   have h1:=hk.length;rw[Array.length_toList,List.length_take] at h1;lia
  refine wpAny_bind (wpAny_attempt (wpAny_mono (Zie J fk fa k1 k2 (fun v z=>nomatch z) (fun v z=>nomatch z) (turn j x k hx hkj) (Q':=fun v s2=>∃t2,v=.int k t2/\Inv X pins σ H s2/\s2.heap.get? kS=some (seqObj "list" kA e)/\s2.heap.get? a=some (seqObj "list" #[] e1)) fun v kx s2 H' J2 g1 g2 _ _ rk q=>?_) (fun v s2 he=>?_) fun _ _ hF=>hF.elim))
  ·obtain⟨rfl,rfl⟩:=q;obtain⟨t2,rfl⟩:=rk;exact⟨t2,rfl,J2,g1,g2⟩
  obtain⟨t2,rfl,J2,g1,g2⟩:=he
  try dsimp only
  have s1:=Heap.SameBut.update s2.heap kS (Obj.mapSeq (·.push (.int k t2)));obtain⟨c2,hc2⟩:∃c2,(s2.heap.update kS (Obj.mapSeq (·.push (.int k t2)))).get? kS=some (seqObj "list" (kA.push (.int k t2)) c2):=⟨_,get?_update_seq g1 (·.push (.int k t2))⟩;have ek:ks.take (j+1)=ks.take j ++ [k]:=by rw[List.take_add_one,hkj];simp
  have ea:(kA.push (Value.int k t2)).toList=kA.toList ++ [Value.int k t2]:=by simp
  refine wpAny_bind (listUpdate_at g1 rfl ?_ (by rw[sizeLine_eq];lia) (Nat.le_trans (Nat.le_of_eq (Array.size_push ..)) (by rw[sizeLine_eq];lia)));exact wpAny_pure ⟨rfl,kA.push (.int k t2),c2,J2.turned (t':=s2.toks) (fun b o hb e=>(s1.2 b hb).trans e) fk.1 fk.2.1 fk.2.2.2.1 fk.2.2.2.2.1 fk.2.2.2.2.2,hc2,(s1.2 a ne.symm).trans g2,by rw[ea,ek];exact ksk_snoc hk⟩
 case done =>
  rintro s' ⟨kA,e,J,k1,k2,hk⟩;have hk':IntsAre kA.toList ks:=by
   have e3:ks.take (0+vs.length)=ks:=List.take_of_length_le (by lia);rw[e3] at hk;exact hk
  have hsz:kA.size=vs.length:=by
   have h1:=hk'.length;rw[Array.length_toList] at h1;lia
  try dsimp only
  refine wpAny_bind (listItems_at k1 rfl ?_);refine Srd.ZjF hk' hsz h9 k1 k2 ne fun out ho2 hos=>?_;have s1:=Heap.SameBut.update s'.heap kS (Obj.mapSeq fun _=>(#[]:Array Value));have J1:Inv X pins σ H { s' with heap:=s'.heap.update kS (Obj.mapSeq fun _=>(#[]:Array Value)),toks:=s'.toks }:=J.turned (fun b o hb e=>(s1.2 b hb).trans e) fk.1 fk.2.1 fk.2.2.2.1 fk.2.2.2.2.1 fk.2.2.2.2.2;have na1:(s'.heap.update kS (Obj.mapSeq fun _=>(#[]:Array Value))).get? a=some (seqObj "list" #[] e1):=(s1.2 a ne.symm).trans k2;have s2:=Heap.SameBut.update (s'.heap.update kS (Obj.mapSeq fun _=>(#[]:Array Value))) a (Obj.mapSeq fun _=>out);have J2:=J1.turned (t':=s'.toks) (h':=(s'.heap.update kS (Obj.mapSeq fun _=>(#[]:Array Value))).update a (Obj.mapSeq fun _=>out)) (fun b o hb e=>(s2.2 b hb).trans e) fa.1 fa.2.1 fa.2.2.2.1 fa.2.2.2.2.1 fa.2.2.2.2.2;exact h _ out _ J2 (get?_update_seq na1 fun _=>out) ho2 hos
end
def Zk3(ks:List Int)(xs zs:List V):Prop := ∃ps:List (Int×V),ps.Perm (ks.zip xs)/\zs=ps.map Prod.snd/\ps.Pairwise (fun p q=>p.1<=q.1)
theorem Zgv{xs:List V}{us:List Value}(rv:Vals xs us):∀{ps:List (Int×Value)}{ks:List Int},ps.Perm (ks.zip us)->∃qs:List (Int×V),qs.Perm (ks.zip xs)/\qs.map Prod.fst=ps.map Prod.fst/\Vals (qs.map Prod.snd) (ps.map Prod.snd):=by
 have pd:∀{xs:List V}{us:List Value}{ks:List Int},Vals xs us->Paired (fun(p:Int×V)(q:Int×Value)=>p.1=q.1/\RelV p.2 q.2) (ks.zip xs) (ks.zip us):=by
  intro xs us ks r
  induction r generalizing ks with
  | nil=>cases ks <;> exact .nil
  | cons r t ih =>
   cases ks with
   | nil=>exact .nil
   | cons k ks=>exact .cons ⟨rfl,r⟩ ih
 have perm:∀{l l':List (Int×Value)},l.Perm l'->∀{m:List (Int×V)},Paired (fun(p:Int×V)(q:Int×Value)=>p.1=q.1/\RelV p.2 q.2) m l->∃m':List (Int×V),m'.Perm m/\Paired (fun(p:Int×V)(q:Int×Value)=>p.1=q.1/\RelV p.2 q.2) m' l':=by
  intro l l' h
  induction h with
  | nil=>exact fun{m} z=>⟨m,.refl _,z⟩
  | cons x _ ih =>
   intro m z;cases z with
   | cons r t =>
    obtain⟨m',h1,h2⟩:=ih t;exact⟨_::m',h1.cons _,.cons r h2⟩
  | swap x y l =>
   intro m z;cases z with
   | cons r t =>
    cases t with
    | cons r2 t2=>exact⟨_::_::_,.swap ..,.cons r2 (.cons r t2)⟩
  | trans _ _ ih1 ih2 =>
   intro m z;obtain⟨m1,h1,h2⟩:=ih1 z;obtain⟨m2,h3,h4⟩:=ih2 h2;exact⟨m2,h3.trans h1,h4⟩
 intro ps ks h;obtain⟨qs,h1,h2⟩:=perm h.symm (pd (ks:=ks) rv);refine⟨qs,h1,?_,?_⟩
 ·clear h h1
  induction h2 with
  | nil=>rfl
  | cons r _ ih=>rw[List.map_cons,List.map_cons,ih,r.1]
 ·clear h h1
  induction h2 with
  | nil=>exact .nil
  | cons r _ ih=>exact .cons r.2 ih
theorem Zj8{xs:List V}{us out:List Value}{ks:List Int}(rv:Vals xs us)(h:KskOut false ks us out):∃zs,Zk3 ks xs zs/\Vals zs out:=by
 obtain⟨ps,h1,rfl,h3⟩:=h;obtain⟨qs,k1,k2,k3⟩:=Zgv rv h1;refine⟨_,⟨qs,k1,rfl,?_⟩,k3⟩;have h3:(ps.map Prod.fst).Pairwise (· <= ·):=List.pairwise_map.mpr (h3.imp fun h=>h);rw[<- k2] at h3;exact List.pairwise_map.mp h3
theorem SqL.sameT{K:PySem.W.Frag}{H H':Hp}{P l:Addr}{L:List (Pos×Str)}{xs:List V}(h:SqL K H l xs)(T:ZbG H P L)(s:ZhT P H H'):SqL K H' l xs:=by
 obtain⟨ps,hP,_⟩:=T;have ne:∀o,H l=some o->(∀qs,o ≠ .tbl qs)->l≠P:=fun o e n z=>by
  rw[z,hP] at e;injection e with e;exact n _ e.symm
 rcases h with(h|⟨o,h⟩)|h
 ·exact .inl (.inl (s _ _ (ne _ h fun _ z=>nomatch z) h))
 ·exact .inl (.inr ⟨o,s _ _ (ne _ h fun _ z=>nomatch z) h⟩)
 ·exact .inr h
theorem LamSc.in1{X:Cx}{scope:Scope}{cl:List (Str×Addr)}{p:Str}{cap:List (Str×Nat)}(h:LamSc X scope cl p cap):LamSc (Zal X) scope cl p cap:=⟨h.kind,h.co,h.gen,h.nocell,h.par,h.own,h.has,h.caps⟩
structure LamX(X:Cx)(P:Addr)(L:List (Pos×Str))(params:Arguments)(scope:Scope)(body:Expr)(lpos:Pos)(clos:List (Str×Addr))(px:Str)(cap:List (Str×Nat))(kb:Nat)(t:TE):Prop where
 bm:Zja X.base X.mg
 code:∃c,X.env.code=.ref c/\codeHdIn X.K c P=true
 mem:(lpos,X.env.qual ++ "<lambda>")∈L
 one:∀q∈L,q.1.line=lpos.line->q.1.col=lpos.col->q.2=X.env.qual ++ "<lambda>"
 cl:closureFor scope X.env=pure clos
 df:defaultsOf params X.env=([],[])
 sc:LamSc X scope clos px cap
 bind:∀pm c' ctv u,bindArgs (kla_fn "<lambda>" (X.env.qual ++ "<lambda>") params body scope clos pm (.ref c') ctv) ⟨[u],[]⟩=pure [(px,u)]
 body:∀A' f cd s H,Room kb (A'.deeper (envX (X.env.qual ++ "<lambda>") scope s.heap.objs.size f cd clos))->PE (ZhJ { X with A:=A',xe:=no0 } (px::cap.map (·.1)) scope clos (X.env.qual ++ "<lambda>") f cd s H) body t
theorem Zjq{scope:Scope}{cl:List (Str×Addr)}(h:∀p∈scope.names,p.2=.free->∃c,cl.lookup p.1=some c):∀x,scope.names.lookup x=some .free->∃c,cl.lookup x=some c:=fun x e=>h (x,.free) (PySem.mem_of_lookup e) rfl
def Zfy(K:PySem.W.Frag)(P:Addr)(L:List (Pos×Str))(cap:List (Str×Nat))(t:TE)(v:V)(σ : St)(H:Hp)(Q:VK):Prop :=
 ZbG H P L/\∃l xs ks,v=.ref l/\SqL K H l xs/\xs.length<=90000/\ks.length=xs.length/\∀f H2,H f=none->ZhT P H H2->ZbG H2 P L ->
  (∀(i:Nat) x kx,xs[i]?= some x->ks[i]?= some kx->t (lamσ x σ cap) H2 fun kv H'=>H'=H2/\kv=.int kx)/\∀p zs,H2 p=none->Zk3 ks xs zs->Q (.ref p) (upd H2 p (.lst zs))
section
variable{X:Cx}{P:Addr}{L:List (Pos×Str)}{params:Arguments}{scope:Scope}{body e:Expr}{lpos p pos kp:Pos}{clos:List (Str×Addr)}{px:Str}{cap:List (Str×Nat)}{t te:TE}{k kb:Nat}
theorem ZdM(Z:LamX X P L params scope body lpos clos px cap kb t)(hc:X.calm=true)(hr:Room k X.A)(hg:Gl X "sorted") (hm:X.mg "sorted" = none) (pa:PA X [e] (Zfj te Zkb)) (hk:kb+3<=k:=by decide)
  (hst:backTo pos (starEach [e] X.env)=(false,eval e X.env)::backTo pos (starEach [] X.env):=by rfl) (hpl:(backTo pos (starEach [e] X.env)).any (·.1)=false:=by rfl) :
  PE X (.Call (.Name "sorted" p) [e] [⟨some (Str.ofString "key"),.Lambda params body scope lpos,kp⟩] pos) (fun σ H Q=>te σ H fun v H1=>Zfy X.K P L cap t v σ H1 Q):=by
 intro pins s σ H Q I h;refine wpAny_Call_Name_kw (ZbQ I hg hm Zdv ?_);refine callWith_kw (thn (pa pos pins s σ H (fun vs H1=>match vs with | [v]=>Zfy X.K P L cap t v σ H1 Q|_=>False) I h) fun us s1 ⟨vs,H1,I1,r,q⟩=>?_) hst hpl
 match vs,r,q with
 | [v],r,q =>
  obtain⟨u,rfl,ru⟩:=r.one;obtain⟨T,l,xs,ks,rfl,hq,h9,hkl,q⟩:=q;obtain rfl:u=.ref l:=ru;obtain⟨c,hcode,hhd⟩:=Z.code;refine kws_cons (Zik I1 Z.bm hcode hhd T Z.mem Z.one Z.cl Z.df fun f H2 s2 I2 hn sT T2 LF=>kws_nil ?_);obtain⟨q1,q2⟩:=q f H2 hn sT T2;have hq2:=hq.sameT T sT;obtain⟨its,rv,pl,hz⟩:=I2.list hq2;have hlen:=rv.length;show wpAny _ _ (call (.builtin "sorted") [.ref l] [(Str.ofString "key",.ref f)]) _ _ _;refine call_function_entry_kw kind_sorted plain_sorted entry_sorted (ksk_s1 _ _) ?_;unfold Builtin.«sorted»;refine wpAny_bind (m:=checkCount "sorted" 1 1 _) (wpAny_pure ?_);refine wpAny_bind (collect_list pl.isList ?_ (by rw[sizeLine_eq];lia));refine wpAny_bind (wpAny_newList ?_ (by rw[sizeLine_eq];lia));have hsz:((s2.heap.push (seqObj "list" #[] 0)).update s2.heap.objs.size (Obj.mapSeq (· ++ its.toArray))).objs.size=s2.heap.objs.size+1:=by
   rw[Heap.size_update,size_push']
  have hoL:(((s2.heap.push (seqObj "list" #[] 0)).update s2.heap.objs.size (Obj.mapSeq (· ++ its.toArray))).push (seqObj "list" its.toArray 0)).get? (s2.heap.objs.size+1)=some (seqObj "list" its.toArray 0):=by
   rw[<- hsz];exact Heap.get?_push_size _ rfl
  have keep:∀b o,s2.heap.get? b=some o->(((s2.heap.push (seqObj "list" #[] 0)).update s2.heap.objs.size (Obj.mapSeq (· ++ its.toArray))).push (seqObj "list" its.toArray 0)).get? b=some o:=fun b o q=>by
   have hlt:b<s2.heap.objs.size:=Heap.lt_size q;rw[Heap.get?_push_ne _ _ _ (by rw[hsz];exact Nat.ne_of_lt (Nat.lt_succ_of_lt hlt)),Heap.get?_update_ne _ _ _ _ (Nat.ne_of_lt hlt),Heap.get?_push_ne _ _ _ (Nat.ne_of_lt hlt)];exact q
  show wpAny _ _ _ _ _ { s2 with heap:=((s2.heap.push (seqObj "list" #[] 0)).update s2.heap.objs.size (Obj.mapSeq (· ++ its.toArray))).push (seqObj "list" its.toArray 0) };rw[hsz];have hf0:H2 (s2.heap.objs.size+1)=none:=I2.hok.fresh (Nat.le_succ _);have fa:Za0 (Zal (Zal X)) pins H2 (s2.heap.objs.size+1):=I2.in1.in1.fpOk (Nat.le_succ _) hf0;have I3:Inv (Zal (Zal X)) pins σ H2 { s2 with heap:=((s2.heap.push (seqObj "list" #[] 0)).update s2.heap.objs.size (Obj.mapSeq (· ++ its.toArray))).push (seqObj "list" its.toArray 0),toks:=s2.toks }:=I2.in1.in1.kept keep;refine wpAny_bind (wpAny_holding (wpAny_call_entry_kw slot_list_sort ⟨_,hoL,rfl⟩ entry_list_sort ?body (ksk_l1 _ _)))
  case body =>
   show wpAny (model X.prog X.w) X.A.in1.in1 (Builtin.«list.sort» ⟨[.ref (s2.heap.objs.size+1)],[(Str.ofString "key",.ref f)]⟩) _ _ _;rw[ksk_t1];refine wpAny_mono (ZiU (ks:=ks) (P:=fun fl s'=>fl=.done (.ret .none)/\∃zs,Zk3 ks xs zs/\Inv X pins σ (upd H2 (s2.heap.objs.size+1) (.lst zs)) s') I3 hoL fa (by lia) (by lia) (fun i u' kx hu' hkx pins' s' J=>?_) fun s' out cc J ho hk hos=>?_) (fun fl s' hs=>?_) fun _ _ z=>z.elim
   ·obtain⟨x,hx,rx⟩:∃x,xs[i]?= some x/\RelV x u':=by
     have hi:=(List.getElem?_eq_some_iff.mp hu').1;obtain⟨u2,e2,r2⟩:=rv.get (List.getElem?_eq_getElem (show i<xs.length by lia));rw[hu'] at e2;cases e2;exact⟨_,List.getElem?_eq_getElem (by lia),r2⟩
    obtain⟨pm,ctv,c',oc,vs,tq,g1,g2,g3,g4⟩:=LF;exact ZjJ (X:=Zal (Zal X)) (k:=kb) J hc (((hr.mono hk).in1).in1) Z.sc.in1.in1 g1 g2 g3 g4 (Z.bind pm c' ctv u') rx (Z.body _ f (.ref c') s' H2 ((((hr.mono hk).in1).in1).deeper _)) (q1 i x kx hx hkx)
   ·obtain⟨zs,hz1,hz2⟩:=Zj8 rv hk;refine⟨rfl,zs,hz1,?_⟩;have hzl:zs.length=out.size:=by rw[hz2.length,Array.length_toList]
    have J':Inv X pins σ H2 s':=Inv.out1 I2.ok (Inv.out1 I2.in1.ok J);exact J'.adopt fa ⟨by rw[sizeLine_eq];lia,out.toList,cc,hz2,by rw[Array.toArray_toList];exact ho⟩
   ·obtain⟨rfl,zs,hz1,J⟩:=hs;exact⟨_,rfl,wpAny_pure ⟨_,rfl,.ref _,_,J,rfl,q2 _ zs hf0 hz1⟩⟩
end
section
variable{P:Program}{w:World}{K:PySem.W.Frag}{mg:Str->Option Value}{base:Heap}
theorem Fun.okL{x qual:Str}{st:Stmt}{f c:Addr}{fd:FuncData}{N ps:List Str}{k:Nat}{sp:Sp}(F:Fun K x qual st f fd)(hcd:fd.code=.ref c)(S:FnScope N ps (Zg st))(len:∀vs H Q E,sp vs H Q E->vs.length=ps.length)
  (hbody:∀(A:Around)(outer:List Env)(s:Shared)(H:Hp)(vs:List V)(Q:VK)(E:XK),Room k (A.deeper (envOfC qual (Zg st) s.heap.objs.size f (.ref c)))->sp vs H Q E ->
   ∃t,PSs (Zia CX0 P w K mg base N qual (Zg st) f (.ref c) A outer s H E).nox (Zj st) t/\t { nx:=fun _ H'=>Q .non H',rt:=Q } (start N vs) H):FnOk P w K mg base CX0 (k+1) f fd ps sp:=by
 obtain⟨oc,od,kV,doc,pm,an,cdv,ct,osl,rfl,lk,hc⟩:=F.ex;have e:cdv=.ref c:=hcd;subst e;refine ZjH lk hc S len fun A outer s H vs Q E hr hsp=>?_;obtain⟨t,h,q⟩:=hbody A outer s H vs Q E hr hsp;exact⟨t,h.nox,q⟩
structure OnlyT(ts:List Addr)(a:Addr)(H:Hp):Prop where
 tab:∀p∈ts,H p=some (.tbl #[])
 no:∀b,b∉ts->b≠a->H b=none
 scr:a∉ts->H a=none\/∃o xs,H a=some (.frz o (.lst xs))
theorem ZgZ{mb:Str->Option Value}{k:Nat}{fa a:Addr}{fd:FuncData}{x:Str}{sp:Sp}{s₁ : Shared}{vs:List Value}{ns:List Int}{ts:List Addr}
  (KX:K.In s₁.heap) (hns:s₁.heap.Ns mainGlobals mg) (hb:s₁.heap.Ns builtinsNs mb) (hbb:∀x:Str,x ≠ "__name__" -> mb x=bootBuiltins x) (hlim:s₁.heap.NoLimit) (hg:s₁.gens=#[])
  (hbm:∃bm o,mg "__builtins__" = some (.ref bm)/\bm≠builtinsNs/\s₁.heap.get? bm=some o/\o.cls=.type "module" /\ o.dict=some builtinsNs/\o.data=.plain)
  (hts:∀p∈ts,s₁.heap.get? p=some (tabObj #[])) (htk:∀p∈ts,K.lookup p=none) (htc:∀p∈ts,∃c,codeHdIn K c p=true)
  (ha:s₁.heap.get? a=some { cls:=.type "list",data:=.seq vs.toArray }) (hi:IntsAre vs ns) (hl:ns.length<=sizeLine) (hr:Room k callerA)
  (F:∀base:Heap,K.In base->base.Ns mainGlobals mg->Zja base mg->FnOk P w K mg base CX0 k fa fd [x] sp) (hbind:∀(s:Shared)(u:Value),BindsTo s fd ⟨[u],[]⟩ [(x,u)])
  (hsp:∀H:Hp,(∀p∈ts,H p=some (.tbl #[]))->SqL K H a (ns.map V.int)->sp [.ref a] H (fun v _=>v=.bl true) fun _ _ _=>False) :
  codeAny (model P w) callerA (.call (.ref fa) ⟨[.ref a],[]⟩) (fun r s'=>r=.ok (.ret (.bool true))/\OldK s₁.heap s'.heap/\s'.os=s₁.os/\AllBare s'.gens) s₁ := by
 have rv:=Zeh hi;have lenV:=hi.length;have hat:a∉ts:=fun z=>by
  have:=hts a z;rw[ha] at this;cases this
 have core:∀H:Hp,OnlyT ts a H->SqL K H a (ns.map V.int)->HOk P w H s₁.heap->(H a≠none->K.lookup a=none) ->
   codeAny (model P w) callerA (.call (.ref fa) ⟨[.ref a],[]⟩) (fun r s'=>r=.ok (.ret (.bool true))/\OldK s₁.heap s'.heap/\s'.os=s₁.os/\AllBare s'.gens) s₁ := by
  intro H hO hS hok hK;have base_of:∀{b:Addr}{o:Obj},s₁.heap.get? b=some o->H b=none->(Zh9 s₁.heap H).get? b=some o:=fun e n=>ZiV e n;have other:∀{b:Addr}{o:Obj},s₁.heap.get? b=some o->(∀z n,o.data ≠ .seq z n)->(∀z,o.data ≠ .fields z)->H b=none:=fun{b o} e n1 n2=>by
   refine hO.no b (fun z=>?_) fun z=>?_
   ·have:=hts b z;rw[e] at this;cases this;exact n2 _ rfl
   ·subst z;rw[ha] at e;cases e;exact n1 _ _ rfl
  have nsK:∀{b:Addr}{m:Str->Option Value},s₁.heap.Ns b m->(Zh9 s₁.heap H).Ns b m:=fun{b m} ⟨o,es,ep,e,d,r⟩=>⟨o,es,ep,base_of e (other e (fun _ _ z=>by rw[d] at z;cases z) fun _ z=>by rw[d] at z;cases z),d,r⟩;have hKb:K.In (Zh9 s₁.heap H):=fun b o e=>base_of (KX b o e) (by
   by_cases hb:b∈ts
   ·rw[htk b hb] at e;cases e
   ·by_cases hba:b=a
    ·subst hba;cases q:H b with
     | none=>rfl
     | some u =>
      rw[hK (by rw[q];simp)] at e;cases e
    ·exact hO.no b hb hba)
  have hM:Mod K mg (Zh9 s₁.heap H):=⟨hKb,nsK hns,⟨mb,nsK hb,hbb⟩,let ⟨mc,h1,h2⟩:=hlim;⟨mc,nsK h1,h2⟩⟩;obtain⟨bm,ob,b1,b2,b3,b4,b5,b6⟩:=hbm;have hbG:bm≠mainGlobals:=fun q=>by
   obtain⟨o,es,ep,e,hd,_⟩:=hns;rw[q,e] at b3;cases b3;rw[hd] at b6;cases b6
  have hB:Zja (Zh9 s₁.heap H) mg:=⟨bm,ob,b1,b2,hbG,base_of b3 (other b3 (fun _ _ z=>by rw[b6] at z;cases z) fun _ z=>by rw[b6] at z;cases z),b4,b5,b6⟩;have e0:Env0 P w K mg (Zh9 s₁.heap H) callerA [] s₁ H:=⟨rfl,hM,fun b o e=>ZjD e,Nat.le_of_eq (ZhE _ _),trivial,fun b hb=>absurd (show b∈([]:List Addr) from hb) (by simp),hok,.of_eq hg⟩;refine codeAny_mono ((F _ hKb (nsK hns) hB).run callerA [] s₁ H ⟨[.ref a],[]⟩ [.ref a] [.ref a] _ _ hr e0 (hbind s₁ (.ref a)) (.cons rfl .nil) (hsp H hO.tab hS)) fun r s' h=>?_
  match r,h with
  | .ok (.ret u),h =>
   obtain⟨v,H',os,bare,un,hok',r',q⟩:=h;have q':v=.bl true:=q;subst q';obtain rfl:u=Value.bool true:=r';have nofs:∀b,b∉frs []:=fun b z=>absurd (show b∈([]:List Addr) from z) (by simp);have tabEnd:∀b∈ts,∃ps,s'.heap.get? b=some (tabObj ps):=fun b hb=>by
    obtain⟨more,e⟩:=un.tbls b _ (hO.tab b hb);exact⟨_,hok' b _ e⟩
   have keepO:∀b o,b∉ts->s₁.heap.get? b=some o->s'.heap.get? b=some o:=fun b o hb e=>by
    by_cases hba:b=a
    ·subst hba;rcases hO.scr hb with z|⟨ob,xs,z⟩
     ·exact un.keep b o e z (nofs b) (by simp)
     ·have z2:=un.frzs b ob _ z;obtain⟨e1,_⟩:=hok b _ z;obtain⟨e2,_⟩:=hok' b _ z2;rw[e] at e1;cases e1;exact e2
    ·exact un.keep b o e (hO.no b hb hba) (nofs b) (by simp)
   refine⟨rfl,⟨fun b o e=>?_,fun b o e=>?_⟩,os,bare⟩
   ·by_cases hb:b∈ts
    ·obtain⟨ps,e2⟩:=tabEnd b hb;obtain⟨c,hc⟩:=htc b hb;have ht:=hts b hb;rw[e] at ht;cases ht;exact .inr (.inl ⟨((codeHd_of_K KX hc).tab (hts b hb)).isCodeTable,rfl,#[],ps,rfl,by rw[Array.empty_append];exact e2⟩)
    ·exact .inl (keepO b o hb e)
   ·by_cases hb:b∈ts
    ·obtain⟨ps,e2⟩:=tabEnd b hb;exact⟨_,e2⟩
    ·exact⟨o,keepO b o hb e⟩
 have tabOk:∀{H:Hp}(p:Addr),p∈ts->Zaw P w H s₁.heap p (.tbl #[]):=fun p hp=>hts p hp;cases hk:K.lookup a with
 | some o =>
  have e:=KX a o hk;rw[ha] at e;cases e;refine core (fun b=>if b∈ts then some (.tbl #[]) else none) ⟨fun p hp=>if_pos hp,fun b hb _=>if_neg hb,fun h=>.inl (if_neg h)⟩ (.inr ⟨_,vs.toArray,_,hk,rfl,rfl,rfl,by rw[List.size_toArray,lenV];exact hl,by simpa using rv⟩) (fun b u z=>?_) fun z=>absurd (if_neg hat) z
  by_cases hb:b∈ts
  ·have z:=(if_pos hb).symm.trans z;cases z;exact tabOk b hb
  ·have z:=(if_neg hb).symm.trans z;cases z
 | none =>
  refine core (fun b=>if b∈ts then some (.tbl #[]) else if b=a then some (.frz { cls:=.type "list",data:=.seq vs.toArray } (.lst (ns.map V.int))) else none)
   ⟨fun p hp=>if_pos hp,fun b hb hn=>(if_neg hb).trans (if_neg hn),fun h=>.inr ⟨_,_,(if_neg h).trans (if_pos rfl)⟩⟩ (.inl (.inr ⟨{ cls:=.type "list",data:=.seq vs.toArray },(if_neg hat).trans (if_pos rfl)⟩)) (fun b u z=>?_) fun _=>hk
  by_cases hb:b∈ts
  ·have z:=(if_pos hb).symm.trans z;cases z;exact tabOk b hb
  ·have z:=(if_neg hb).symm.trans z;by_cases hba:b=a
   ·have z:=(if_pos hba).symm.trans z;cases z;subst hba;exact⟨ha,by rw[List.length_map];exact hl,vs,_,rv,ha⟩
   ·have z:=(if_neg hba).symm.trans z;cases z
end
theorem Ziw{l:PySem.W.OpenLaw}{n k:Nat}{q:Program}{loose:List Str}{XP:(Str->Option Value)->Heap->Prop}{YP:World->Heap->Prop}{d:DefRec}{K:Params->PySem.W.Frag}{sp:World->Sp}{x:Str}{ts:List Addr}
  (hn:l.most=some n) (hn2:n<=sizeLine) (hdf:d.params.defaults=[]) (hr:Room k callerA)
  (hY:∀(w:World)(h:Heap),YP w h->(K w.params).In h/\∀p∈ts,h.get? p=some (tabObj #[]))
  (F:∀(w:World)(mg:Str->Option Value)(fa:Addr)(h:Heap),(K w.params).In h->h.Ns mainGlobals mg->mg d.name=some (.ref fa) ->
   ∃fd:FuncData,(∀(s:Shared)(u:Value),BindsTo s fd ⟨[u],[]⟩ [(x,u)])/\(∀p∈ts,(K w.params).lookup p=none/\∃c,codeHdIn (K w.params) c p=true)/\∀base:Heap,(K w.params).In base->base.Ns mainGlobals mg->Zja base mg->FnOk l.prog w (K w.params) mg base CX0 k fa fd [x] (sp w))
  (hsp:∀(w:World)(H:Hp)(a:Addr)(ns:List Int),ns.length<=n->(∀p∈ts,H p=some (.tbl #[]))->SqL (K w.params) H a (ns.map V.int)->sp w [.ref a] H (fun v _=>v=.bl true) fun _ _ _=>False) :
  PySem.W.WalkO q loose XP YP l.row.toRowW d [] (fun f vs=>PySem.call f vs):=by
 refine Att.Zfv hn hdf fun w s₀ s₁ mg mb fa o pm cd doc a vs ns G Y ho hd hcd hmg hobj hints hlen hg=>?_;obtain⟨KX,hts⟩:=hY w _ Y;obtain⟨fd,hb,ht,hF⟩:=F w mg fa _ KX G.T.g hmg;exact ZgZ KX G.T.g G.T.b G.T.builtins G.T.nolimit hg (let ⟨bm,ob,b1,b2,b3,b4,b5,b6⟩:=G.T.bmain;⟨bm,ob,b1,b2,b3,b4,b5,b6⟩) hts (fun p hp=>(ht p hp).1) (fun p hp=>(ht p hp).2) hobj hints (Nat.le_trans hlen hn2) hr hF hb fun H hO hS=>hsp w H a ns hlen hO hS
end L2
namespace Fg
open PySem L2
def Zf1(K:PySem.W.Frag)(ts:List Addr):Sp:=fun vs H Q _=>∃(a:Addr)(ns:List Int),vs=[.ref a]/\SqL K H a (ns.map V.int)/\ns.length<=63/\(∀p∈ts,H p=some (.tbl #[]))/\∀H',Q (.bl true) H'
end Fg
namespace L2
open PySem PySem.Spec PyProof.Rows PySem.W
section
variable{K:Frag}{x C D:Addr}{ox:Obj}{f:Str}
theorem Zjm{c:Value}(Y:XFld K C f)(N:XNot K C D)(hne:(Value.ref C == c)=false)(e:kitCls K (.ref C) c=some false):Answers (fun s=>K.In s.heap/\InstAt s.heap x ox C none) (.ref x) c false:=by
 obtain⟨cdD,hcD,_⟩:=any_some Y.hd;intro dep tk prog w A R s hs;obtain⟨⟨X,I⟩,hq⟩:=hs;have hq:=hq (s.toks+1);have hisD:Looks (model prog w) s.heap (isType (.ref C)) true:=by
  unfold clsIn at hcD
  split at hcD
  ·rename_i c' d' cd' sl' ho
   intro A' Q' E' s' k q;unfold isType loadHead;exact wpAny_bind (wpAny_loadPart (k _ _ (X _ _ ho)) (wpAny_pure q))
  ·cases hcD
 obtain⟨h0,g,d,tt,os⟩:=s;have L0:=I.type (M:=model prog w);unfold Builtin.«isinstance.nested»;refine wpAny_bind (L0.at ?_);rw[if_neg (by rw[hne];decide)];obtain⟨hty,his,hsub⟩:=kit_cls (M:=model prog w) X e;refine wpAny_bind (hty.at ?_);rw[if_pos (by decide)]
 k_delta "plainIsInstance"
 refine wpAny_bind (wpAny_bind (his.at ?_));simp only[Bool.not_true,Bool.false_eq_true,if_false];refine wpAny_bind ((L0.andThen hsub).at ?_);simp only[Bool.false_eq_true,if_false];refine wpAny_bind (ZgM X I Y N ?_);refine wpAny_bind (hisD.at ?_);simp only[Bool.not_true,Bool.false_eq_true,if_false];refine wpAny_bind (wpAny_rule ?_);refine hsub.at ?_
 first
  | exact wpAny_pure hq
  | exact wpAny_pure (wpAny_pure hq)
  | exact wpAny_bind (wpAny_pure (wpAny_pure hq))
theorem ZeU{prog:Program}{w:World}{A:Around}{E:Value->Shared->Prop}{tp:Addr}{cs:List Value}{vs:List Bool}{tk:Tok}{s:Shared}{Q:Fin->Shared->Prop}(X:K.In s.heap)(I:InstAt s.heap x ox C none)(hC:C≠tp)
  {ot:Obj} {nt:Nat} (htp:s.heap.get? tp=some ot) (htc:ot.cls=.type "tuple") (htd:ot.data=.seq cs.toArray nt) (ha:AnswersAll (fun s=>K.In s.heap/\InstAt s.heap x ox C none) (.ref x) cs vs)
  (hq:∀tk',Q (.done (.ret (.bool (vs.any id)))) { s with toks:=tk' }):wpAny (model prog w) A (Builtin.«isinstance.nested» ⟨[.ref x,.ref tp,.int 0 tk],[]⟩) Q E s:=by
 obtain⟨h,g,d,t,os⟩:=s;have L0:=I.type (M:=model prog w);have hT2:(⟨h,g,d,t,os⟩:Shared).TypeIs (.ref tp) "tuple" := ⟨_,htp,htc⟩;have f1:=F.isi_sub_tuple;unfold Builtin.«isinstance.nested»;refine wpAny_bind (L0.at ?_);rw[if_neg (by simpa using hC)]
 repeat (any_goals (first|assumption|wp_step))
 rw[htd];refine wpAny_pure ?_
 repeat (any_goals (first|assumption|wp_step))
 refine wpAny_arrayLoop ?_;simp only[Option.getD_some,List.toList_toArray];refine isinstance_items (dep:=0) (P:=fun s=>K.In s.heap/\InstAt s.heap x ox C none) (fun _ _ h=>h) cs vs _ _ ha ⟨X,I⟩ fun tk'=>?_;cases hv:vs.any id with
 | true =>
  simp only[if_true]
  repeat (any_goals (first|assumption|wp_step))
  exact hv ▸ hq tk'
 | false =>
  simp only[Bool.false_eq_true,if_false]
  repeat (any_goals (first|assumption|wp_step))
  exact hv ▸ hq tk'
end
section
variable{X:Cx}
theorem ZgD{K:Frag}(hK:X.K=K):ZbU X (.builtin "isinstance") (fun xs H Q=>∃a oe C D D' tp f,xs=[.ref a,.ref tp]/\H a=some (Known a oe)/\oe.cls=.ref C/\oe.dict=none/\(∃vs,oe.data=.fields vs)/\H tp=some (.tup [.ref D,.ref D'])/\XFld K C f /\
  (C≠D/\isClsIn K D=true/\mroIn K C (.ref D)=some false/\XNot K C D)/\(C≠D'/\isClsIn K D'=true/\mroIn K C (.ref D')=some false/\XNot K C D')/\Q (.bl false) H):=by
 subst hK;intro pins s σ H xs us Q I r h;obtain⟨a,oe,C,D,D',tp,f,rfl,hk,hc,hd,⟨vs,hf⟩,ht,Y,⟨h1,h2,h3,N⟩,⟨h1',h2',h3',N'⟩,q⟩:=h;obtain⟨u,v,rfl,rx,ry⟩:=Vals.two r;obtain rfl:u=Value.ref a:=rx;obtain rfl:v=Value.ref tp:=ry;have ho:s.heap.get? a=some oe:=(I.hok a _ hk).1;have J:InstAt s.heap a oe C none:=⟨ho,hc,by unfold notCls;rw[hf],by rw[hd];trivial⟩;obtain⟨_,its,rv,o,hto,htc,n,htd⟩:=(show Zaw X.prog X.w H s.heap tp (.tup [.ref D,.ref D']) from I.hok tp _ ht);obtain⟨u1,u2,rfl,r1,r2⟩:=Vals.two rv;obtain rfl:u1=Value.ref D:=r1;obtain rfl:u2=Value.ref D':=r2;have kc:∀{E:Addr},isClsIn X.K E=true->mroIn X.K C (.ref E)=some false->XNot X.K C E->kitCls X.K (.ref C) (.ref E)=some false:=fun{E} g1 g2 g3=>by
  unfold kitCls;dsimp only;unfold isClsIn at g1;rw[g1,g3.ty,if_pos (by decide)];exact g2
 have hCt:C≠tp:=fun z=>by
  obtain⟨cd,hcD,_⟩:=any_some Y.hd;unfold clsIn at hcD
  split at hcD
  ·rename_i c' d' cd' sl' hlk
   have:=I.kIn _ _ hlk;rw[z,hto] at this;cases this;cases htd
  ·cases hcD
 refine call_isinstance (S:=fun _ R s=>(X.K.In s.heap/\InstAt s.heap a oe C none)/\s.heap.get? tp=some o/\∀tk,R (.ok (.ret (.bool false))) { s with toks:=tk }) (fun prog w A R s hs=>isinstance_outer ?_ (fun z=>nomatch z)) ⟨⟨I.kIn,J⟩,hto,fun tk=>⟨.bl false,H,I.tok _,rfl,q⟩⟩
 obtain⟨⟨X1,I1⟩,h5,h6⟩:=hs;exact ZeU (cs:=[.ref D,.ref D']) (vs:=[false,false]) X1 I1 hCt h5 htc htd ⟨Zjm Y N (by simpa using h1) (kc h2 h3 N),Zjm Y N' (by simpa using h1') (kc h2' h3' N'),trivial⟩ h6
end
end L2
namespace L2
open PySem PySem.Spec PyProof.Rows PySem.SeqAt
def ZbC(bf:Nat->Nat->Bool):Nat->Nat
 | 0=>0
 | n+1=>if bf (n+1) (ZbC bf n)=true then n+1 else ZbC bf n
theorem args_min1(a:Value):argsOk "min" ⟨[a],[]⟩:=by unfold argsOk;kernel_rfl
section
variable{X:Cx}{pins:List (Addr×Obj)}{σ : St}{H:Hp}{s:Shared}{Q:VK}{l p it:Addr}{xs:List V}{bf:Nat->Nat->Bool}
theorem ZhH(hc:X.calm=true)(hu:X.A.in1.units+200<cLine)(ok:X.Ok)(hp0:H p=none)(hq:∀o,SqL X.K (upd H p o) l xs)(hlt:∀o (i j:Nat) x y,xs[i]?= some x->xs[j]?= some y->Zkc X.K (upd H p o) x y (bf i j))
  (q:∀x,xs[ZbC bf (xs.length-1)]?= some x->Q x (upd H p (.lst []))) :
  ∀(r i:Nat)(b:V)(s:Shared),xs.length-(i+1)=r->i<xs.length->xs[ZbC bf i]?= some b->Inv (Zal X) pins σ (upd H p (.lst [b,b])) s->s.heap.IsListIter it l (i+1)->Za0 (Zal X) pins (upd H p (.lst [b,b])) it ->
   codeAny (model X.prog X.w) X.A (.builtin "min.loop" ⟨[.ref it,.none,.ref p],[]⟩) (ZlL X pins σ Q) s:=by
 have hname:(toString "min" ++ toString ".loop" : String)= "min.loop" := by decide
 intro r
 induction r with
 | zero =>
  intro i b s hr hi hb I st hf;have hp:(upd H p (.lst [b,b])) p=some (.lst [b,b]):=Zb;obtain⟨_,its,n,rv,_,e⟩:=I.lstM hp;obtain⟨ub,uk,rfl,rb,rk⟩:=vals2 rv;refine codeAny_builtin PySem.F.entry_min_loop ?_;rw[Around.under_plainId PySem.F.plain_min_loop _];show wpAny _ X.A.in1 (seqItems? (.ref p) >>= _) _ _ _;refine wpAny_bind (wpAny_seqItems e rfl ?_);show wpAny _ X.A.in1 (tryCatch (pyNext (.ref it)) _ >>= _) _ _ _;refine wpAny_bind (wpAny_tryCatch (Ze2 hc I st (hq _) (by lia) hf fun s1 I1=>?_));obtain⟨_,its,n,rv,_,e⟩:=I1.lstM hp;show wpAny _ X.A.in1 (updateSeq p (fun _=>#[]) >>= _) _ _ _;refine wpAny_bind (wpAny_updateSeq e rfl (wpAny_bind (wpAny_letGo (wpAny_pure ?_))));have I2:=Inv.out1 ok (I1.lset (f:=fun _=>#[]) (t':=s1.toks) (its':=[]) hp e rfl .nil (Nat.zero_le _));rw[ZdF] at I2;refine⟨b,_,I2,rb,q b ?_⟩;rw[show xs.length-1=i by lia];exact hb
 | succ r ih =>
  intro i b s hr hi hb I st hf;have hp:(upd H p (.lst [b,b])) p=some (.lst [b,b]):=Zb;obtain⟨_,its,n,rv,_,e⟩:=I.lstM hp;obtain⟨ub,uk,rfl,rb,rk⟩:=vals2 rv;have hi1:i+1<xs.length:=by lia
  have hx:xs[i+1]?= some (xs[i+1]'hi1):=List.getElem?_eq_getElem hi1;generalize xs[i+1]'hi1=a at hx;refine codeAny_builtin PySem.F.entry_min_loop ?_;rw[Around.under_plainId PySem.F.plain_min_loop _];show wpAny _ X.A.in1 (seqItems? (.ref p) >>= _) _ _ _;refine wpAny_bind (wpAny_seqItems e rfl ?_);show wpAny _ X.A.in1 (tryCatch (pyNext (.ref it)) _ >>= _) _ _ _;refine wpAny_bind (wpAny_tryCatch (Zct I st (hq _) hx hf fun u s1 I1 st1 ru=>?_));obtain⟨d1,d2,D1,D2,c1,c2,hd,hl⟩:=hlt (.lst [b,b]) (i+1) (ZbC bf i) a b hx hb;obtain⟨as,ra⟩:=D1.reads I1 ru;obtain⟨bs,rb'⟩:=D2.reads I1 rk;show wpAny _ X.A.in1 (tryCatch (holding [u,u] (richCompare .Lt u uk >>= _)) _ >>= _) _ _ _;refine wpAny_bind (wpAny_tryCatch (wpAny_holding (wpAny_bind (hl.at X.A.in1 ra rb' c1 c2 (by lia) X.prog X.w _ _ ?_))));refine wpAny_bind (wpAny_holding (wpAny_truthy_bool ?_));refine wpAny_bind (wpAny_letGo (wpAny_pure ?_));obtain⟨_,its2,n2,rv2,_,e2⟩:=I1.lstM hp;cases c:bf (i+1) (ZbC bf i) with
  | true =>
   simp only[if_true];refine wpAny_bind (wpAny_updateSeq e2 rfl (wpAny_bind (wpAny_letGo ?_)));rw[hname];have I2:=I1.lset (f:=fun _=>#[u,u]) (t':=s1.toks) (its':=[u,u]) (ys:=[a,a]) hp e2 rfl (.cons ru (.cons ru .nil)) (by show 2<=sizeLine;decide);have hf2:=ZfK (o:=.lst [a,a]) hf ⟨_,hp⟩;rw[ZdF] at I2 hf2;refine wpAny_pure ⟨plainId_quiet PySem.F.plain_min_loop _,ih (i+1) a _ (by lia) hi1 ?_ I2 ?_ hf2⟩
   ·show xs[if bf (i+1) (ZbC bf i)=true then i+1 else ZbC bf i]?= _
    rw[if_pos c];exact hx
   ·obtain⟨o,eo,_,back⟩:=Zbq st1;exact back _ ((Heap.get?_update_other _ _ (Zm hp hf.1)).trans eo)
  | false =>
   simp only[Bool.false_eq_true,if_false];refine wpAny_bind (wpAny_letGo ?_);rw[hname];refine wpAny_pure ⟨plainId_quiet PySem.F.plain_min_loop _,ih (i+1) b _ (by lia) hi1 ?_ I1 st1 hf⟩;show xs[if bf (i+1) (ZbC bf i)=true then i+1 else ZbC bf i]?= _
   rw[if_neg (by rw[c];decide)];exact hb
theorem Zg4(hc:X.calm=true)(hu:X.A.units+201<cLine){K:PySem.W.Frag}(hK:X.K=K):ZbU X (.builtin "min") (fun vs H Q=>∃(l:Addr)(xs:List V)(bf:Nat->Nat->Bool),vs=[.ref l]/\SqL K H l xs/\xs ≠ []/\∀p,H p=none->(∀o,SqL K (upd H p o) l xs) /\
  (∀o (i j:Nat) x y,xs[i]?= some x->xs[j]?= some y->Zkc K (upd H p o) x y (bf i j))/\∀x,xs[ZbC bf (xs.length-1)]?= some x->Q x (upd H p (.lst []))):=by
 subst hK;intro pins s σ H vs us Q I r h;have hname:(toString "min" ++ toString ".loop" : String)= "min.loop" := by decide
 obtain⟨l,xs,bf,rfl,hq,hne,alt⟩:=h;obtain⟨u,rfl,r1⟩:=vals1 r;cases r1;obtain⟨its,rv,pl,hz⟩:=I.list hq;show wpAny _ X.A (call (.builtin "min") [.ref l] []) _ _ _;refine PyProof.Rows.kmk_tree PySem.F.kind_min PySem.F.plain_min PySem.F.entry_min (args_min1 _) ?_;show wpAny _ X.A.in1 (Builtin.Builtins.bindParams "min" ["key","default"] 0 ⟨[],[]⟩ >>= _) _ _ s;refine wpAny_bind (wpAny_of_eq (show Builtin.Builtins.bindParams "min" ["key","default"] 0 ⟨[],[]⟩=pure [none,none] from rfl) ?_);refine wpAny_bind (wpAny_pure ?_);refine wpAny_bind (wpAny_pyIter_list pl.isList ?_);refine wpAny_bind (wpAny_newList ?_ (Nat.zero_le _));rw[hname];refine wpAny_pure ⟨plainId_quiet PySem.F.plain_min_loop _,?_⟩;have hS:(s.heap.push { cls:=.type "list_iterator",data:=.fields #[.ref l,.int 0 0] }).objs.size=s.heap.objs.size+1:=size_push' ..;have I0:Inv (Zal X) pins σ H { s with heap:=s.heap.push { cls:=.type "list_iterator",data:=.fields #[.ref l,.int 0 0] },toks:=s.toks }:=I.in1.kept fun b o e=>Heap.get?_push_of_some _ e;have I1:=I0.lnew (its:=[]) (t':=s.toks) .nil (Nat.zero_le _);have fr:H (s.heap.push { cls:=.type "list_iterator",data:=.fields #[.ref l,.int 0 0] }).objs.size=none:=I0.fresh;have ne:s.heap.objs.size≠(s.heap.push { cls:=.type "list_iterator",data:=.fields #[.ref l,.int 0 0] }).objs.size:=by rw[hS];exact Nat.ne_of_lt (Nat.lt_succ_self _)
 have hf:Za0 (Zal X) pins (upd H (s.heap.push { cls:=.type "list_iterator",data:=.fields #[.ref l,.int 0 0] }).objs.size (.lst [])) s.heap.objs.size:=I.in1.fpOk (Nat.le_refl _) (by rw[Zh ne];exact I.fresh);have st:((s.heap.push { cls:=.type "list_iterator",data:=.fields #[.ref l,.int 0 0] }).push { cls:=.type "list",data:=.seq ([]:List Value).toArray }).IsListIter s.heap.objs.size l 0:=⟨_,Heap.get?_push_of_some _ (Heap.get?_push_size _ rfl),rfl,rfl⟩;have hp0:(upd H (s.heap.push { cls:=.type "list_iterator",data:=.fields #[.ref l,.int 0 0] }).objs.size (.lst [])) (s.heap.push { cls:=.type "list_iterator",data:=.fields #[.ref l,.int 0 0] }).objs.size=some (.lst []):=Zb;obtain⟨_,its0,n0,rv0,_,e0⟩:=I1.lstM hp0;cases rv0;refine codeAny_builtin PySem.F.entry_min_loop ?_;rw[Around.under_plainId PySem.F.plain_min_loop _];show wpAny _ X.A.in1 (seqItems? (.ref _) >>= _) _ _ _;refine wpAny_bind (wpAny_seqItems e0 rfl ?_);show wpAny _ X.A.in1 (tryCatch (pyNext (.ref s.heap.objs.size)) _ >>= _) _ _ _;obtain⟨hq0,hl0,q1⟩:=alt _ fr;have hlen:0<xs.length:=List.length_pos_iff.mpr hne;have hx0:xs[0]?= some (xs[0]'hlen):=List.getElem?_eq_getElem hlen;generalize xs[0]'hlen=a at hx0;refine wpAny_bind (wpAny_tryCatch (Zct (x:=a) I1 st (hq0 _) hx0 hf fun u s1 I2 st1 ru=>?_));obtain⟨_,its2,n2,rv2,_,e2⟩:=I2.lstM hp0;show wpAny _ X.A.in1 (updateSeq _ (fun _=>#[u,u]) >>= _) _ _ _;refine wpAny_bind (wpAny_updateSeq e2 rfl ?_);rw[hname];have I3:=I2.lset (f:=fun _=>#[u,u]) (t':=s1.toks) (its':=[u,u]) (ys:=[a,a]) hp0 e2 rfl (.cons ru (.cons ru .nil)) (by show 2<=sizeLine;decide);have hf2:=ZfK (o:=.lst [a,a]) hf ⟨_,hp0⟩;rw[ZdF] at I3 hf2;refine wpAny_pure ⟨plainId_quiet PySem.F.plain_min_loop _,ZhH hc (by show X.A.units+1+200<cLine;lia) I.ok fr hq0 hl0 q1 _ 0 a _ rfl hlen hx0 I3 ?_ hf2⟩;obtain⟨o,eo,_,back⟩:=Zbq st1;exact back _ ((Heap.get?_update_other _ _ (Zm hp0 hf.1)).trans eo)
end
end L2
namespace K18
open PySem L2 FgM Fg
def top(i:Nat):Stmt:=PySem.Challenge.pw_formgrove_k18_least_groves.main.body.getD i (.Pass ⟨0,0,0,0⟩)
abbrev ZaQ:Stmt:=top 6
abbrev Zdj:Stmt:=top 8
abbrev Z5:Stmt:=top 9
abbrev Zam:Stmt:=top 10
abbrev Zbw:Stmt:=top 13
abbrev Zb5:Stmt:=top 14
abbrev Zak:Stmt:=top 15
abbrev ZaR:Stmt:=top 16
abbrev Zb8:Stmt:=top 17
abbrev Zab:Stmt:=top 18
abbrev Z0:Stmt:=top 19
abbrev Z1:Stmt:=top 20
abbrev Zbr:Stmt:=top 22
abbrev Zb3:Stmt:=top 23
abbrev Za6:Stmt:=top 24
abbrev Zac:Stmt:=top 25
abbrev Zbu:Stmt:=top 26
abbrev Za7:Stmt:=top 27
abbrev Zbt:Stmt:=top 28
abbrev Zai:Stmt:=top 29
abbrev Zq:Stmt:=top 30
abbrev Zbe:Stmt:=top 31
theorem Zba:FnScope ["grove","words","waiting","tree"] ["grove"] (Zg ZaQ):=⟨rfl,rfl,rfl,by decide +kernel,rfl,by decide +kernel,by decide +kernel⟩
theorem Zj7:FnScope ["grove"] ["grove"] (Zg Zdj):=⟨rfl,rfl,rfl,by decide +kernel,rfl,by decide +kernel,by decide +kernel⟩
theorem Zcp:FnScope ["words"] ["words"] (Zg Z5):=⟨rfl,rfl,rfl,by decide +kernel,rfl,by decide +kernel,by decide +kernel⟩
theorem Zc9:FnScope ["groves"] ["groves"] (Zg Zam):=⟨rfl,rfl,rfl,by decide +kernel,rfl,by decide +kernel,by decide +kernel⟩
theorem ZcO:FnScope ["form","counts","end"] ["form"] (Zg Zbw):=⟨rfl,rfl,rfl,by decide +kernel,rfl,by decide +kernel,by decide +kernel⟩
theorem ZaO:FnScope ["rules","inners","counts","fallen","kind","tag","inner","rest","count"] ["rules","inners","counts"] (Zg Zb5):=⟨rfl,rfl,rfl,by decide +kernel,rfl,by decide +kernel,by decide +kernel⟩
theorem Zda:FnScope ["inner","rest"] ["inner","rest"] (Zg Zak):=⟨rfl,rfl,rfl,by decide +kernel,rfl,by decide +kernel,by decide +kernel⟩
theorem Ze7:FnScope ["count"] ["count"] (Zg ZaR):=⟨rfl,rfl,rfl,by decide +kernel,rfl,by decide +kernel,by decide +kernel⟩
theorem ZiL:FnScope ["form"] ["form"] (Zg Zb8):=⟨rfl,rfl,rfl,by decide +kernel,rfl,by decide +kernel,by decide +kernel⟩
theorem Zav:FnScope ["form","counts","groves","small","kind"] ["form","counts"] (Zg Zab):=⟨rfl,rfl,rfl,by decide +kernel,rfl,by decide +kernel,by decide +kernel⟩
theorem ZW:FnScope ["form","kind","counts","groves","found","above","tag","inner","rest"] ["form","kind","counts","groves"] (Zg Z0):=⟨rfl,rfl,rfl,by decide +kernel,rfl,by decide +kernel,by decide +kernel⟩
theorem ZaU:FnScope ["form","counts","starts","small","groves"] ["form"] (Zg Z1):=⟨rfl,rfl,rfl,by decide +kernel,rfl,by decide +kernel,by decide +kernel⟩
theorem Zhh:FnScope ["_law_script","_law_k"] ["_law_script","_law_k"] (Zg Zbr):=⟨rfl,rfl,rfl,by decide +kernel,rfl,by decide +kernel,by decide +kernel⟩
theorem Zar:FnScope ["_law_seed","_law_v","_law_letters","_law_many","_law_at","_law_more","_law_word","_law_j","_law_sign"] ["_law_seed","_law_v"] (Zg Zb3):=⟨rfl,rfl,rfl,by decide +kernel,rfl,by decide +kernel,by decide +kernel⟩
theorem Zx:FnScope ["_law_script","_law_cell_here","_law_many","_law_seed","_law_turn","_law_tails","_law_rules","_law_k","_law_drawn","_law_word","_law_last","_law_j","_law_after","_law_some","_law_heads"] ["_law_script"] (Zg Za6):=⟨rfl,rfl,rfl,by decide +kernel,rfl,by decide +kernel,by decide +kernel⟩
theorem ZQ:FnScope ["_law_one","_law_number","_law_word","_law_numbers","_law_first","_law_last","_law_rules","_law_j","_law_rest"] ["_law_one","_law_number","_law_word"] (Zg Zac):=⟨rfl,rfl,rfl,by decide +kernel,rfl,by decide +kernel,by decide +kernel⟩
theorem Za5:FnScope ["_law_found","_law_words","_law_pile","_law_row","_law_at","_law_tree"] ["_law_found"] (Zg Zbu):=⟨rfl,rfl,rfl,by decide +kernel,rfl,by decide +kernel,by decide +kernel⟩
theorem Za3:FnScope ["_law_one","_law_found","_law_lists_here","_law_kind","_law_words"] ["_law_one","_law_found"] (Zg Za7):=⟨rfl,rfl,rfl,by decide +kernel,rfl,by decide +kernel,by decide +kernel⟩
theorem Zaq:FnScope ["_law_one","_law_lists_here","_law_reached","_law_kind","_law_tag_here","_law_inner","_law_rest","_law_words","_law_best"] ["_law_one","_law_lists_here"] (Zg Zbt):=⟨rfl,rfl,rfl,by decide +kernel,rfl,by decide +kernel,by decide +kernel⟩
theorem ZaD:FnScope ["_law_one","_law_good_here","_law_k","_law_rule"] ["_law_one"] (Zg Zai):=⟨rfl,rfl,rfl,by decide +kernel,rfl,by decide +kernel,by decide +kernel⟩
theorem ZM:FnScope ["_law_one","_law_lists_here","_law_there","_law_some","_law_found","_law_caught","e"] ["_law_one","_law_lists_here"] (Zg Zq):=⟨rfl,rfl,rfl,by decide +kernel,rfl,by decide +kernel,by decide +kernel⟩
theorem Zdm:FnScope ["_law_script","_law_one","_law_cell_here","_law_found","_law_lists_here"] ["_law_script"] (Zg Zbe):=⟨rfl,rfl,rfl,by decide +kernel,rfl,by decide +kernel,by decide +kernel⟩
structure XC(K:PySem.W.Frag)(mg:Str->Option Value)(X_GroveError X_TooMany X_TooBig X_NoneFits:Addr):Prop where
 n_GroveError:mg "GroveError" = some (.ref X_GroveError)
 n_TooMany:mg "TooMany" = some (.ref X_TooMany)
 n_TooBig:mg "TooBig" = some (.ref X_TooBig)
 n_NoneFits:mg "NoneFits" = some (.ref X_NoneFits)
 bas:XBas K X_GroveError
 isG:PySem.W.isClsIn K X_GroveError=true
 tyG:PySem.W.typeIn K (.ref X_GroveError)=some (.type "type")
 c_GroveError:XCl K X_GroveError
 c_TooMany:XCl K X_TooMany
 c_TooBig:XCl K X_TooBig
 c_NoneFits:XCl K X_NoneFits
 top_TooBig:XTop K X_TooBig X_GroveError
 ini_TooBig:PySem.W.findIn K (.ref X_TooBig) "__init__" = some (some (.builtin "ValueError.__init__"))
 f_TooBig_place:XFld K X_TooBig "place"
 mV_TooBig:PySem.W.mroIn K X_TooBig (.type "ValueError")=some true
 ne_TooBig:X_TooBig≠X_GroveError
 not_TooBig_TooMany:XNot K X_TooBig X_TooMany
 nn_TooBig_TooMany:X_TooBig≠X_TooMany
 not_TooBig_NoneFits:XNot K X_TooBig X_NoneFits
 nn_TooBig_NoneFits:X_TooBig≠X_NoneFits
 m_TooBig_GroveError:PySem.W.mroIn K X_TooBig (.ref X_GroveError)=some true
 m_TooBig_TooMany:PySem.W.mroIn K X_TooBig (.ref X_TooMany)=some false
 m_TooBig_TooBig:PySem.W.mroIn K X_TooBig (.ref X_TooBig)=some true
 m_TooBig_NoneFits:PySem.W.mroIn K X_TooBig (.ref X_NoneFits)=some false
abbrev Zn:List (Pos×Str):=[(⟨58,34,58,59⟩,"least_groves.<locals>.<lambda>")]
abbrev ZcI:List Str:=["int","isinstance","len","list","min","range","set","sorted","str","tuple"]
section
variable{P:Program}{w:World}{K:PySem.W.Frag}{mg:Str->Option Value}{base:Heap}{f:Addr}{fd:FuncData}{X_GroveError X_TooMany X_TooBig X_NoneFits:Addr}
theorem Zft(B:∀x∈ZcI,mg x=none)(F:Fun K "words_of" "words_of" ZaQ f fd):FnOk P w K mg base CX0 1 f fd ["grove"] (Zfr K):=by
 refine F.ok Zba (fun vs H Q E h=>?_) (fun cdv A outer s H vs Q E hr h=>?_)
 ·obtain⟨a,xs,g,rfl,_⟩:=h;rfl
 obtain⟨a,xs,g,rfl,hT,hG,hlen,q⟩:=h;have hu:=Zb4 hr;refine⟨_,(Zc (Zo (i:=1) Zba.nd rfl (Or.inl rfl) (Zax Zd))
  (Zc (Zo (i:=2) Zba.nd rfl (Or.inl rfl) (Za1 ZeL rfl (B "list" (by decide)) ZhR (Za (Zhy (pv 0)) Zd)))
  (Zc (Zcv PassesOwn.never (Z8 (pv 2) (fun _=>rfl))
   (Zc (Zo (i:=3) Zba.nd rfl (Or.inl rfl) (Zi4 PySem.F.plainAttrs_list PySem.F.slot_list_pop PySem.F.type_list_pop Zi3 (pv 2)))
    (Zf (Zas (Zr (ZjK hu) (pv 3) Zcl (Zt _))
     (Zf (Zad (Zbn PySem.F.plainAttrs_list PySem.F.slot_list_append PySem.F.type_list_append ZJ (pv 1) (Za (pv 3) Zd))))
     (Zc (Zad (Zbn PySem.F.plainAttrs_list PySem.F.slot_list_append PySem.F.type_list_append ZJ (pv 1) (Za (Zw ZP (pv 3) Ze (fun _ _=>rfl)) Zd)))
      (Zc (Zad (Zbn PySem.F.plainAttrs_list PySem.F.slot_list_append PySem.F.type_list_append ZJ (pv 2) (Za Zcl Zd)))
      (Zf (Zad (Zbn PySem.F.plainAttrs_list PySem.F.slot_list_extend PySem.F.type_list_extend Zgw (pv 2) (Za (Zhy (Zw ZP (pv 3) Ze (fun _ _=>rfl))) Zd))))))))))
  (Zf (ZR (pv 1)))))),?_⟩
 refine⟨by decide,fun p hp=>?_⟩;refine⟨_,rfl,a,xs,rfl,(Zi.new hp).seqT hT,fun t ht=>⟨t,_,rfl,.inr (SqT.of Zb),fun l hl=>?_⟩⟩;obtain⟨ntp,ht0⟩:=ZaG ht;obtain⟨nlt,hl0⟩:=ZaG hl;obtain⟨nlp,hl1⟩:=ZaG hl0
 let W:Nat->St->Hp->Prop:=fun m σ H1=>∃(acc:List Str)(st:List (Item Str))(vs:List V)(v3:Option V),σ =[some (.ref a),some (.ref p),some (.ref l),v3]/\Zi H H1 /\
  H1 p=some (.lst (acc.map V.str))/\H1 l=some (.lst vs)/\Paired (ZjS H1) vs st/\acc++ZaH SL st=words SL g/\m=(ZaH SL st).length
 have s3:Zi H (upd (upd (upd H p (.lst [])) t (.tup xs.reverse)) l (.lst xs.reverse)):=((Zi.new hp).upd_new ht0).upd_new hl1;refine⟨W,⟨_,[],(items g).reverse,xs.reverse,none,rfl,s3,?_,Zb,?_,?_,rfl⟩,?_⟩
 ·rw[Zh nlp.symm,Zh ntp.symm];exact Zb
 ·exact ZbS s3.tk (Zcb hG.items)
 ·rw[ZeH];rfl
 rintro m σ H1 ⟨acc,st,vs,v3,rfl,sm,hp1,hl1',hst,hw,rfl⟩;have hacc:acc.length<=1000:=by
  have:=congrArg List.length hw;rw[List.length_append] at this;lia
 refine⟨_,rfl,!vs.isEmpty,.inl ⟨vs,SqL.of hl1',rfl⟩,?_⟩;by_cases e:vs=[]
 ·subst e;cases hst;refine Za8 ?_;rw[Zgy,List.append_nil] at hw;subst hw;exact⟨_,rfl,q p H1 sm hp hp1⟩
 ·obtain⟨vs',v,rfl⟩:=Zj4 e;obtain⟨st',x,rfl,hst',hx⟩:=Paired.unsnoc hst;have ne:(!(vs' ++ [v]).isEmpty)=true:=by simp
  rw[ne];refine Zdb ?_;rw[Zbz] at hw;refine⟨fun σ' H'=>∃m',m'<(ZaH SL (st' ++ [x])).length/\W m' σ' H',fun _ _ h=>h,?_⟩;refine⟨_,rfl,.inl ⟨rfl,_,SqL.of hl1'⟩,l,_,v,rfl,rfl,hl1',Zem _ _,?_⟩;rw[ZeB];have k1:TK H1 (upd H1 l (.lst vs')):=TK.lst hl1';have hp2:(upd H1 l (.lst vs')) p=some (.lst (acc.map V.str)):=by
   rw[Zh nlp.symm];exact hp1
  have hstk:=ZbS k1 hst';have hx2:=hx.mono k1;have sm2:Zi H (upd H1 l (.lst vs')):=sm.upd_new hl1;have hvl:vs'.length=st'.length:=Paired.length hst';have hsl:st'.length<=1000:=by
   have:=congrArg List.length hw;rw[List.length_append,List.length_append] at this;have h2:=Zgd SL st';lia
  cases x with
  | none =>
   have hv:v=.str SL:=hx;subst hv;refine⟨_,rfl,.inr ⟨rfl,_,rfl,?_⟩⟩;refine ZbI (fun _=>?_) (fun c=>absurd (decide_eq_true rfl) c);refine⟨_,rfl,.inl ⟨rfl,_,SqL.of hp2⟩,_,rfl,p,_,_,rfl,rfl,hp2,Zz (by rw[List.length_map];lia),?_⟩;refine⟨(ZaH SL st').length,?_,acc ++ [SL],st',vs',_,rfl,sm2.upd_new hp,?_,?_,ZbS (TK.lst hp2) hstk,?_,rfl⟩
   ·rw[Zbz,List.length_append];show _<1+_;lia
   ·rw[Zb,List.map_append];rfl
   ·rw[Zh nlp];exact Zb
   ·rw[List.append_assoc];exact hw
  | some tw =>
   obtain⟨t',w'⟩:=tw;obtain⟨p',q',ys,rfl,h1,h2,h3⟩:=hx2;refine⟨_,rfl,.inl ⟨p',_,_,rfl,rfl,SqT.of h1,_,rfl,?_⟩⟩;refine Za8 ?_;refine⟨_,rfl,.inl ⟨rfl,_,SqL.of hp2⟩,_,rfl,p',_,0,_,rfl,rfl,SqT.of h1,rfl,p,_,_,rfl,rfl,hp2,Zz (by rw[List.length_map];lia),?_⟩;have k3:TK (upd H1 l (.lst vs')) (upd (upd H1 l (.lst vs')) p (.lst (acc.map V.str ++ [.str t']))):=TK.lst hp2;have hl3:(upd (upd H1 l (.lst vs')) p (.lst (acc.map V.str ++ [.str t']))) l=some (.lst vs'):=by
    rw[Zh nlp];exact Zb
   refine⟨_,rfl,.inl ⟨rfl,_,SqL.of hl3⟩,l,_,_,rfl,rfl,hl3,Zz (by lia),?_⟩;have k4:=TK.lst (o:=.lst (vs' ++ [.str SL])) hl3;have hl4:(upd (upd (upd H1 l (.lst vs')) p (.lst (acc.map V.str ++ [.str t']))) l (.lst (vs' ++ [.str SL]))) l=some (.lst (vs' ++ [.str SL])):=Zb;refine⟨_,rfl,.inl ⟨rfl,_,SqL.of hl4⟩,_,rfl,p',_,1,_,rfl,rfl,SqT.of (k4 _ _ (k3 _ _ h1)),rfl,q',ys,rfl,SqT.of (k4 _ _ (k3 _ _ h2)),fun t2 ht2=>?_⟩;obtain⟨n2l,ht3⟩:=ZaG ht2;obtain⟨n2p,ht4⟩:=ZaG ht3;obtain⟨_,ht5⟩:=ZaG ht4;have hl5:(upd (upd (upd (upd H1 l (.lst vs')) p (.lst (acc.map V.str ++ [.str t']))) l (.lst (vs' ++ [.str SL]))) t2 (.tup ys.reverse)) l=some (.lst (vs' ++ [.str SL])):=by
    rw[Zh n2l.symm];exact Zb
   have hys:=h3.length;have hwl:(words SL w').length<=1000:=by
    have:=congrArg List.length hw;rw[List.length_append,List.length_append] at this;have e2:(wi SL (some (t',w'))).length=(words SL w').length+2:=by
     show(t'::(words SL w' ++ [SL])).length=_;rw[List.length_cons,List.length_append];rfl
    lia
   refine⟨l,t2,_,_,rfl,rfl,hl5,SqT.of Zb,ZcQ (by rw[List.length_append,List.length_reverse,List.length_singleton];lia),?_⟩;have k6:=(k3.trans k4).trans ((TK.new (o:=.tup ys.reverse) ht2).trans (TK.lst (o:=.lst ((vs' ++ [.str SL])++ys.reverse)) hl5));refine⟨(ZaH SL (st' ++ [none]++(items w').reverse)).length,?_,acc ++ [t'],st' ++ [none]++(items w').reverse,_,_,rfl,?_,?_,Zb,?_,?_,rfl⟩
   ·rw[ZcV,Zbz];show _<(t'::(words SL w' ++ [SL])++ZaH SL st').length;simp only[List.length_append,List.length_cons,List.length_nil];lia
   ·exact(((sm2.upd_new hp).upd_new hl1).upd_new (sm.free ht5)).upd_new hl1
   ·rw[Zh nlp.symm,Zh n2p.symm,Zh nlp.symm,Zb,List.map_append];rfl
   ·exact Paired.app (Paired.app (ZbS k6 hstk) (.cons rfl .nil)) (ZbS k6 (Zcb h3.items))
   ·rw[ZcV,<- hw];show _=acc++(t'::(words SL w' ++ [SL])++ZaH SL st');simp
def ZeZ:Sp:=fun vs H Q _=>∃(p:Addr)(ws:List Str),vs=[.ref p]/\H p=some (.lst (ws.map V.str))/\∀r,H r=none->Q (.ref r) (upd H r (.tup [.int (ws.length:Nat),.ref p]))
theorem Zcn(B:∀x∈ZcI,mg x=none)(F:Fun K "rank_of_words" "rank_of_words" Z5 f fd):FnOk P w K mg base CX0 1 f fd ["words"] ZeZ:=by
 refine F.ok Zcp (fun vs H Q E h=>?_) (fun cdv A outer s H vs Q E hr h=>?_)
 ·obtain⟨p,ws,rfl,_⟩:=h;rfl
 obtain⟨p,ws,rfl,e1,q⟩:=h;refine⟨_,(Zf (ZR (ZK (Za (ZC Zu rfl (B "len" (by decide)) PySem.boot_len (Za (pv 0) Zd)) (Za (pv 0) Zd))))),?_⟩;refine⟨_,rfl,p,_,rfl,.inl (SqL.of e1),_,rfl,(by show 2<=sizeLine;decide),fun r hr1=>?_⟩;rw[List.length_map];exact q r hr1
theorem ZjL(B:∀x∈ZcI,mg x=none)(g_rank_of_words:Has P w K mg base "rank_of_words" ["words"] 1 ZeZ) (g_words_of:Has P w K mg base "words_of" ["grove"] 1 (Zfr K)) (F:Fun K "rank" "rank" Zdj f fd):FnOk P w K mg base CX0 2 f fd ["grove"] (Zh5 K):=by
 refine F.ok Zj7 (fun vs H Q E h=>?_) (fun cdv A outer s H vs Q E hr h=>?_)
 ·obtain⟨a,xs,g,rfl,_⟩:=h;rfl
 obtain⟨a,xs,g,rfl,hT,hG,hlen,q⟩:=h;refine⟨_,(Zf (ZR (ZF g_rank_of_words hr rfl (Za (ZF g_words_of hr rfl (Za (pv 0) Zd)) Zd)))),?_⟩;refine⟨_,rfl,a,xs,g,rfl,hT,hG,hlen,fun p H1 s1 n1 e1=>?_⟩;refine⟨p,_,rfl,e1,fun r hr1=>?_⟩;have n2:H r=none:=s1.free hr1;refine q r p _ (s1.upd_new n2) n2 n1 ⟨?_,?_⟩
 ·rw[Zh (Zm e1 hr1)];exact e1
 ·exact Zb
theorem Zd8{α β : Type}{F : α -> β -> Prop}:∀{l₁ : List α}{l₂ : List β},Paired F l₁ l₂ -> ∀{i:Nat}(h1:i<l₁.length)(h2:i<l₂.length),F l₁[i] l₂[i]
 | _,_,.nil,_,h1,_=>absurd h1 (Nat.not_lt_zero _)
 | _,_,.cons h _,0,_,_=>h
 | _,_,.cons _ t,i+1,h1,h2=>Zd8 t (Nat.lt_of_succ_lt_succ h1) (Nat.lt_of_succ_lt_succ h2)
theorem Zdf(B:∀x∈ZcI,mg x=none)(g_rank:Has P w K mg base "rank" ["grove"] 2 (Zh5 K)) (F:Fun K "least_among" "least_among" Zam f fd):FnOk P w K mg base CX0 4 f fd ["groves"] (Zd1 K):=by
 refine F.ok Zc9 (fun vs H Q E h=>?_) (fun cdv A outer s H vs Q E hr h=>?_)
 ·obtain⟨l,as,wss,rfl,_⟩:=h;rfl
 obtain⟨l,as,wss,rfl,hL,hlen,hP,q0,q1⟩:=h;refine⟨_,(Zf (ZR (Zhu g_rank hr rfl rfl (B "min" (by decide)) rfl (Za (pv 0) Zd) ZZ))),?_⟩;refine⟨_,rfl,l,as.map V.ref,rfl,SqL.of hL,fun p hp=>⟨SqL.of (by rw[Zh (Zm hL hp)];exact hL),?_⟩⟩;have npl:l≠p:=Zm hL hp;cases hP with
 | nil=>exact .inl ⟨rfl,q0 rfl _ (Zi.new hp)⟩
 | @cons a0 w0 as' ws' h0 hP' =>
  have hP:Paired (Zka K H) (a0::as') (w0::ws'):=.cons h0 hP';refine .inr ⟨fun i bi bk H1=>i<=as'.length/\∃(j:Nat)(a r pl:Addr)(ws:List Str),bi=.ref a/\bk=.ref r/\(a0::as')[j]?= some a/\(w0::ws')[j]?= some ws/\Z3 w0 ws'=Z3 ws (ws'.drop i)/\OkW ws/\Zi H H1/\r≠p/\pl≠p/\Zat H1 r pl ws/\H1 p=some (.lst [.ref a,.ref r]),⟨.ref a0,rfl,?_⟩,?_⟩
  ·obtain⟨xs,g,hT,hG,hw,hl,ok⟩:=h0.same (Zi.new (o:=.lst []) hp);subst hw;refine⟨a0,xs,g,rfl,hT,hG,hl,fun r pl H1 s1 n1 n2 k=>?_⟩;obtain⟨nr,_⟩:=ZaG n1;obtain⟨npp,_⟩:=ZaG n2;have e1:H1 p=some (.lst []):=s1 _ _ Zb;exact⟨e1,Nat.zero_le _,0,a0,r,pl,_,rfl,rfl,rfl,rfl,rfl,ok,((Zi.new hp).trans s1).upd_new hp,nr,npp,k.upd nr npp,Zb⟩
  ·rintro i bi bk H1 ⟨hi0,j,a,r,pl,ws,rfl,rfl,ha,hw,hle,ok,s1,nr,np,k,e1⟩;refine⟨e1,SqL.of (s1 _ _ hL),?_⟩;have hl2:as'.length=ws'.length:=Paired.length hP';by_cases hi:as'.length<=i
   ·refine .inl ⟨by rw[List.length_map,List.length_cons];lia,?_⟩;rw[List.drop_eq_nil_of_le (by lia)] at hle;refine q1 w0 ws' rfl j a _ ha ?_ (s1.upd_new hp);rw[hw,hle];rfl
   ·have h1:i<as'.length:=by lia
    have h2:i<ws'.length:=by lia
    have hg:Zka K H as'[i] ws'[i]:=Zd8 hP' h1 h2;obtain⟨xs,g,hT,hG,hww,hl,ok'⟩:=hg.same s1;refine .inr ⟨.ref as'[i],by rw[List.getElem?_map,List.getElem?_cons_succ,List.getElem?_eq_getElem h1];rfl,as'[i],xs,g,rfl,hT,hG,by rw[hww];exact hl,fun r2 p2 H2 s2 n1 n2 k2=>?_⟩;rw[hww] at k2;have nr2:r2≠p:=(Zm e1 n1).symm;have np2:p2≠p:=(Zm e1 n2).symm;have e2:=s2 _ _ e1;have hd:ws'.drop i=ws'[i]::ws'.drop (i+1):=List.drop_eq_getElem_cons h2;rw[hd,Z3] at hle;refine⟨e2,ZaK ws'[i] ws,ZeR k2 (k.same s2) ok' ok,?_⟩;by_cases hb:ZaK ws'[i] ws=true
    ·rw[if_pos hb] at hle ⊢;exact⟨by lia,i+1,as'[i],r2,p2,ws'[i],rfl,rfl,by rw[List.getElem?_cons_succ,List.getElem?_eq_getElem h1],by rw[List.getElem?_cons_succ,List.getElem?_eq_getElem h2],hle,ok',(s1.trans s2).upd_new hp,nr2,np2,k2.upd nr2 np2,Zb⟩
    ·rw[if_neg hb] at hle ⊢;exact⟨by lia,j,a,r,pl,ws,rfl,rfl,ha,hw,hle,ok,s1.trans s2,nr,np,k.same s2,e2⟩
structure Rl where
 k:Nat
 t:Str
 i:Nat
 r:Nat
abbrev Cs:=List (Option Nat)
def above:Option Nat->Option Nat->Option Nat
 | some x,some y=>some (1+x+y)
 | _,_=>none
def better:Option Nat->Option Nat->Bool
 | none,_=>false
 | some _,none=>true
 | some c,some d=>decide (c<d)
def at_(cs:Cs)(k:Nat):Option Nat:=cs.getD k none
def low(I:Cs->Cs)(cs:Cs)(q:Rl):Option Nat:=above (at_ (I cs) q.i) (at_ cs q.r)
def step1(I:Cs->Cs)(cs:Cs)(q:Rl):Cs:=if better (low I cs q) (at_ cs q.k)=true then cs.set q.k (low I cs q) else cs
def pass(I:Cs->Cs)(rs:List Rl)(cs:Cs):Cs:=rs.foldl (step1 I) cs
def iter(I:Cs->Cs)(rs:List Rl):Nat->Cs->Cs
 | 0,cs=>cs
 | n+1,cs=>iter I rs n (pass I rs cs)
def Zd2(I:Cs->Cs)(rs:List Rl)(cs:Cs):Prop := ∀q∈rs,better (low I cs q) (at_ cs q.k)=false
section
variable{I:Cs->Cs}
theorem ZbT(rs:List Rl):∀n cs,iter I rs (n+1) cs=pass I rs (iter I rs n cs)
 | 0,_=>rfl
 | n+1,cs=>ZbT rs n (pass I rs cs)
theorem ZbN(rs:List Rl):∀a b cs,iter I rs (a+b) cs=iter I rs b (iter I rs a cs)
 | 0,b,cs=>by rw[Nat.zero_add];rfl
 | a+1,b,cs=>by
  rw[Nat.add_right_comm];exact ZbN rs a b (pass I rs cs)
theorem Zcs(cs:Cs)(q:Rl):(step1 I cs q).length=cs.length:=by
 unfold step1
 split
 ·rw[List.length_set]
 ·rfl
theorem ZaL:∀(rs:List Rl)(cs:Cs),(pass I rs cs).length=cs.length
 | [],_=>rfl
 | q::rs,cs=>(ZaL rs (step1 I cs q)).trans (Zcs cs q)
theorem ZaP(rs:List Rl):∀n cs,(iter I rs n cs).length=cs.length
 | 0,_=>rfl
 | n+1,cs=>(ZaP rs n _).trans (ZaL rs cs)
theorem Zbl:∀{rs:List Rl}{cs:Cs},Zd2 I rs cs->pass I rs cs=cs
 | [],_,_=>rfl
 | q::rs,cs,h=>by
  show pass I rs (step1 I cs q)=cs;have e:step1 I cs q=cs:=by
   unfold step1;rw[h q (List.mem_cons_self ..),if_neg (by decide)]
  rw[e];exact Zbl fun p hp=>h p (List.mem_cons_of_mem _ hp)
theorem ZbH{rs:List Rl}{cs:Cs}(h:Zd2 I rs cs):∀n,iter I rs n cs=cs
 | 0=>rfl
 | n+1=>by
  show iter I rs n (pass I rs cs)=cs;rw[Zbl h];exact ZbH h n
theorem ZjC{rs:List Rl}{cs:Cs}{m n:Nat}(h1:Zd2 I rs (iter I rs m cs))(h2:Zd2 I rs (iter I rs n cs)):iter I rs m cs=iter I rs n cs:=by
 rcases Nat.le_total m n with h|h
 ·obtain⟨d,rfl⟩:=Nat.exists_eq_add_of_le h;rw[ZbN,ZbH h1]
 ·obtain⟨d,rfl⟩:=Nat.exists_eq_add_of_le h;rw[ZbN rs n d,ZbH h2]
def nones(cs:Cs):Nat:=(cs.map fun c=>if c.isNone then 1 else 0).sum
def summed(cs:Cs):Nat:=(cs.map fun c=>c.getD 0).sum
theorem sum_set{f:Option Nat->Nat}:∀{cs:Cs}{k:Nat}(x:Option Nat),k<cs.length->((cs.set k x).map f).sum+f (at_ cs k)=(cs.map f).sum+f x
 | [],_,_,h=>absurd h (Nat.not_lt_zero _)
 | c::cs,0,x,_=>by
  show(f x+(cs.map f).sum)+f c=(f c+(cs.map f).sum)+f x;lia
 | c::cs,k+1,x,h=>by
  have:=sum_set (f:=f) x (Nat.lt_of_succ_lt_succ h);show(f c+((cs.set k x).map f).sum)+f (at_ cs k)=(f c+(cs.map f).sum)+f x;lia
abbrev Lx(a b:Cs):Prop:=Prod.Lex (· < ·) (· < ·) (nones a,summed a) (nones b,summed b)
theorem Zjb{a b:Cs}:Lx a b↔nones a<nones b\/nones a=nones b/\summed a<summed b:=Prod.lex_def
theorem Lx.trans{a b c:Cs}(h1:Lx a b)(h2:Lx b c):Lx a c:=by
 rw[Zjb] at *;lia
theorem ZhU{cs:Cs}{q:Rl}(hk:q.k<cs.length)(h:better (low I cs q) (at_ cs q.k)=true):Lx (step1 I cs q) cs:=by
 unfold step1;rw[if_pos h];have h1:=sum_set (f:=fun c=>if c.isNone then 1 else 0) (low I cs q) hk
 have h2:=sum_set (f:=fun c=>c.getD 0) (low I cs q) hk;rw[Zjb];unfold nones summed;cases hl:low I cs q with
 | none=>rw[hl] at h;cases h
 | some c =>
  rw[hl] at h h1 h2;cases ho:at_ cs q.k with
  | none =>
   rw[ho] at h1
   left
   simp only[Option.isNone_some,Option.isNone_none,if_true,Bool.false_eq_true,if_false] at h1;omega
  | some d =>
   rw[ho] at h h1 h2;have hcd:c<d:=of_decide_eq_true h
   right
   simp only[Option.isNone_some,Bool.false_eq_true,if_false,Option.getD_some] at h1 h2;omega
theorem ZgS:∀(rs:List Rl)(cs:Cs),(∀q∈rs,q.k<cs.length)->Zd2 I rs cs\/Lx (pass I rs cs) cs
 | [],_,_=>.inl fun _ h=>nomatch h
 | q::rs,cs,h=>by
  have hk:=h q (List.mem_cons_self ..);have ih:=ZgS rs (step1 I cs q) fun p hp=>by rw[Zcs];exact h p (List.mem_cons_of_mem _ hp)
  cases hb:better (low I cs q) (at_ cs q.k) with
  | true =>
   right
   have hs:=ZhU hk hb;rcases ih with ih|ih
   ·show Lx (pass I rs (step1 I cs q)) cs;rw[Zbl ih];exact hs
   ·exact Lx.trans ih hs
  | false =>
   have e:step1 I cs q=cs:=by
    unfold step1;rw[hb,if_neg (by decide)]
   rw[e] at ih;rcases ih with ih|ih
   ·left
    intro p hp;rcases List.mem_cons.mp hp with rfl|hp
    ·exact hb
    ·exact ih p hp
   ·right
    show Lx (pass I rs (step1 I cs q)) cs;rw[e];exact ih
theorem Zki(rs:List Rl)(cs:Cs)(h:∀q∈rs,q.k<cs.length):∃m,Zd2 I rs (iter I rs m cs):=by
 by_cases hs:Zd2 I rs cs
 ·exact⟨0,hs⟩
 ·have lt:Lx (pass I rs cs) cs:=(ZgS rs cs h).resolve_left hs;obtain⟨m,hm⟩:=Zki rs (pass I rs cs) fun q hq=>by rw[ZaL];exact h q hq
  exact⟨m+1,hm⟩
termination_by (nones cs,summed cs)
decreasing_by exact lt
end
abbrev iD:Cs->Cs:=fun c=>c
structure Fm where
 n:Nat
 ends:List Nat
 rules:List Rl
structure Fm.Ok(f:Fm):Prop where
 e:∀x∈f.ends,x<f.n
 q:∀q∈f.rules,q.k<f.n/\q.i<f.n/\q.r<f.n
def Zbo(cs:Cs)(es:List Nat):Cs:=es.foldl (fun cs e=>cs.set e (some 0)) cs
theorem ZbE:∀(es:List Nat)(cs:Cs),(Zbo cs es).length=cs.length
 | [],_=>rfl
 | e::es,cs=>(ZbE es (cs.set e (some 0))).trans List.length_set
def Fm.init(f:Fm):Cs:=Zbo (List.replicate f.n none) f.ends
theorem Fm.init_len(f:Fm):f.init.length=f.n:=by
 unfold Fm.init;rw[ZbE,List.length_replicate]
theorem Zck{cs:Cs}{k j:Nat}{x:Option Nat}(h:k<cs.length):at_ (cs.set k x) j=if k=j then x else at_ cs j:=by
 unfold at_;rw[List.getD_eq_getElem?_getD,List.getD_eq_getElem?_getD,List.getElem?_set];by_cases e:k=j
 ·rw[if_pos e,if_pos e,if_pos h];rfl
 ·rw[if_neg e,if_neg e]
structure Fm.Inv(f:Fm)(cs:Cs):Prop where
 len:cs.length=f.n
 zero:∀e∈f.ends,at_ cs e=some 0
 got:∀k c,at_ cs k=some c->k∈f.ends\/∃q∈f.rules,q.k=k/\∃x y,at_ cs q.i=some x/\at_ cs q.r=some y/\1+x+y<=c
theorem Zb6{n:Nat}:∀(es:List Nat)(cs:Cs),cs.length=n->(∀e∈es,e<n)->∀k,at_ (Zbo cs es) k=if k∈es then some 0 else at_ cs k
 | [],_,_,_,k=>by rw[if_neg (by simp)];rfl
 | e::es,cs,hl,h,k=>by
  show at_ (Zbo (cs.set e (some 0)) es) k=_;rw[Zb6 es _ (by rw[List.length_set];exact hl) (fun x hx=>h x (List.mem_cons_of_mem _ hx)),Zck (by rw[hl];exact h e (List.mem_cons_self ..))];by_cases h1:k∈es
  ·rw[if_pos h1,if_pos (List.mem_cons_of_mem _ h1)]
  ·rw[if_neg h1];by_cases h2:e=k
   ·rw[if_pos h2,if_pos (by rw[h2];exact List.mem_cons_self ..)]
   ·rw[if_neg h2,if_neg (fun hm=>(List.mem_cons.mp hm).elim (fun z=>h2 z.symm) h1)]
theorem ZkF{n k:Nat}:at_ (List.replicate n none) k=none:=by
 unfold at_;rw[List.getD_eq_getElem?_getD,List.getElem?_replicate]
 split <;> rfl
theorem Fm.inv_init{f:Fm}(ok:f.Ok):f.Inv f.init:=by
 have key:=Zb6 f.ends (List.replicate f.n none) List.length_replicate ok.e;refine⟨f.init_len,fun e he=>?_,fun k c hc=>?_⟩
 ·unfold Fm.init;rw[key,if_pos he]
 ·unfold Fm.init at hc;rw[key] at hc;by_cases h:k∈f.ends
  ·exact .inl h
  ·rw[if_neg h,ZkF] at hc;cases hc
theorem Fm.inv_step{f:Fm}(ok:f.Ok){cs:Cs}(v:f.Inv cs){q:Rl}(hq:q∈f.rules):f.Inv (step1 iD cs q):=by
 unfold step1
 split
 ·rename_i hb
  have hk:q.k<cs.length:=by rw[v.len];exact(ok.q q hq).1
  cases hx:at_ cs q.i with
  | none=>unfold low above at hb;rw[hx] at hb;cases hb
  | some x =>
  cases hy:at_ cs q.r with
  | none=>unfold low above at hb;rw[hx,hy] at hb;cases hb
  | some y =>
  have hl:low iD cs q=some (1+x+y):=by unfold low above;rw[hx,hy]
  rw[hl] at hb ⊢;have less:∀z,at_ cs q.k=some z->1+x+y<z:=fun z hz=>by
   rw[hz] at hb;exact of_decide_eq_true hb
  have ni:q.k≠q.i:=fun e=>by have:=less x (by rw[e];exact hx);lia
  have nr:q.k≠q.r:=fun e=>by have:=less y (by rw[e];exact hy);lia
  refine⟨by rw[List.length_set];exact v.len,fun e he=>?_,fun k c hc=>?_⟩
  ·rw[Zck hk];by_cases e1:q.k=e
   ·have:=less 0 (by rw[e1];exact v.zero e he);lia
   ·rw[if_neg e1];exact v.zero e he
  ·rw[Zck hk] at hc;by_cases e1:q.k=k
   ·rw[if_pos e1] at hc;injection hc with hc;refine .inr ⟨q,hq,e1,x,y,?_,?_,by lia⟩
    ·rw[Zck hk,if_neg ni];exact hx
    ·rw[Zck hk,if_neg nr];exact hy
   ·rw[if_neg e1] at hc;rcases v.got k c hc with h|⟨p,hp,e2,x2,y2,hx2,hy2,hle⟩
    ·exact .inl h
    ·have low2:∀j z,at_ cs j=some z->∃z',at_ (cs.set q.k (some (1+x+y))) j=some z'/\z'<=z:=fun j z hz=>by
      rw[Zck hk];by_cases e3:q.k=j
      ·rw[if_pos e3];exact⟨_,rfl,Nat.le_of_lt (less z (by rw[e3];exact hz))⟩
      ·rw[if_neg e3];exact⟨z,hz,Nat.le_refl _⟩
     obtain⟨x3,hx3,hx4⟩:=low2 _ _ hx2;obtain⟨y3,hy3,hy4⟩:=low2 _ _ hy2;exact .inr ⟨p,hp,e2,x3,y3,hx3,hy3,by lia⟩
 ·exact v
theorem Fm.inv_fold{f:Fm}(ok:f.Ok):∀(rs:List Rl)(cs:Cs),(∀q∈rs,q∈f.rules)->f.Inv cs->f.Inv (pass iD rs cs)
 | [],_,_,v=>v
 | q::rs,cs,h,v=>Fm.inv_fold ok rs (step1 iD cs q) (fun p hp=>h p (List.mem_cons_of_mem _ hp)) (Fm.inv_step ok v (h q (List.mem_cons_self ..)))
theorem Fm.inv_iter{f:Fm}(ok:f.Ok):∀(m:Nat)(cs:Cs),f.Inv cs->f.Inv (iter iD f.rules m cs)
 | 0,_,v=>v
 | m+1,cs,v=>Fm.inv_iter ok m _ (Fm.inv_fold ok f.rules cs (fun _ h=>h) v)
def Fm.Res(f:Fm)(cs:Cs):Prop := ∃m,cs=iter iD f.rules m f.init/\Zd2 iD f.rules cs
theorem Fm.Res.one{f:Fm}{a b:Cs}(h1:f.Res a)(h2:f.Res b):a=b:=by
 obtain⟨m,rfl,s1⟩:=h1;obtain⟨n,rfl,s2⟩:=h2;exact ZjC s1 s2
theorem Fm.Res.inv{f:Fm}(ok:f.Ok){cs:Cs}(h:f.Res cs):f.Inv cs:=by
 obtain⟨m,rfl,_⟩:=h;exact Fm.inv_iter ok m _ (Fm.inv_init ok)
theorem Fm.Res.rule{f:Fm}{cs:Cs}(h:f.Res cs){q:Rl}(hq:q∈f.rules){x y:Nat}(hx:at_ cs q.i=some x)(hy:at_ cs q.r=some y):∃c,at_ cs q.k=some c/\c<=1+x+y:=by
 obtain⟨m,_,st⟩:=h;have:=st q hq;unfold low at this;rw[hx,hy] at this;cases hk:at_ cs q.k with
 | none=>rw[hk] at this;cases this
 | some c =>
  rw[hk] at this;have h2 : ¬ 1+x+y<c:=of_decide_eq_false this;exact⟨c,rfl,by lia⟩
theorem Fm.Res.got{f:Fm}(ok:f.Ok){cs:Cs}(h:f.Res cs){k c:Nat}(hk:at_ cs k=some c):k∈f.ends\/∃q∈f.rules,q.k=k/\∃x y,at_ cs q.i=some x/\at_ cs q.r=some y/\c=1+x+y:=by
 rcases(h.inv ok).got k c hk with h1|⟨q,hq,e,x,y,hx,hy,hle⟩
 ·exact .inl h1
 ·obtain⟨c2,h2,h3⟩:=h.rule hq hx hy;rw[e,hk] at h2;injection h2 with h2;exact .inr ⟨q,hq,e,x,y,hx,hy,by lia⟩
theorem Zg9{I:Cs->Cs}(rs:List Rl)(q:Rl)(cs:Cs):pass I (rs ++ [q]) cs=step1 I (pass I rs cs) q:=by
 unfold pass;rw[List.foldl_append];rfl
theorem Zif{I:Cs->Cs}(rs ps:List Rl)(cs:Cs):pass I (rs++ps) cs=pass I ps (pass I rs cs):=by
 unfold pass;rw[List.foldl_append]
def leO:Option Nat->Option Nat->Prop
 | _,none=>True
 | none,some _=>False
 | some x,some y=>x<=y
theorem leO.refl:∀a,leO a a
 | none=>trivial
 | some _=>Nat.le_refl _
theorem leO.trans:∀{a b c:Option Nat},leO a b->leO b c->leO a c
 | _,_,none,_,_=>by unfold leO;split <;> trivial
 | none,some _,some _,h,_=>h.elim
 | some _,none,some _,_,h=>h.elim
 | none,none,some _,_,h=>h
 | some _,some _,some _,h1,h2=>Nat.le_trans h1 h2
theorem leO.anti:∀{a b:Option Nat},leO a b->leO b a->a=b
 | none,none,_,_=>rfl
 | none,some _,h,_=>h.elim
 | some _,none,_,h=>h.elim
 | some _,some _,h1,h2=>by rw[Nat.le_antisymm h1 h2]
def LE(a b:Cs):Prop := ∀k,leO (at_ a k) (at_ b k)
theorem LE.refl(a:Cs):LE a a:=fun k=>leO.refl _
theorem LE.trans{a b c:Cs}(h1:LE a b)(h2:LE b c):LE a c:=fun k=>(h1 k).trans (h2 k)
theorem ZhW{I:Cs->Cs}{cs:Cs}{q:Rl}(hk:q.k<cs.length):LE (step1 I cs q) cs:=fun k=>by
 unfold step1
 split
 ·rename_i hb
  rw[Zck hk];by_cases e:q.k=k
  ·rw[if_pos e,<- e];cases hl:low I cs q with
   | none=>rw[hl] at hb;cases hb
   | some c =>
    rw[hl] at hb;cases ho:at_ cs q.k with
    | none=>trivial
    | some d =>
     rw[ho] at hb;exact Nat.le_of_lt (of_decide_eq_true hb)
  ·rw[if_neg e];exact leO.refl _
 ·exact leO.refl _
theorem ZdB{I:Cs->Cs}:∀(rs:List Rl){cs:Cs},(∀q∈rs,q.k<cs.length)->LE (pass I rs cs) cs
 | [],cs,_=>LE.refl _
 | q::rs,cs,h=>(ZdB rs (cs:=step1 I cs q) fun p hp=>by rw[Zcs];exact h p (List.mem_cons_of_mem _ hp)).trans (ZhW (h q (List.mem_cons_self ..)))
theorem Zho{I:Cs->Cs}(rs:List Rl):∀(m:Nat){cs:Cs},(∀q∈rs,q.k<cs.length)->LE (iter I rs m cs) cs
 | 0,cs,_=>LE.refl _
 | m+1,cs,h=>(Zho rs m (cs:=pass I rs cs) fun q hq=>by rw[ZaL];exact h q hq).trans (ZdB rs h)
theorem ZgN{I:Cs->Cs}{rs:List Rl}{cs:Cs}{m:Nat}(h:∀q∈rs,q.k<cs.length)(st:Zd2 I rs (iter I rs m cs))(j:Nat):LE (iter I rs m cs) (iter I rs j cs):=by
 rcases Nat.le_total j m with c|c
 ·obtain⟨d,rfl⟩:=Nat.exists_eq_add_of_le c;rw[ZbN];exact Zho rs d fun q hq=>by rw[ZaP];exact h q hq
 ·obtain⟨d,rfl⟩:=Nat.exists_eq_add_of_le c;rw[ZbN,ZbH st];exact LE.refl _
theorem ZkI{a b:Cs}(hl:a.length=b.length)(h:∀k,at_ a k=at_ b k):a=b:=by
 refine List.ext_getElem hl fun i h1 h2=>?_;have:=h i;unfold at_ at this;rw[List.getD_eq_getElem?_getD,List.getD_eq_getElem?_getD,List.getElem?_eq_getElem h1,List.getElem?_eq_getElem h2] at this;exact this
theorem Zha{p q:Nat->Bool}:∀(l:List Nat),(∀x∈l,p x=true->q x=true)->(∃x∈l,q x=true/\p x=false)->(l.filter p).length<(l.filter q).length
 | [],_,⟨x,hx,_⟩=>(nomatch hx)
 | y::l,h,⟨x,hx,hq,hp⟩=>by
  have le:∀m:List Nat,(∀x∈m,p x=true->q x=true)->(m.filter p).length<=(m.filter q).length:=by
   intro m
   induction m with
   | nil=>intro _;exact Nat.le_refl _
   | cons a m ih =>
    intro hm;have i:=ih fun x hx=>hm x (List.mem_cons_of_mem _ hx);rw[List.filter_cons,List.filter_cons];cases ha:p a with
    | true =>
     rw[hm a (List.mem_cons_self ..) ha];simp only[if_true,List.length_cons];lia
    | false =>
     simp only[Bool.false_eq_true,if_false]
     split
     ·rw[List.length_cons];lia
     ·exact i
  rw[List.filter_cons,List.filter_cons];have hl:=fun x hx=>h x (List.mem_cons_of_mem y hx);rcases List.mem_cons.mp hx with rfl|hx
  ·rw[hq,hp];have:=le l hl;simp only[if_true,Bool.false_eq_true,if_false,List.length_cons];lia
  ·have i:=Zha l hl ⟨x,hx,hq,hp⟩;cases ha:p y with
   | true =>
    rw[h y (List.mem_cons_self ..) ha];simp only[if_true,List.length_cons];lia
   | false =>
    simp only[Bool.false_eq_true,if_false]
    split
    ·rw[List.length_cons];lia
    ·exact i
def ltB:Option Nat->Nat->Bool
 | none,_=>false
 | some x,v=>decide (x<v)
def cnt(c:Cs)(v:Nat):Nat:=((List.range c.length).filter fun j=>ltB (at_ c j) v).length
theorem Zjd{c:Cs}{i x v:Nat}(hi:i<c.length)(hx:at_ c i=some x)(h:x<v):cnt c x<cnt c v:=by
 refine Zha _ (fun j _ hj=>?_) ⟨i,List.mem_range.mpr hi,?_,?_⟩
 ·cases e:at_ c j with
  | none=>rw[e] at hj;cases hj
  | some y =>
   rw[e] at hj;have:=of_decide_eq_true hj;exact decide_eq_true (by lia)
 ·rw[hx];exact decide_eq_true h
 ·rw[hx];exact decide_eq_false (Nat.lt_irrefl _)
theorem Fm.exact{f:Fm}(ok:f.Ok){m:Nat}(st:Zd2 iD f.rules (iter iD f.rules m f.init)):∀(v k:Nat),at_ (iter iD f.rules m f.init) k=some v->∀j,cnt (iter iD f.rules m f.init) v<=j->at_ (iter iD f.rules j f.init) k=some v:=by
 have hk:∀q∈f.rules,q.k<f.init.length:=fun q hq=>by rw[f.init_len];exact(ok.q q hq).1
 have res:f.Res (iter iD f.rules m f.init):=⟨m,rfl,st⟩;intro v
 induction v using Nat.strongRecOn with
 | _ v ih =>
 intro k hkv j hj;rcases res.got ok hkv with he|⟨q,hq,rfl,x,y,hx,hy,rfl⟩
 ·have z1:=(res.inv ok).zero k he;rw[hkv] at z1;injection z1 with z1;subst z1;exact(Fm.inv_iter ok j _ (Fm.inv_init ok)).zero k he
 ·have b:=ok.q q hq;have cl:(iter iD f.rules m f.init).length=f.n:=by rw[ZaP,f.init_len]
  have c1:=Zjd (c:=iter iD f.rules m f.init) (i:=q.i) (v:=1+x+y) (by rw[cl];exact b.2.1) hx (by lia);have c2:=Zjd (c:=iter iD f.rules m f.init) (i:=q.r) (v:=1+x+y) (by rw[cl];exact b.2.2) hy (by lia);obtain⟨j,rfl⟩:∃j',j=j'+1:=⟨j-1,by lia⟩;have i1:=ih x (by lia) q.i hx j (by lia);have i2:=ih y (by lia) q.r hy j (by lia);obtain⟨pre,post,hpp⟩:=List.append_of_mem hq;have hs:iter iD f.rules (j+1) f.init=pass iD post (step1 iD (pass iD pre (iter iD f.rules j f.init)) q):=by
   rw[ZbT];show pass iD f.rules _=_;rw[hpp,Zif];rfl
  have lk:∀p∈f.rules,p.k<(iter iD f.rules j f.init).length:=fun p hp=>by rw[ZaP];exact hk p hp
  have prm:∀p∈pre,p∈f.rules:=fun p hp=>by rw[hpp];exact List.mem_append_left _ hp
  have pom:∀p∈post,p∈f.rules:=fun p hp=>by rw[hpp];exact List.mem_append_right _ (List.mem_cons_of_mem _ hp)
  have L0:=ZgN hk st (j+1);have L1:=ZdB (I:=iD) pre (cs:=iter iD f.rules j f.init) fun p hp=>lk p (prm p hp);have L2:=ZhW (I:=iD) (cs:=pass iD pre (iter iD f.rules j f.init)) (q:=q) (by rw[ZaL];exact lk q hq);have L3:=ZdB (I:=iD) post (cs:=step1 iD (pass iD pre (iter iD f.rules j f.init)) q) fun p hp=>by rw[Zcs,ZaL];exact lk p (pom p hp)
  rw[hs] at L0 ⊢;have L4:=L0.trans (L3.trans L2);have fixed:∀{i z},at_ (iter iD f.rules m f.init) i=some z->at_ (iter iD f.rules j f.init) i=some z->at_ (pass iD pre (iter iD f.rules j f.init)) i=some z:=fun{i z} h1 h2=>by
   have a1:=L4 i;have a2:=L1 i;rw[h1] at a1;rw[h2] at a2;exact leO.anti a2 a1
  have x1:=fixed hx i1;have y1:=fixed hy i2;have le1:leO (at_ (step1 iD (pass iD pre (iter iD f.rules j f.init)) q) q.k) (some (1+x+y)):=by
   have hl:low iD (pass iD pre (iter iD f.rules j f.init)) q=some (1+x+y):=by
    unfold low above;rw[show at_ (iD (pass iD pre (iter iD f.rules j f.init))) q.i=some x from x1,y1]
   unfold step1;rw[hl]
   split
   ·rw[Zck (by rw[ZaL];exact lk q hq),if_pos rfl];exact leO.refl _
   ·rename_i hb
    cases ho:at_ (pass iD pre (iter iD f.rules j f.init)) q.k with
    | none=>rw[ho] at hb;exact absurd rfl hb
    | some d =>
     rw[ho] at hb;have : ¬ 1+x+y<d:=fun z=>hb (decide_eq_true z);show d<=1+x+y;lia
  have a1:=L0 q.k;rw[hkv] at a1;exact leO.anti ((L3 q.k).trans le1) a1
theorem Fm.enough{f:Fm}(ok:f.Ok){cs:Cs}(h:f.Res cs):cs=iter iD f.rules f.n f.init:=by
 obtain⟨m,rfl,st⟩:=h;have hk:∀q∈f.rules,q.k<f.init.length:=fun q hq=>by rw[f.init_len];exact(ok.q q hq).1
 refine ZkI (by rw[ZaP,ZaP]) fun k=>?_;cases e:at_ (iter iD f.rules m f.init) k with
 | none =>
  have:=ZgN hk st f.n k;rw[e] at this;cases e2:at_ (iter iD f.rules f.n f.init) k with
  | none=>rfl
  | some z=>rw[e2] at this;exact this.elim
 | some v =>
  refine(Fm.exact ok st v k e f.n ?_).symm;refine Nat.le_trans (List.length_filter_le _ _) ?_;rw[List.length_range,ZaP,f.init_len];exact Nat.le_refl _
theorem Zdl:∀{xs ys zs:List Str},xs.length=ys.length->ys.length=zs.length->ZeM xs ys=true->ZeM ys zs=true->ZeM xs zs=true
 | [],[],_,_,_,h,_=>by
  unfold ZeM at h;cases h
 | [],_::_,_,h,_,_,_=>by simp at h
 | _::_,[],_,h,_,_,_=>by simp at h
 | _::_,_::_,[],_,h,_,_=>by simp at h
 | x::xs,y::ys,z::zs,h1,h2,k1,k2=>by
  rw[ZeM] at k1 k2 ⊢;by_cases e1:x=y
  ·subst e1;rw[if_pos rfl] at k1;by_cases e2:x=z
   ·rw[if_pos e2] at k2 ⊢;exact Zdl (by simpa using h1) (by simpa using h2) k1 k2
   ·rw[if_neg e2] at k2 ⊢;exact k2
  ·rw[if_neg e1] at k1;have l1:=of_decide_eq_true k1;by_cases e2:y=z
   ·subst e2;rw[if_neg e1];exact k1
   ·rw[if_neg e2] at k2;have l2:=of_decide_eq_true k2;have l3:=List.lt_trans l1 l2;rw[if_neg (fun e=>by subst e;exact List.lt_irrefl _ l3)];exact decide_eq_true l3
theorem Zcc{xs ys zs:List Str}(h1:ZaK xs ys=true)(h2:ZaK ys zs=true):ZaK xs zs=true:=by
 unfold ZaK at *;by_cases e1:xs.length=ys.length
 ·rw[if_pos e1] at h1;by_cases e2:ys.length=zs.length
  ·rw[if_pos e2] at h2;rw[if_pos (e1.trans e2)];exact Zdl e1 e2 h1 h2
  ·rw[if_neg e2] at h2;have:=of_decide_eq_true h2;rw[if_neg (by lia)];exact decide_eq_true (by lia)
 ·rw[if_neg e1] at h1;have:=of_decide_eq_true h1;by_cases e2:ys.length=zs.length
  ·rw[if_neg (by lia)];exact decide_eq_true (by lia)
  ·rw[if_neg e2] at h2;have:=of_decide_eq_true h2;rw[if_neg (by lia)];exact decide_eq_true (by lia)
theorem Zbp(xs:List Str):ZaK xs xs=false:=by
 unfold ZaK;rw[if_pos rfl];exact Zc8 xs
theorem Zeb{xs ys:List Str}(h1:ZaK xs ys=false)(h2:ZaK ys xs=false):xs=ys:=by
 by_cases e:xs=ys
 ·exact e
 ·have:=ZfG e;rw[h1,h2] at this;cases this
theorem ZcN:∀(ws:List (List Str))(b:List Str),Z3 b ws∈b::ws/\∀w∈b::ws,ZaK w (Z3 b ws)=false
 | [],b=>⟨by simp[Z3],fun w hw=>by
   rw[List.mem_singleton.mp hw];exact Zbp b⟩
 | w::ws,b=>by
  obtain⟨h1,h2⟩:=ZcN ws (if ZaK w b=true then w else b)
  rw[Z3];refine⟨?_,fun v hv=>?_⟩
  ·rcases List.mem_cons.mp h1 with e|e
   ·rw[e]
    split
    ·simp
    ·simp
   ·exact List.mem_cons_of_mem _ (List.mem_cons_of_mem _ e)
  ·have key:∀v,ZaK v (if ZaK w b=true then w else b)=false->ZaK v (Z3 (if ZaK w b=true then w else b) ws)=false:=fun v hv=>by
    have hb:=h2 _ (List.mem_cons_self ..);cases c:ZaK v (Z3 (if ZaK w b=true then w else b) ws) with
    | false=>rfl
    | true =>
     by_cases e:(if ZaK w b=true then w else b)=Z3 (if ZaK w b=true then w else b) ws
     ·rw[<- e,hv] at c;cases c
     ·have t:=ZfG e;rw[hb] at t;have t:ZaK (Z3 (if ZaK w b=true then w else b) ws) (if ZaK w b=true then w else b)=true:=by
       cases z:ZaK (Z3 (if ZaK w b=true then w else b) ws) (if ZaK w b=true then w else b) with
       | true=>rfl
       | false=>rw[z] at t;cases t
      rw[Zcc c t] at hv;cases hv
   rcases List.mem_cons.mp hv with rfl|hv
   ·refine key _ ?_;by_cases c:ZaK w v=true
    ·rw[if_pos c];cases z:ZaK v w with
     | false=>rfl
     | true =>
      have:=Zcc c z;rw[Zbp] at this;cases this
    ·rw[if_neg c];exact Zbp v
   ·rcases List.mem_cons.mp hv with rfl|hv
    ·refine key _ ?_;by_cases c:ZaK v b=true
     ·rw[if_pos c];exact Zbp v
     ·rw[if_neg c];exact Bool.eq_false_iff.mpr c
    ·exact h2 v (List.mem_cons_of_mem _ hv)
def okG(g:Gr Str):Prop:=ZeT SL g/\OkW (words SL g)
theorem okG.nil:okG .nil:=⟨trivial,fun _ h=>(nomatch h)⟩
theorem okG.cons{t:Str}{a b:Gr Str}(ht:ZdT t)(ha:okG a)(hb:okG b):okG (.cons t a b):=⟨⟨ht.ne,ha.1,hb.1⟩,fun x hx=>by
 have hx:x∈t::(words SL a++SL::words SL b):=hx;rcases List.mem_cons.mp hx with rfl|hx
 ·exact ZiZ.ok ht.let0
 ·rcases List.mem_append.mp hx with hx|hx
  ·exact ha.2 x hx
  ·rcases List.mem_cons.mp hx with rfl|hx
   ·exact Zlk
   ·exact hb.2 x hx⟩
def gO(G:List (Option (Gr Str)))(k:Nat):Option (Gr Str):=G.getD k none
theorem ZiX{G:List (Option (Gr Str))}{k j:Nat}{x:Option (Gr Str)}(h:k<G.length):gO (G.set k x) j=if k=j then x else gO G j:=by
 unfold gO;rw[List.getD_eq_getElem?_getD,List.getD_eq_getElem?_getD,List.getElem?_set];by_cases e:k=j
 ·rw[if_pos e,if_pos e,if_pos h];rfl
 ·rw[if_neg e,if_neg e]
theorem Zlp{G:List (Option (Gr Str))}{k:Nat}{g:Gr Str}(h:gO G k=some g):k<G.length:=by
 unfold gO at h;rw[List.getD_eq_getElem?_getD] at h;cases e:G[k]? with
 | none=>rw[e] at h;cases h
 | some x=>exact(List.getElem?_eq_some_iff.mp e).1
structure LGp(f:Fm)(c:Cs)(G:List (Option (Gr Str)))(D:List Nat):Prop where
 len:G.length=f.n
 sz:∀k g,gO G k=some g->k∈D/\at_ c k=some (gsz g)/\gsz g<=300/\okG g
 has:∀k∈D,∃g,gO G k=some g
 way:∀k g,gO G k=some g->k∈f.ends\/∃q∈f.rules,q.k=k/\∃a b,gO G q.i=some a/\gO G q.r=some b/\g=.cons q.t a b
 min:∀k g,gO G k=some g->∀q∈f.rules,q.k=k->∀a b,gO G q.i=some a->gO G q.r=some b->1+gsz a+gsz b=gsz g->ZaK (words SL (.cons q.t a b)) (words SL g)=false
structure IsMin(f:Fm)(G:List (Option (Gr Str)))(k n:Nat)(g:Gr Str):Prop where
 sz:gsz g=n
 ok:okG g
 way:k∈f.ends\/∃q∈f.rules,q.k=k/\∃a b,gO G q.i=some a/\gO G q.r=some b/\g=.cons q.t a b
 min:∀q∈f.rules,q.k=k->∀a b,gO G q.i=some a->gO G q.r=some b->1+gsz a+gsz b=n->ZaK (words SL (.cons q.t a b)) (words SL g)=false
theorem LGp.next{f:Fm}{c:Cs}{G:List (Option (Gr Str))}{D:List Nat}{k n:Nat}{g:Gr Str}(h:LGp f c G D)(hk:k<f.n)(hD:k∉D)(hc:at_ c k=some n)(hn:n<=300)(hle:∀j∈D,∀m,at_ c j=some m->m<=n)(hg:IsMin f G k n g):LGp f c (G.set k (some g)) (D ++ [k]):=by
 have at1:∀j,gO (G.set k (some g)) j=if k=j then some g else gO G j:=fun j=>ZiX (by rw[h.len];exact hk)
 have old:∀j a,gO G j=some a->k≠j:=fun j a e z=>hD (by rw[z];exact(h.sz j a e).1);have up:∀j a,gO G j=some a->gO (G.set k (some g)) j=some a:=fun j a e=>by rw[at1,if_neg (old j a e)];exact e
 have szn:∀j a,gO (G.set k (some g)) j=some a->at_ c j=some (gsz a):=fun j a e=>by
  rw[at1] at e
  split at e
  ·rename_i z
   subst z;injection e with e;subst e;rw[hc,hg.sz]
  ·exact(h.sz j a e).2.1
 refine⟨by rw[List.length_set];exact h.len,fun j a e=>?_,fun j hj=>?_,fun j a e=>?_,fun j a e q hq hqk x y ex ey exy=>?_⟩
 ·have e0:=e;rw[at1] at e
  split at e
  ·rename_i z
   subst z;injection e with e;subst e;exact⟨by simp,szn _ _ e0,by rw[hg.sz];exact hn,hg.ok⟩
  ·obtain⟨k1,k2,k3,k4⟩:=h.sz j a e;exact⟨List.mem_append_left _ k1,k2,k3,k4⟩
 ·rcases List.mem_append.mp hj with hj|hj
  ·obtain⟨a,e⟩:=h.has j hj;exact⟨a,up j a e⟩
  ·rw[List.mem_singleton.mp hj,at1,if_pos rfl];exact⟨g,rfl⟩
 ·rw[at1] at e
  split at e
  ·rename_i z
   subst z;injection e with e;subst e;rcases hg.way with w|⟨q,hq,hqk,x,y,ex,ey,rfl⟩
   ·exact .inl w
   ·exact .inr ⟨q,hq,hqk,x,y,up _ _ ex,up _ _ ey,rfl⟩
  ·rcases h.way j a e with w|⟨q,hq,hqk,x,y,ex,ey,rfl⟩
   ·exact .inl w
   ·exact .inr ⟨q,hq,hqk,x,y,up _ _ ex,up _ _ ey,rfl⟩
 ·have kx:=szn _ _ ex;have ky:=szn _ _ ey;have ka:=szn _ _ e;have down:gsz a<=n->gO G q.i=some x/\gO G q.r=some y:=fun hle'=>by
   refine⟨?_,?_⟩
   ·rw[at1,if_neg (fun z=>?_)] at ex
    ·exact ex
    ·rw[<- z,hc] at kx;injection kx with kx;lia
   ·rw[at1,if_neg (fun z=>?_)] at ey
    ·exact ey
    ·rw[<- z,hc] at ky;injection ky with ky;lia
  rw[at1] at e
  split at e
  ·rename_i z
   subst z;injection e with e;subst e;obtain⟨d1,d2⟩:=down (by rw[hg.sz];exact Nat.le_refl _);exact hg.min q hq hqk x y d1 d2 (by rw[<- hg.sz];exact exy)
  ·obtain⟨d1,d2⟩:=down (hle j (h.sz j a e).1 _ ka);exact h.min j a e q hq hqk x y d1 d2 exy
theorem LGp.start(f:Fm)(c:Cs):LGp f c (List.replicate f.n none) []:=by
 have no:∀k,gO (List.replicate f.n none) k=none:=fun k=>by
  unfold gO;rw[List.getD_eq_getElem?_getD,List.getElem?_replicate]
  split <;> rfl
 exact⟨List.length_replicate,fun k g e=>(by rw[no] at e;cases e),fun _ h=>(nomatch h),fun k g e=>(by rw[no] at e;cases e),fun k g e=>(by rw[no] at e;cases e)⟩
def LG(f:Fm)(c:Cs)(G:List (Option (Gr Str))):Prop := ∃D,LGp f c G D/\∀k n,at_ c k=some n->n<=300->k∈D
theorem LG.got{f:Fm}{c:Cs}{G:List (Option (Gr Str))}(h:LG f c G){k n:Nat}(hc:at_ c k=some n)(hn:n<=300):∃g,gO G k=some g/\gsz g=n:=by
 obtain⟨D,h1,h2⟩:=h;obtain⟨g,e⟩:=h1.has k (h2 k n hc hn);have:=(h1.sz k g e).2.1;rw[hc] at this;injection this with this;exact⟨g,e,this.symm⟩
theorem ZbJ:∀{g:Gr Str},gsz g=0->g=.nil
 | .nil,_=>rfl
 | .cons t w o,h=>by
  have h:1+gsz w+gsz o=0:=h;lia
theorem LG.one{f:Fm}{c:Cs}{G G':List (Option (Gr Str))}(res:f.Res c)(ok:f.Ok)(h:LG f c G)(h':LG f c G'):G=G':=by
 have key:∀(n k:Nat) g g',gsz g<=n->gO G k=some g->gO G' k=some g'->g=g':=by
  intro n
  induction n with
  | zero =>
   intro k g g' hz e e';obtain⟨D,h1,_⟩:=id h;obtain⟨D',h1',_⟩:=id h';have s1:=(h1.sz k g e).2.1;have s2:=(h1'.sz k g' e').2.1;rw[s1] at s2;injection s2 with s2;rw[ZbJ (by lia:gsz g=0),ZbJ (by lia:gsz g'=0)]
  | succ n ih =>
   intro k g g' hz e e';obtain⟨D,h1,h2⟩:=id h;obtain⟨D',h1',h2'⟩:=id h';obtain⟨_,s1,t1,o1⟩:=h1.sz k g e;obtain⟨_,s2,t2,o2⟩:=h1'.sz k g' e';rw[s1] at s2;injection s2 with s2;have step:∀{A B:List (Option (Gr Str))}{x y:Gr Str},LG f c A->LG f c B->(∀j a b,gsz a<=n->gO A j=some a->gO B j=some b->a=b)->gO A k=some x->gO B k=some y->gsz x<=n+1->gsz x=gsz y->k∉f.ends->ZaK (words SL x) (words SL y)=false:=by
    intro A B x y hA hB hih ex ey hx hxy hne;obtain⟨DA,a1,a2⟩:=id hA;obtain⟨DB,b1,b2⟩:=id hB;rcases a1.way k x ex with w|⟨q,hq,hqk,u,v,eu,ev,rfl⟩
    ·exact absurd w hne
    have hu:=a1.sz _ _ eu;have hv:=a1.sz _ _ ev;have hs:gsz (.cons q.t u v)=1+gsz u+gsz v:=rfl;obtain⟨u',eu',_⟩:=hB.got hu.2.1 hu.2.2.1;obtain⟨v',ev',_⟩:=hB.got hv.2.1 hv.2.2.1;have e1:=hih _ u u' (by lia) eu eu';have e2:=hih _ v v' (by lia) ev ev';subst e1 e2;exact b1.min k y ey q hq hqk u v eu' ev' (by lia)
   by_cases hne:k∈f.ends
   ·have z:=(res.inv ok).zero k hne;rw[s1] at z;injection z with z;rw[ZbJ z,ZbJ (by lia:gsz g'=0)]
   ·have b1:=step h h' (fun j a b hj ea eb=>ih j a b hj ea eb) e e' hz s2 hne;have b2:=step h' h (fun j a b hj ea eb=>by
     have sa:=(h1'.sz j a ea).2.1;have sb:=(h1.sz j b eb).2.1;rw[sa] at sb;injection sb with sb;exact(ih j b a (by lia) eb ea).symm) e' e (by lia) s2.symm hne
    exact ZgV o1.1 o2.1 (Zeb b1 b2)
 obtain⟨D,h1,h2⟩:=id h;obtain⟨D',h1',h2'⟩:=id h';refine List.ext_getElem? fun k=>?_;have same:gO G k=gO G' k:=by
  cases e:gO G k with
  | some g =>
   obtain⟨_,s1,t1,_⟩:=h1.sz k g e;obtain⟨g',e',_⟩:=h'.got s1 t1;rw[e',key _ k g g' (Nat.le_refl _) e e']
  | none =>
   cases e':gO G' k with
   | none=>rfl
   | some g' =>
    obtain⟨_,s1,t1,_⟩:=h1'.sz k g' e';obtain⟨g,e2,_⟩:=h.got s1 t1;rw[e] at e2;cases e2
 unfold gO at same;rw[List.getD_eq_getElem?_getD,List.getD_eq_getElem?_getD] at same;rcases Nat.lt_or_ge k f.n with z|z
 ·rw[List.getElem?_eq_getElem (by rw[h1.len];exact z),List.getElem?_eq_getElem (by rw[h1'.len];exact z)] at same ⊢;exact congrArg some same
 ·rw[List.getElem?_eq_none (by rw[h1.len];exact z),List.getElem?_eq_none (by rw[h1'.len];exact z)]
def cV:Option Nat->V
 | none=>.non
 | some c=>.int (c:Int)
theorem Zf6{a:Option Nat}:decide (cV a=V.non)=a.isNone:=by
 cases a with
 | none=>rfl
 | some c=>exact decide_eq_false (fun h=>by cases h)
theorem Zcq{cs:Cs}{k:Nat}(h:k<cs.length):atI (cs.map cV) ((k:Nat):Int)=some (cV (at_ cs k)):=by
 refine Zbb ?_;rw[List.getElem?_map,List.getElem?_eq_getElem h];unfold at_;rw[List.getD_eq_getElem?_getD,List.getElem?_eq_getElem h];rfl
theorem ZcH{n k:Nat}(h:k<n):ixN n ((k:Nat):Int)=some k:=by
 unfold ixN;rw[if_pos (by lia),if_pos (by lia)];rfl
theorem ZkZ{H:Hp}{a:Addr}{o:HO}(h:H a=some o):upd H a o=H:=by
 funext b
 by_cases e:b=a
 ·rw[e,Zb,h]
 ·rw[Zh e]
def Rls(H:Hp)(a:Addr)(qs:List Addr)(rs:List Rl):Prop:=H a=some (.tup (qs.map V.ref))/\qs.length=rs.length/\∀(i:Nat) p q,qs[i]?= some p->rs[i]?= some q->H p=some (.tup [.int q.k,.str q.t,.int q.i,.int q.r])
theorem Rls.keep{H H':Hp}{a:Addr}{qs:List Addr}{rs:List Rl}(h:Rls H a qs rs)(k:∀b xs,H b=some (.tup xs)->H' b=some (.tup xs)):Rls H' a qs rs:=⟨k _ _ h.1,h.2.1,fun i p q e1 e2=>k _ _ (h.2.2 i p q e1 e2)⟩
theorem ZaB{H:Hp}{p:Addr}{ys zs:List V}(hp:H p=some (.lst ys)):∀b xs,H b=some (.tup xs)->(upd H p (.lst zs)) b=some (.tup xs):=fun b xs h=>by
 rw[Zh (fun e=>by rw[e,hp] at h;cases h)];exact h
structure Form(H:Hp)(a:Addr)(f:Fm):Prop where
 ok:f.Ok
 ex:∃(h1 h2 h3:Addr)(qs:List Addr),H a=some (.tup [.int f.n,.ref h1,.ref h2,.ref h3])/\H h2=some (.tup (f.ends.map fun(e:Nat)=>V.int (e:Int)))/\Rls H h3 qs f.rules
theorem Form.same{H H':Hp}{a:Addr}{f:Fm}(h:Form H a f)(s:Zi H H'):Form H' a f:=by
 obtain⟨h1,h2,h3,qs,e1,e2,e3⟩:=h.ex;exact⟨h.ok,h1,h2,h3,qs,s _ _ e1,s _ _ e2,e3.keep fun b xs e=>s _ _ e⟩
def ZdL:Sp:=fun vs H Q _=>∃a b:Option Nat,vs=[cV a,cV b]/\Q (cV (above a b)) H
section
variable{X:Cx}{tg:Expr}
theorem Zlv{l:Expr}{i:Nat}(hl:PE X l (Zk0 i)):PI X tg l (fun σ H R=>Zk0 i σ H fun x H1=>(∃a,x=.ref a/\(∃xs,SqT X.K H1 a xs)/\R (Itt X.K a) H1)\/∃a,x=.ref a/\(∃xs,SqL X.K H1 a xs)/\R (Itl X.K a) H1):=fun pins s σ H R I h=>by
 obtain⟨v,e,h|h⟩:=h
 ·exact ZbR hl pins s σ H R I ⟨v,e,h⟩
 ·exact ZcM hl pins s σ H R I ⟨v,e,h⟩
end
theorem Zkn{K:PySem.W.Frag}{a:Addr}{xs:List V}{g:TG}{tb:TS}{D:Ends}{σ : St}{H:Hp}(Pv:Nat->St->Hp->Prop)(h0:Pv 0 σ H)(hk:(SqT K H a xs/\∀i σ H1,i<=xs.length->Pv i σ H1->SqT K H1 a xs)\/(SqL K H a xs/\∀i σ H1,i<=xs.length->Pv i σ H1->SqL K H1 a xs))
  (hs:∀i x σ H,xs[i]?= some x->Pv i σ H->g x σ H fun σ2 H2=>tb { D with nx:=Pv (i+1),ct:=Pv (i+1),bk:=D.nx } σ2 H2) (hd:∀ σ H,Pv xs.length σ H->D.nx σ H) :
  (∃b,V.ref a=.ref b/\(∃xs,SqT K H b xs)/\∃W:Nat->Nat->St->Hp->Prop,(∃m,W 0 m σ H)/\∀i m σ H,W i m σ H ->
   ((Itt K b).stop i H/\D.nx σ H)\/((Itt K b).go i H/\∃N:St->Hp->Prop,(∀ σ' H',N σ' H'->∃m',m'<m/\W (i+1) m' σ' H')/\∀x H',(Itt K b).yld i H x H'->g x σ H' fun σ2 H2=>tb { D with nx:=N,ct:=N,bk:=D.nx } σ2 H2)) \/
  ∃b,V.ref a=.ref b/\(∃xs,SqL K H b xs)/\∃W:Nat->Nat->St->Hp->Prop,(∃m,W 0 m σ H)/\∀i m σ H,W i m σ H ->
   ((Itl K b).stop i H/\D.nx σ H)\/((Itl K b).go i H/\∃N:St->Hp->Prop,(∀ σ' H',N σ' H'->∃m',m'<m/\W (i+1) m' σ' H')/\∀x H',(Itl K b).yld i H x H'->g x σ H' fun σ2 H2=>tb { D with nx:=N,ct:=N,bk:=D.nx } σ2 H2):=by
 rcases hk with⟨h,hl⟩|⟨h,hl⟩
 ·exact .inl ⟨a,rfl,⟨xs,h⟩,Zca Pv h0 hl hs hd⟩
 ·exact .inr ⟨a,rfl,⟨xs,h⟩,ZfO Pv h0 hl hs hd⟩
def Zfe(K:PySem.W.Frag):Sp:=fun vs H Q _=>∃(a pi p:Addr)(rs:List Rl)(qs:List Addr)(cs:Cs)(I:Cs->Cs),vs=[.ref a,.ref pi,.ref p]/\(H a=some (.tup (qs.map V.ref))\/H a=some (.lst (qs.map V.ref)))/\a≠p/\qs.length=rs.length/\(∀(i:Nat) p q,qs[i]?= some p->rs[i]?= some q->H p=some (.tup [.int q.k,.str q.t,.int q.i,.int q.r]))/\H p=some (.lst (cs.map cV))/\(∀ds:Cs,ds.length=cs.length->(I ds).length=cs.length/\(upd H p (.lst (ds.map cV))) pi=some (.lst ((I ds).map cV)))/\(∀q∈rs,q.k<cs.length/\q.i<cs.length/\q.r<cs.length) /\
 ∀m,Zd2 I rs (iter I rs m cs)->Q .non (upd H p (.lst ((iter I rs m cs).map cV)))
def Zcw(K:PySem.W.Frag):Sp:=fun vs H Q _=>∃(a:Addr)(f:Fm),vs=[.ref a]/\Form H a f/\f.n<=64/\∀(r:Addr)(cs:Cs)(H':Hp),Zi H H'->H r=none->H' r=some (.lst (cs.map cV))->f.Res cs->Q (.ref r) H'
theorem Zdh(B:∀x∈ZcI,mg x=none)(F:Fun K "count_above" "count_above" Zak f fd):FnOk P w K mg base CX0 1 f fd ["inner","rest"] ZdL:=by
 refine F.ok Zda (fun vs H Q E h=>?_) (fun cdv A outer s H vs Q E hr h=>?_)
 ·obtain⟨a,b,rfl,_⟩:=h;rfl
 obtain⟨a,b,rfl,q⟩:=h;refine⟨_,(Zc (Zas (PW.pt (Zdc (Zr ZbP (pv 0) ZZ (Zt _)) (Zch (Zr ZbP (pv 1) ZZ (Zt _)))))
   (Zf (ZR ZZ))
   ZG)
  (Zf (ZR (Zk Z2 (Zk Z2 Ze (pv 0)) (pv 1))))),?_⟩
 cases a with
 | none=>exact⟨_,rfl,rfl,_,rfl,Zdb (Zdb q)⟩
 | some x =>
  cases b with
  | none=>exact⟨_,rfl,rfl,_,rfl,Za8 ⟨_,rfl,rfl,_,rfl,Zdb q⟩⟩
  | some y =>
   refine⟨_,rfl,rfl,_,rfl,Za8 ⟨_,rfl,rfl,_,rfl,Za8 ?_⟩⟩;refine⟨_,rfl,_,_,rfl,rfl,_,rfl,_,_,rfl,rfl,?_⟩;have e:cV (above (some x) (some y))=V.int (1+(x:Int)+(y:Int)):=by
    show V.int ((1+x+y:Nat):Int)=_
    congr 1
   rw[e] at q;exact q
theorem Ziv(B:∀x∈ZcI,mg x=none)(g_count_above:Has P w K mg base "count_above" ["inner","rest"] 1 ZdL) (F:Fun K "lower" "lower" Zb5 f fd):FnOk P w K mg base CX0 2 f fd ["rules","inners","counts"] (Zfe K):=by
 refine F.ok ZaO (fun vs H Q E h=>?_) (fun cdv A outer s H vs Q E hr h=>?_)
 ·obtain⟨a,pi,p,rs,qs,cs,I,rfl,_⟩:=h;rfl
 obtain⟨a,pi,p,rs,qs,cs,I,rfl,hA,nap,hql,hR,hp,hI,hin,q⟩:=h;obtain⟨T,hT⟩:=Zki (I:=I) rs cs fun q hq=>(hin q hq).1;refine⟨_,(Zc (Zo (i:=3) ZaO.nd rfl (Or.inl rfl) ZcY)
  (Zf (Zcv PassesOwn.never (Z8 (pv 3) (fun _=>rfl))
   (Zc (Zo (i:=3) ZaO.nd rfl (Or.inl rfl) ZcY)
    (Zf (ZaY PassesOwn.never rfl (Zlv (pv 0)) (ZfR rfl (Zae (Zv (i:=4) ZaO.nd rfl (Or.inl rfl)) (Zae (Zv (i:=5) ZaO.nd rfl (Or.inl rfl)) (Zae (Zv (i:=6) ZaO.nd rfl (Or.inl rfl)) (Zae (Zv (i:=7) ZaO.nd rfl (Or.inl rfl)) ZdA)))))
     (Zc (Zo (i:=8) ZaO.nd rfl (Or.inl rfl) (ZF g_count_above hr rfl (Za (Zw ZD (pv 1) (pv 6) (fun _ _=>rfl)) (Za (Zw ZD (pv 2) (pv 7) (fun _ _=>rfl)) Zd))))
      (Zf (Zas (PW.pt (ZcJ (Zr Za9 (pv 8) ZZ (Zt _)) (ZbD (PW.pt (Zdc (Zr ZbP (Zw ZD (pv 2) (pv 4) (fun _ _=>rfl)) ZZ (Zt _)) (Zch (Zr ZjY (pv 8) (Zw ZD (pv 2) (pv 4) (fun _ _=>rfl)) (Zt _))))))))
       (Zc (Zc2 (pv 8) (Zds (pv 2) (pv 4) set_list))
        (Zf (Zo (i:=3) ZaO.nd rfl (Or.inl rfl) ZcY)))
       ZG))))))))),?_⟩
 let W:Nat->St->Hp->Prop:=fun j σ H1=>∃(t:Nat)(fl:Bool)(v4 v5 v6 v7 v8:Option V),σ =[some (.ref a),some (.ref pi),some (.ref p),some (.bl fl),v4,v5,v6,v7,v8] /\
  H1=upd H p (.lst ((iter I rs t cs).map cV))/\t+j=T+1/\(fl=true->t<=T)/\(fl=false->Zd2 I rs (iter I rs t cs))
 refine⟨W,⟨T+1,0,true,none,none,none,none,none,rfl,(ZkZ hp).symm,Nat.zero_add _,fun _=>Nat.zero_le _,fun h=>nomatch h⟩,?_⟩
 rintro j σ H1 ⟨t,fl,v4,v5,v6,v7,v8,rfl,rfl,htj,hf1,hf2⟩;cases fl with
 | false=>exact⟨_,rfl,false,rfl,Za8 (q t (hf2 rfl))⟩
 | true =>
  have htT:=hf1 rfl;refine⟨_,rfl,true,rfl,Zdb ⟨W (j-1),fun σ' H' h=>⟨j-1,by lia,h⟩,?_⟩⟩;generalize hct:iter I rs t cs=ct;have hcl:ct.length=cs.length:=by rw[<- hct,ZaP]
  have hRu:∀zs (i:Nat) p' q,qs[i]?= some p'->rs[i]?= some q->(upd H p (.lst zs)) p'=some (.tup [.int q.k,.str q.t,.int q.i,.int q.r]):=fun zs i p' q e1 e2=>ZaB hp _ _ (hR i p' q e1 e2);refine⟨_,rfl,Zkn (K:=K) (a:=a) (xs:=qs.map V.ref) (fun i σ H1=>∃(fl:Bool)(v4 v5 v6 v7 v8:Option V),σ =[some (.ref a),some (.ref pi),some (.ref p),some (.bl fl),v4,v5,v6,v7,v8] /\
   H1=upd H p (.lst ((pass I (rs.take i) ct).map cV))/\(fl=false->Zd2 I (rs.take i) ct)/\(fl=true -> ¬ Zd2 I rs ct)) ⟨false,v4,v5,v6,v7,v8,rfl,rfl,fun _ _ h=>(nomatch h),fun h=>(nomatch h)⟩ ?_ ?_ ?_⟩
  ·rcases hA with h|h
   ·refine .inl ⟨SqT.of (ZaB hp _ _ h),?_⟩;rintro i σ H1 _ ⟨fl,v4,v5,v6,v7,v8,_,rfl,_⟩;exact SqT.of (ZaB hp _ _ h)
   ·refine .inr ⟨SqL.of (by rw[Zh nap];exact h),?_⟩;rintro i σ H1 _ ⟨fl,v4,v5,v6,v7,v8,_,rfl,_⟩;exact SqL.of (by rw[Zh nap];exact h)
  ·rintro i x σ H1 hi ⟨fl,v4,v5,v6,v7,v8,rfl,rfl,hst,hns⟩;rw[List.getElem?_map] at hi;obtain⟨pq,hpq,rfl⟩:=Option.map_eq_some_iff.mp hi;obtain⟨q1,hq1⟩:∃q1,rs[i]?= some q1:=⟨_,List.getElem?_eq_getElem (by have:=(List.getElem?_eq_some_iff.mp hpq).1;have:=hql;lia)⟩;have hqm:q1∈rs:=List.mem_of_getElem? hq1;obtain⟨k1,k2,k3⟩:=hin q1 hqm;rw[Zdt hq1,Zg9];have hcl2:(pass I (rs.take i) ct).length=cs.length:=by rw[ZaL,hcl]
   have hsame:Zd2 I (rs.take i) ct->pass I (rs.take i) ct=ct:=fun h=>Zbl h;have hq4:=hRu ((pass I (rs.take i) ct).map cV) i pq q1 hpq hq1;generalize pass I (rs.take i) ct=ci at hcl2 hsame hq4;have hl:∀{zs:List V},SqL K (upd H p (.lst zs)) p zs:=SqL.of Zb;obtain⟨hI1,hI2⟩:=hI ci hcl2;have k2':q1.i<(I ci).length:=by rw[hI1];exact k2
   rw[<- hcl2] at k1 k3;refine⟨pq,_,rfl,SqT.of hq4,rfl,_,_,rfl,_,_,rfl,_,_,rfl,_,_,rfl,rfl,?_⟩;refine⟨_,rfl,_,rfl,pi,_,_,_,rfl,rfl,SqL.of hI2,Zcq k2',_,rfl,_,rfl,p,_,_,_,rfl,rfl,hl,Zcq k3,at_ (I ci) q1.i,at_ ci q1.r,rfl,?_⟩;have hlow:above (at_ (I ci) q1.i) (at_ ci q1.r)=low I ci q1:=rfl;rw[hlow];have no:better (low I ci q1) (at_ ci q1.k)=false->∃(fl':Bool)(w4 w5 w6 w7 w8:Option V),[some (V.ref a),some (.ref pi),some (.ref p),some (.bl fl),some (.int q1.k),some (.str q1.t),some (.int q1.i),some (.int q1.r),some (cV (low I ci q1))] =[some (V.ref a),some (.ref pi),some (.ref p),some (.bl fl'),w4,w5,w6,w7,w8]/\upd H p (.lst (ci.map cV))=upd H p (.lst ((step1 I ci q1).map cV))/\(fl'=false->Zd2 I (rs.take i ++ [q1]) ct)/\(fl'=true -> ¬ Zd2 I rs ct):=fun hb=>by
    refine⟨fl,_,_,_,_,_,rfl,?_,fun hf=>?_,hns⟩
    ·unfold step1;rw[hb,if_neg (by decide)]
    ·intro z hz;rcases List.mem_append.mp hz with hz|hz
     ·exact hst hf z hz
     ·rw[List.mem_singleton.mp hz,<- hsame (hst hf)];exact hb
   have yes:better (low I ci q1) (at_ ci q1.k)=true->∃(fl':Bool)(w4 w5 w6 w7 w8:Option V),[some (V.ref a),some (.ref pi),some (.ref p),some (.bl true),some (.int q1.k),some (.str q1.t),some (.int q1.i),some (.int q1.r),some (cV (low I ci q1))] =[some (V.ref a),some (.ref pi),some (.ref p),some (.bl fl'),w4,w5,w6,w7,w8]/\upd (upd H p (.lst (ci.map cV))) p (.lst ((ci.map cV).set q1.k (cV (low I ci q1))))=upd H p (.lst ((step1 I ci q1).map cV))/\(fl'=false->Zd2 I (rs.take i ++ [q1]) ct)/\(fl'=true -> ¬ Zd2 I rs ct):=fun hb=>by
    refine⟨true,_,_,_,_,_,rfl,?_,fun hf=>(nomatch hf),fun _ hS=>?_⟩
    ·unfold step1;rw[hb,if_pos rfl,ZdF,List.map_set]
    ·rw[hsame (fun z hz=>hS z (List.mem_of_mem_take hz)),hS q1 hqm] at hb;cases hb
   have hix:ixN (ci.map cV).length ((q1.k:Nat):Int)=some q1.k:=ZcH (by rw[List.length_map];exact k1);refine⟨_,rfl,rfl,_,rfl,?_⟩;rw[Zf6];cases hlw:low I ci q1 with
   | none =>
    rw[hlw] at no;exact Za8 (Za8 (no rfl))
   | some c =>
    rw[hlw] at no yes;refine Zdb ⟨_,rfl,_,rfl,p,_,_,_,rfl,rfl,hl,Zcq k1,rfl,_,rfl,?_⟩;rw[Zf6];cases hat:at_ ci q1.k with
    | none =>
     rw[hat] at yes;exact Zdb (Zdb ⟨_,rfl,_,rfl,_,rfl,p,_,_,_,rfl,rfl,Zb,hix,yes rfl⟩)
    | some d =>
     rw[hat] at no yes;refine Za8 ⟨_,rfl,_,rfl,_,rfl,p,_,_,_,rfl,rfl,hl,Zcq k1,?_⟩;rw[hat];refine⟨_,_,rfl,rfl,_,rfl,?_⟩;refine ZbI (fun hc=>?_) (fun hc=>?_)
     ·have hcd:c<d:=by
       have:=of_decide_eq_true hc;lia
      exact⟨_,rfl,_,rfl,_,rfl,p,_,_,_,rfl,rfl,Zb,hix,yes (decide_eq_true hcd)⟩
     ·have hcd : ¬ c<d:=fun h=>hc (decide_eq_true (by lia));exact no (decide_eq_false hcd)
  ·rintro σ H1 ⟨fl,v4,v5,v6,v7,v8,rfl,rfl,hst,hns⟩;rw[List.length_map,hql,List.take_length] at hst ⊢;have hnext:pass I rs ct=iter I rs (t+1) cs:=by rw[ZbT,hct]
   refine⟨t+1,fl,v4,v5,v6,v7,v8,rfl,by rw[hnext],by lia,fun hf=>?_,fun hf=>?_⟩
   ·rcases Nat.lt_or_ge t T with h|h
    ·exact h
    ·exfalso;have e:t=T:=by lia
     rw[e] at hct;rw[hct] at hT;exact hns hf hT
   ·rw[<- hnext,Zbl (hst hf)];exact hst hf
theorem Zeq(cs:Cs)(es:List Nat)(e:Nat):Zbo cs (es ++ [e])=(Zbo cs es).set e (some 0):=by
 unfold Zbo;rw[List.foldl_append];rfl
theorem ZiE(n:Nat):(List.replicate n [V.non]).flatten=(List.replicate n (none:Option Nat)).map cV:=by
 rw[List.map_replicate,List.flatten_replicate_singleton];rfl
theorem Zg5(B:∀x∈ZcI,mg x=none)(g_lower:Has P w K mg base "lower" ["rules","inners","counts"] 2 (Zfe K)) (F:Fun K "fewest" "fewest" Zbw f fd):FnOk P w K mg base CX0 3 f fd ["form"] (Zcw K):=by
 refine F.ok ZcO (fun vs H Q E h=>?_) (fun cdv A outer s H vs Q E hr h=>?_)
 ·obtain⟨a,fm,rfl,_⟩:=h;rfl
 obtain⟨a,fm,rfl,hF,hn,q⟩:=h;obtain⟨h1,h2,h3,qs,ea,e2,hR⟩:=hF.ex;have ok:=hF.ok;refine⟨_,(Zc (Zo (i:=1) ZcO.nd rfl (Or.inl rfl) (Zk Zi6 (Zax (Za ZZ Zd)) (Zw ZP (pv 0) Ze (fun _ _=>rfl))))
  (Zc (ZaY PassesOwn.never rfl (ZbR (Zw ZP (pv 0) Ze (fun _ _=>rfl))) (Zv (i:=2) ZcO.nd rfl (Or.inl rfl))
   (Zf (Zc2 Ze (Zds (pv 1) (pv 2) set_list))))
  (Zc (Zad (ZF g_lower hr rfl (Za (Zw ZP (pv 0) Ze (fun _ _=>rfl)) (Za (pv 1) (Za (pv 1) Zd)))))
  (Zf (ZR (pv 1)))))),?_⟩
 refine⟨by decide,fun l hl=>?_⟩;have sl:Zi H (upd H l (.lst [.non])):=Zi.new hl;refine⟨_,rfl,a,_,0,_,rfl,rfl,SqT.of (sl _ _ ea),rfl,l,(fm.n:Int),_,rfl,rfl,Zb,by lia,by lia,?_,fun p hp=>?_⟩
 ·show 1*(fm.n:Int).toNat<=sizeLine;exact ZcQ (by lia)
 obtain⟨npl,hp0⟩:=ZaG hp;have s2:Zi H (upd (upd H l (.lst [.non])) p (.lst (List.replicate (fm.n:Int).toNat [V.non]).flatten)):=sl.upd_new hp0;refine⟨_,rfl,a,_,2,_,rfl,rfl,SqT.of (s2 _ _ ea),rfl,h2,rfl,⟨_,SqT.of (s2 _ _ e2)⟩,Zca (K:=K) (a:=h2) (xs:=fm.ends.map fun(e:Nat)=>V.int (e:Int)) (fun i σ H1=>∃v2:Option V,σ =[some (.ref a),some (.ref p),v2]/\Zi H H1 /\
  H1 p=some (.lst ((Zbo (List.replicate fm.n none) (fm.ends.take i)).map cV))) ⟨none,rfl,s2,?_⟩ ?_ ?_ ?_⟩
 ·rw[Zb,Int.toNat_natCast,ZiE];rfl
 ·rintro i σ H1 _ ⟨v2,_,sm,_⟩;exact SqT.of (sm _ _ e2)
 ·rintro i x σ H1 hi ⟨v2,rfl,sm,hp1⟩;rw[List.getElem?_map] at hi;obtain⟨e,he,rfl⟩:=Option.map_eq_some_iff.mp hi;have hen:=ok.e e (List.mem_of_getElem? he);refine⟨_,rfl,_,rfl,p,_,_,_,rfl,rfl,hp1,ZcH (by rw[List.length_map,ZbE,List.length_replicate];exact hen),?_⟩;refine⟨_,rfl,sm.upd_new hp0,?_⟩;rw[Zb,Zdt he,Zeq,List.map_set];rfl
 ·rintro σ H1 ⟨v2,rfl,sm,hp1⟩;rw[List.length_map,List.take_length] at hp1;have hin:∀q∈fm.rules,q.k<fm.init.length/\q.i<fm.init.length/\q.r<fm.init.length:=fun q hq=>by
   rw[fm.init_len];exact ok.q q hq
  refine⟨_,rfl,a,_,3,_,rfl,rfl,SqT.of (sm _ _ ea),rfl,_,rfl,_,rfl,h3,p,p,fm.rules,qs,fm.init,iD,rfl,.inl (sm _ _ hR.1),fun z=>?_,hR.2.1,fun i p q e1 e2=>sm _ _ (hR.2.2 i p q e1 e2),hp1,fun ds hd=>⟨hd,Zb⟩,hin,fun m hS=>?_⟩
  ·have:=sm _ _ hR.1;rw[z,hp1] at this;cases this
  ·exact⟨_,rfl,q p _ _ (sm.upd_new hp0) hp0 Zb ⟨m,rfl,hS⟩⟩
def KT(H H':Hp):Prop := ∀b o,H b=some o->(∀ps,o ≠ .tbl ps)->H' b=some o
theorem KT.of{H H':Hp}(s:Zi H H'):KT H H':=fun b o h _=>s b o h
theorem KT.trans{H H1 H2:Hp}(a:KT H H1)(b:KT H1 H2):KT H H2:=fun c o h n=>b c o (a c o h n) n
theorem KT.tab{H H':Hp}{P:Addr}{L:List (Pos×Str)}(T:ZbG H P L)(s:ZhT P H H'):KT H H':=fun b o h n=>s b o (fun z=>by
 obtain⟨ps,hP,_⟩:=T;rw[z,hP] at h;injection h with h;exact n _ h.symm) h
theorem KT.tk{H H':Hp}(k:KT H H'):TK H H':=fun b xs e=>k b _ e fun _ z=>nomatch z
theorem KT.lst{H H':Hp}(k:KT H H'){b:Addr}{xs:List V}(h:H b=some (.lst xs)):H' b=some (.lst xs):=k b _ h fun _ z=>nomatch z
theorem Form.kt{H H':Hp}{a:Addr}{f:Fm}(h:Form H a f)(k:TK H H'):Form H' a f:=by
 obtain⟨h1,h2,h3,qs,e1,e2,e3⟩:=h.ex;exact⟨h.ok,h1,h2,h3,qs,k _ _ e1,k _ _ e2,e3.keep fun b xs e=>k _ _ e⟩
def gV(H:Hp)(v:V):Option (Gr Str)->Prop
 | none=>v=.non
 | some g=>∃a xs,v=.ref a/\H a=some (.tup xs)/\RepG H xs g
def GsV(H:Hp)(vs:List V)(G:List (Option (Gr Str))):Prop:=vs.length=G.length/\∀(k:Nat) v,vs[k]?= some v->gV H v (gO G k)
theorem gV.mono{H H':Hp}(k:TK H H'){v:V}:∀{o:Option (Gr Str)},gV H v o->gV H' v o
 | none,h=>h
 | some _,⟨a,xs,e,h1,h2⟩=>⟨a,xs,e,k _ _ h1,h2.mono k⟩
theorem GsV.mono{H H':Hp}{vs:List V}{G:List (Option (Gr Str))}(h:GsV H vs G)(k:TK H H'):GsV H' vs G:=⟨h.1,fun i v e=>(h.2 i v e).mono k⟩
theorem GsV.at{H:Hp}{vs:List V}{G:List (Option (Gr Str))}(h:GsV H vs G){k:Nat}(hk:k<G.length):∃v,vs[k]?= some v/\atI vs ((k:Nat):Int)=some v/\gV H v (gO G k):=by
 have e:vs[k]?= some (vs[k]'(by rw[h.1];exact hk)):=List.getElem?_eq_getElem _;exact⟨_,e,Zbb e,h.2 k _ e⟩
theorem GsV.set{H:Hp}{vs:List V}{G:List (Option (Gr Str))}(h:GsV H vs G){k:Nat}{v:V}{o:Option (Gr Str)}(hk:k<G.length)(hv:gV H v o):GsV H (vs.set k v) (G.set k o):=by
 refine⟨by rw[List.length_set,List.length_set];exact h.1,fun j w e=>?_⟩;rw[ZiX hk];rw[List.getElem?_set] at e
 split at e
 ·rename_i z
  rw[if_pos z]
  split at e
  ·injection e with e;subst e;exact hv
  ·cases e
 ·rename_i z
  rw[if_neg z];exact h.2 j w e
theorem GsV.new(H:Hp)(n:Nat):GsV H (List.replicate n V.non) (List.replicate n none):=by
 refine⟨by rw[List.length_replicate,List.length_replicate],fun k v e=>?_⟩;rw[List.getElem?_replicate] at e;have no:gO (List.replicate n none) k=none:=by
  unfold gO;rw[List.getD_eq_getElem?_getD,List.getElem?_replicate]
  split <;> rfl
 rw[no]
 split at e
 ·injection e with e;exact e.symm
 ·cases e
def smO:Option Nat->Bool
 | none=>false
 | some n=>decide (n<=300)
def Zd7:Sp:=fun vs H Q _=>∃o:Option Nat,vs=[cV o]/\Q (.bl (smO o)) H
theorem Zfo(B:∀x∈ZcI,mg x=none)(Cc:∃t:Tok,mg "MOST_TAGS" = some (.int 300 t)) (F:Fun K "is_small" "is_small" ZaR f fd):FnOk P w K mg base CX0 1 f fd ["count"] Zd7:=by
 refine F.ok Ze7 (fun vs H Q E h=>?_) (fun cdv A outer s H vs Q E hr h=>?_)
 ·obtain⟨o,rfl,_⟩:=h;rfl
 obtain⟨o,rfl,q⟩:=h;obtain⟨t1,c_MOST_TAGS⟩:=Cc;refine⟨_,(Zf (ZR (ZeA (ZaI Za9 (pv 0) ZZ (Zt _)) (Zei (ZaI ZjE (pv 0) (Zb9 (v:=.int 300) rfl c_MOST_TAGS ⟨_,rfl⟩) (Zt _)))))),?_⟩;cases o with
 | none=>exact⟨_,rfl,rfl,false,rfl,Za8 q⟩
 | some n =>
  refine⟨_,rfl,rfl,true,rfl,Zdb ⟨_,rfl,_,_,rfl,rfl,?_⟩⟩;have e:decide ((n:Int)<=300)=smO (some n):=by
   show decide ((n:Int)<=300)=decide (n<=300);by_cases c:n<=300
   ·rw[decide_eq_true c,decide_eq_true (by lia)]
   ·rw[decide_eq_false c,decide_eq_false (by lia)]
  show Q (.bl (decide ((n:Int)<=300))) H;rw[e];exact q
def Zjz(K:PySem.W.Frag):Sp:=fun vs H Q _=>∃(a cl gl:Addr)(f:Fm)(c:Cs)(k n:Nat)(us:List V)(G:List (Option (Gr Str))),vs=[.ref a,.int (k:Int),.ref cl,.ref gl]/\Form H a f/\f.rules.length<=900/\(∀q∈f.rules,ZdT q.t)/\f.Res c/\H cl=some (.lst (c.map cV))/\H gl=some (.lst us)/\GsV H us G/\G.length=f.n/\k<f.n/\at_ c k=some n/\0<n/\n<=300 /\
 (∀j g,gO G j=some g->at_ c j=some (gsz g)/\okG g)/\(∀j m,at_ c j=some m->m<n->∃g,gO G j=some g)/\∀(r:Addr)(xs:List V)(g:Gr Str)(H':Hp),Zi H H'->H' r=some (.tup xs)->RepG H' xs g->IsMin f G k n g->Q (.ref r) H'
theorem Zkp{a b:Option Nat}:decide (cV a=cV b)=decide (a=b):=by
 cases a with
 | none=>cases b <;> simp[cV]
 | some x =>
  cases b with
  | none=>simp[cV]
  | some y =>
   by_cases e:x=y
   ·subst e;simp
   ·rw[decide_eq_false (fun z=>e (by injection z with z;lia)),decide_eq_false (fun z=>e (by injection z))]
theorem Zjo{a b:Option Nat}:Zk8 (cV a) (cV b)=true:=by cases a <;> cases b <;> rfl
theorem ZaA{α β : Type}{F : α -> β -> Prop}:∀{l:List α}{m:List β},Paired F l m->∀{i:Nat}{a : α}{b : β},l[i]?= some a->m[i]?= some b->F a b
 | _,_,.nil,i,a,b,h,_=>by simp at h
 | _,_,.cons h t,0,a,b,e1,e2=>by
  simp only[List.getElem?_cons_zero,Option.some.injEq] at e1 e2;subst e1 e2;exact h
 | _,_,.cons h t,i+1,a,b,e1,e2=>by
  rw[List.getElem?_cons_succ] at e1 e2;exact ZaA t e1 e2
theorem ZbA{α β γ : Type}{F : α -> β -> Prop}{F' : α -> γ -> Prop}{g : β -> γ}(h:∀a b,F a b->F' a (g b)):∀{l:List α}{m:List β},Paired F l m->Paired F' l (m.map g)
 | _,_,.nil=>.nil
 | _,_,.cons h1 t=>.cons (h _ _ h1) (ZbA h t)
set_option maxHeartbeats 2000000 in
theorem Zcd(B:∀x∈ZcI,mg x=none)(g_count_above:Has P w K mg base "count_above" ["inner","rest"] 1 ZdL) (g_least_among:Has P w K mg base "least_among" ["groves"] 4 (Zd1 K)) (F:Fun K "least_by_rules" "least_by_rules" Z0 f fd):FnOk P w K mg base CX0 5 f fd ["form","kind","counts","groves"] (Zjz K):=by
 refine F.ok ZW (fun vs H Q E h=>?_) (fun cdv A outer s H vs Q E hr h=>?_)
 ·obtain⟨a,cl,gl,fm,c,k,n,us,G,rfl,_⟩:=h;rfl
 obtain⟨a,cl,gl,fm,c,k,n,us,G,rfl,hF,r9,hlet,res,hcl,hgl,hG,hGl,hk,hck,n0,n3,hsz,hhas,q⟩:=h;obtain⟨h1,h2,h3,qs,ea,e2,hR⟩:=hF.ex;have ok:=hF.ok;have hcn:c.length=fm.n:=(res.inv ok).len;refine⟨_,(Zc (Zo (i:=4) ZW.nd rfl (Or.inl rfl) (Zax Zd))
  (Zc (ZaY PassesOwn.never rfl (ZbR (Zw ZP (pv 0) Ze (fun _ _=>rfl))) (ZfR rfl (Zae (Zv (i:=5) ZW.nd rfl (Or.inl rfl)) (Zae (Zv (i:=6) ZW.nd rfl (Or.inl rfl)) (Zae (Zv (i:=7) ZW.nd rfl (Or.inl rfl)) (Zae (Zv (i:=8) ZW.nd rfl (Or.inl rfl)) ZdA)))))
   (Zf (Zas (PW.pt (ZcJ (Zr Zco (pv 5) (pv 1) (Zt _)) (ZbD (Zr Zco (ZF g_count_above hr rfl (Za (Zw ZD (pv 2) (pv 7) (fun _ _=>rfl)) (Za (Zw ZD (pv 2) (pv 8) (fun _ _=>rfl)) Zd))) (Zw ZD (pv 2) (pv 1) (fun _ _=>rfl)) (Zt _)))))
     (Zf (Zad (Zbn PySem.F.plainAttrs_list PySem.F.slot_list_append PySem.F.type_list_append ZJ (pv 4) (Za (Zk Ze1 (ZK (Za (ZK (Za (pv 6) (Za (Zw ZD (pv 3) (pv 7) (fun _ _=>rfl)) Zd))) Zd)) (Zw ZD (pv 3) (pv 8) (fun _ _=>rfl))) Zd))))
     ZG)))
  (Zf (ZR (ZF g_least_among hr rfl (Za (pv 4) Zd)))))),?_⟩
 refine⟨by decide,fun fl hfl=>?_⟩;have k0:Zi H (upd H fl (.lst [])):=Zi.new hfl;refine⟨_,rfl,a,_,3,_,rfl,rfl,SqT.of (k0 _ _ ea),rfl,h3,rfl,⟨_,SqT.of (k0 _ _ hR.1)⟩,Zca (K:=K) (a:=h3) (xs:=qs.map V.ref) (fun i σ H1=>∃(v5 v6 v7 v8:Option V)(as:List Addr)(gs:List (Gr Str)),σ =[some (.ref a),some (.int (k:Int)),some (.ref cl),some (.ref gl),some (.ref fl),v5,v6,v7,v8]/\Zi H H1/\H1 fl=some (.lst (as.map V.ref))/\as.length<=i/\Paired (fun b g=>∃xs,H1 b=some (.tup xs)/\RepG H1 xs g/\gsz g=n/\okG g) as gs /\
   (∀g∈gs,∃q∈fm.rules,q.k=k/\∃x y,gO G q.i=some x/\gO G q.r=some y/\g=.cons q.t x y)/\∀q∈fm.rules.take i,q.k=k->∀x y,gO G q.i=some x->gO G q.r=some y->1+gsz x+gsz y=n -> .cons q.t x y∈gs)
  ⟨none,none,none,none,[],[],rfl,k0,Zb,Nat.le_refl _,.nil,fun _ h=>(nomatch h),fun _ h=>(nomatch h)⟩ ?_ ?_ ?_⟩
 ·rintro i σ H1 _ ⟨_,_,_,_,_,_,_,sm,_⟩;exact SqT.of (sm _ _ hR.1)
 ·rintro i x σ H1 hx ⟨v5,v6,v7,v8,as,gs,rfl,sm,hfl1,hal,hP,hway,hall⟩;rw[List.getElem?_map] at hx;obtain⟨p,hp,rfl⟩:=Option.map_eq_some_iff.mp hx;have hi:=(List.getElem?_eq_some_iff.mp hp).1;have hir:i<fm.rules.length:=by rw[<- hR.2.1];exact hi
  obtain⟨q0,hq0⟩:∃q0,fm.rules[i]?= some q0:=⟨_,List.getElem?_eq_getElem hir⟩;have hqm:=List.mem_of_getElem? hq0;have ept:=hR.2.2 i p q0 hp hq0;obtain⟨b1,b2,b3⟩:=ok.q q0 hqm;have tk1:fm.rules.take (i+1)=fm.rules.take i ++ [q0]:=by
   rw[List.take_succ_eq_append_getElem hir,(List.getElem?_eq_some_iff.mp hq0).2]
  refine⟨p,_,rfl,SqT.of (sm _ _ ept),rfl,_,_,rfl,_,_,rfl,_,_,rfl,_,_,rfl,rfl,?_⟩;have skip:(∀x y,q0.k=k->gO G q0.i=some x->gO G q0.r=some y->1+gsz x+gsz y=n->False)->∀w5 w6 w7 w8:Option V,∃(v5 v6 v7 v8:Option V)(as':List Addr)(gs':List (Gr Str)),[some (V.ref a),some (.int (k:Int)),some (.ref cl),some (.ref gl),some (.ref fl),w5,w6,w7,w8] =[some (.ref a),some (.int (k:Int)),some (.ref cl),some (.ref gl),some (.ref fl),v5,v6,v7,v8]/\Zi H H1/\H1 fl=some (.lst (as'.map V.ref))/\as'.length<=i+1/\Paired (fun b g=>∃xs,H1 b=some (.tup xs)/\RepG H1 xs g/\gsz g=n/\okG g) as' gs' /\
   (∀g∈gs',∃q∈fm.rules,q.k=k/\∃x y,gO G q.i=some x/\gO G q.r=some y/\g=.cons q.t x y)/\∀q∈fm.rules.take (i+1),q.k=k->∀x y,gO G q.i=some x->gO G q.r=some y->1+gsz x+gsz y=n -> .cons q.t x y∈gs':=fun no w5 w6 w7 w8=>⟨w5,w6,w7,w8,as,gs,rfl,sm,hfl1,by lia,hP,hway,fun q hq hqk x y ex ey exy=>by
    rw[tk1] at hq;rcases List.mem_append.mp hq with hq|hq
    ·exact hall q hq hqk x y ex ey exy
    ·rw[List.mem_singleton.mp hq] at hqk ex ey ⊢;exact(no x y hqk ex ey exy).elim⟩
  refine⟨_,rfl,_,rfl,rfl,_,rfl,ZbI (fun d1=>?_) (fun d1=>?_)⟩;rotate_left
  ·exact skip (fun x y hqk _ _ _=>d1 (decide_eq_true (by rw[hqk]))) _ _ _ _
  have d1:q0.k=k:=by
   have:=of_decide_eq_true d1;injection this with this;lia
  refine⟨_,rfl,_,rfl,cl,_,_,_,rfl,rfl,SqL.of (sm _ _ hcl),Zcq (by lia),_,rfl,_,rfl,cl,_,_,_,rfl,rfl,SqL.of (sm _ _ hcl),Zcq (by lia),_,_,rfl,?_⟩;refine⟨_,rfl,_,rfl,cl,_,_,_,rfl,rfl,SqL.of (sm _ _ hcl),Zcq (by lia),?_⟩;refine⟨Zjo,_,rfl,ZbI (fun d2=>?_) (fun d2=>?_)⟩;rotate_left
  ·refine skip (fun x y _ ex ey exy=>d2 ?_) _ _ _ _;rw[Zkp,hck,(hsz _ _ ex).1,(hsz _ _ ey).1];exact decide_eq_true (by show some (1+gsz x+gsz y)=some n;rw[exy])
  rw[Zkp,hck] at d2;have d2:=of_decide_eq_true d2;obtain⟨x',y',ex',ey',hxy⟩:∃x' y',at_ c q0.i=some x'/\at_ c q0.r=some y'/\1+x'+y'=n:=by
   cases ex':at_ c q0.i with
   | none=>rw[ex'] at d2;cases d2
   | some x' =>
    cases ey':at_ c q0.r with
    | none=>rw[ex',ey'] at d2;cases d2
    | some y' =>
     rw[ex',ey'] at d2;injection d2 with d2;exact⟨x',y',rfl,rfl,d2⟩
  obtain⟨gx,egx⟩:=hhas q0.i x' ex' (by lia);obtain⟨gy,egy⟩:=hhas q0.r y' ey' (by lia);obtain⟨zx,okx⟩:=hsz _ _ egx;obtain⟨zy,oky⟩:=hsz _ _ egy;rw[ex'] at zx;rw[ey'] at zy;injection zx with zx;injection zy with zy;obtain⟨w1,_,hv1,hg1⟩:=hG.at (k:=q0.i) (by rw[hGl];exact b2);obtain⟨w2,_,hv2,hg2⟩:=hG.at (k:=q0.r) (by rw[hGl];exact b3);rw[egx] at hg1;rw[egy] at hg2;obtain⟨a1,xs1,rfl,ha1,hr1⟩:=hg1;obtain⟨a2,xs2,rfl,ha2,hr2⟩:=hg2;have l2:=hr2.length;rw[Zap] at l2;refine⟨_,rfl,.inl ⟨rfl,_,SqL.of hfl1⟩,_,rfl,_,rfl,_,rfl,gl,_,_,_,rfl,rfl,SqL.of (sm _ _ hgl),hv1,(show(2:Nat)<=sizeLine from by decide),fun p1 hp1=>⟨(show(1:Nat)<=sizeLine from by decide),fun p2 hp2=>?_⟩⟩;have s2:Zi H1 (upd (upd H1 p1 (.tup [.str q0.t,.ref a1])) p2 (.tup [.ref p1])):=(Zi.new hp1).trans (Zi.new hp2);refine⟨_,rfl,_,rfl,gl,_,_,_,rfl,rfl,SqL.of (s2 _ _ (sm _ _ hgl)),hv2,p2,a2,_,_,rfl,rfl,Zb,s2 _ _ (sm _ _ ha2),by rw[sizeLine_eq,List.length_singleton];lia,fun p3 H4 s4 e4=>?_⟩;have s14:Zi H1 H4:=s2.trans s4;have hfl4:=s14 _ _ hfl1;have tk:∀b xs,H4 b=some (.tup xs)->(upd H4 fl (.lst (as.map V.ref ++ [.ref p3]))) b=some (.tup xs):=ZaB hfl4;have ep1:H4 p1=some (.tup [.str q0.t,.ref a1]):=s4 _ _ ((Zi.new hp2) _ _ Zb);refine⟨fl,_,_,rfl,rfl,hfl4,by rw[sizeLine_eq,List.length_map];lia,some (.int (q0.k:Int)),some (.str q0.t),some (.int (q0.i:Int)),some (.int (q0.r:Int)),as ++ [p3],gs ++ [.cons q0.t gx gy],rfl,(sm.trans s14).upd_new hfl,by rw[Zb,List.map_append];rfl,by rw[List.length_append,List.length_singleton];lia,?_,?_,?_⟩
  ·refine Paired.app (Paired.mapP hP fun b g ⟨xs,h1,h2,h3⟩=>⟨xs,tk _ _ (s14 _ _ h1),(h2.mono s14.tk).mono tk,h3⟩) (.cons ⟨_,tk _ _ e4,RepG.cons (tk _ _ ep1) (tk _ _ (s14 _ _ (sm _ _ ha1))) (((hr1.mono sm.tk).mono s14.tk).mono tk) (((hr2.mono sm.tk).mono s14.tk).mono tk),?_,okG.cons (hlet q0 hqm) okx oky⟩ .nil);show 1+gsz gx+gsz gy=n;lia
  ·intro g hg;rcases List.mem_append.mp hg with hg|hg
   ·exact hway g hg
   ·rw[List.mem_singleton.mp hg];exact⟨q0,hqm,d1,gx,gy,egx,egy,rfl⟩
  ·intro q hq hqk x y ex ey exy;rw[tk1] at hq;rcases List.mem_append.mp hq with hq|hq
   ·exact List.mem_append_left _ (hall q hq hqk x y ex ey exy)
   ·rw[List.mem_singleton.mp hq] at ex ey ⊢;rw[egx] at ex;rw[egy] at ey;injection ex with ex;injection ey with ey;subst ex ey;exact List.mem_append_right _ (List.mem_singleton.mpr rfl)
 ·rintro σ H1 ⟨v5,v6,v7,v8,as,gs,rfl,sm,hfl1,hal,hP,hway,hall⟩;have hall':∀q∈fm.rules,q.k=k->∀x y,gO G q.i=some x->gO G q.r=some y->1+gsz x+gsz y=n -> .cons q.t x y∈gs:=by
   rw[List.take_of_length_le (by rw[List.length_map,hR.2.1];exact Nat.le_refl _)] at hall;exact hall
  refine⟨_,rfl,fl,as,gs.map (words SL),rfl,hfl1,by rw[List.length_map,hR.2.1] at hal;lia,ZbA (fun b g ⟨xs,h1,h2,h3,h4⟩=>⟨xs,g,SqT.of h1,h2,rfl,by rw[Zap,h3];lia,h4.2⟩) hP,fun e=>?_,fun w0 ws0 ew i b H2 hb hw s2=>?_⟩
  ·have hgs:gs=[]:=List.eq_nil_of_length_eq_zero (by rw[<- Paired.length hP,e];rfl);rcases res.got ok hck with hz|⟨q,hq,hqk,x,y,ex,ey,exy⟩
   ·have:=(res.inv ok).zero k hz;rw[hck] at this;injection this with this;lia
   ·obtain⟨gx,egx⟩:=hhas q.i x ex (by lia);obtain⟨gy,egy⟩:=hhas q.r y ey (by lia);have zx:=(hsz _ _ egx).1;have zy:=(hsz _ _ egy).1;rw[ex] at zx;rw[ey] at zy;injection zx with zx;injection zy with zy;have:=hall' q hq hqk gx gy egx egy (by lia);rw[hgs] at this;cases this
  ·rw[List.getElem?_map] at hw;obtain⟨g,hg,hgw⟩:=Option.map_eq_some_iff.mp hw;obtain⟨xs,h1,h2,h3,h4⟩:=ZaA hP hb hg;refine q b xs g H2 (sm.trans s2) (s2 _ _ h1) (h2.mono s2.tk) ⟨h3,h4,.inr (hway g (List.mem_of_getElem? hg)),fun q hq hqk x y ex ey exy=>?_⟩;have hm:=List.mem_map_of_mem (f:=words SL) (hall' q hq hqk x y ex ey exy);rw[ew] at hm;rw[hgw];exact(ZcN ws0 w0).2 _ hm
theorem KT.upd_new{H H1:Hp}{p:Addr}{o:HO}(k:KT H H1)(h:H p=none):KT H (upd H1 p o):=fun b u e n=>by
 rw[Zh (fun z=>by rw[z,h] at e;cases e)];exact k b u e n
def smL(n:Nat)(c:Cs):List Nat:=(List.range n).filter fun k=>smO (at_ c k)
theorem Zf7(n:Nat)(c:Cs):smL (n+1) c=smL n c++if smO (at_ c n)=true then [n] else []:=by
 unfold smL;rw[List.range_succ,List.filter_append];refine congrArg (List.filter (fun k=>smO (at_ c k)) (List.range n) ++ ·) ?_;cases h:smO (at_ c n) with
 | true=>exact List.filter_cons_of_pos h
 | false=>exact List.filter_cons_of_neg (by rw[h];decide)
theorem Zhi(n:Nat)(c:Cs):(smL n c).length<=n:=by
 have:=List.length_filter_le (fun k=>smO (at_ c k)) (List.range n);rw[List.length_range] at this;exact this
theorem Zhz{n k:Nat}{c:Cs}:k∈smL n c↔k<n/\∃m,at_ c k=some m/\m<=300:=by
 unfold smL;rw[List.mem_filter,List.mem_range];constructor
 ·rintro⟨h1,h2⟩;cases e:at_ c k with
  | none=>rw[e] at h2;cases h2
  | some m =>
   rw[e] at h2;exact⟨h1,m,rfl,of_decide_eq_true h2⟩
 ·rintro⟨h1,m,e,h2⟩;rw[e];exact⟨h1,decide_eq_true h2⟩
def Zgh(c:Cs)(k:Nat):Int:=(((at_ c k).getD 0:Nat):Int)
def Zc7(k:Nat):V:=.int (k:Int)
theorem Zii{c:Cs}{l:List Nat}{zs:List V}(h:Zk3 (l.map (Zgh c)) (l.map Zc7) zs):∃D:List Nat,zs=D.map Zc7/\D.Perm l/\D.Pairwise fun a b=>Zgh c a<=Zgh c b:=by
 obtain⟨ps,hp,rfl,hw⟩:=h;have hz:(l.map (Zgh c)).zip (l.map Zc7)=l.map fun k=>(Zgh c k,Zc7 k):=by
  rw[List.zip_map']
 rw[hz] at hp;have dec:∀p∈ps,p=(fun k:Nat=>(Zgh c k,Zc7 k)) ((fun p:Int×V=>match p.2 with | .int i=>i.toNat|_=>0) p):=fun p hpm=>by
  obtain⟨k,_,rfl⟩:=List.mem_map.mp (hp.mem_iff.mp hpm);rfl
 have e:ps=(ps.map fun p:Int×V=>match p.2 with | .int i=>i.toNat|_=>0).map fun k=>(Zgh c k,Zc7 k):=by
  rw[List.map_map];exact(List.map_id ps).symm.trans (List.map_congr_left dec)
 refine⟨ps.map fun p:Int×V=>match p.2 with | .int i=>i.toNat|_=>0,?_,?_,?_⟩
 ·refine(congrArg (List.map Prod.snd) e).trans ?_;rw[List.map_map];rfl
 ·have:=hp.map fun p:Int×V=>match p.2 with | .int i=>i.toNat|_=>0
  rw[List.map_map] at this;refine this.trans (List.Perm.of_eq ?_);exact(List.map_congr_left (g:=id) fun k _=>rfl).trans (List.map_id l)
 ·rw[e] at hw;exact(List.pairwise_map (R:=fun p q:Int×V=>p.1<=q.1)).mp hw
def Zk1(K:PySem.W.Frag)(Pt:Addr):Sp:=fun vs H Q _=>∃(a cl:Addr)(f:Fm)(c:Cs),vs=[.ref a,.ref cl]/\Form H a f/\f.n<=64/\f.rules.length<=900/\(∀q∈f.rules,ZdT q.t)/\f.Res c/\H cl=some (.lst (c.map cV))/\ZbG H Pt Zn /\
 ∀(r:Addr)(us:List V)(G:List (Option (Gr Str)))(H':Hp),KT H H'->ZbG H' Pt Zn->H r=none->H' r=some (.lst us)->GsV H' us G->LG f c G->Q (.ref r) H'
theorem ZjO(n:Nat):(List.replicate n [V.non]).flatten=List.replicate n V.non:=by
 induction n with
 | zero=>rfl
 | succ n ih=>rw[List.replicate_succ,List.flatten_cons,ih];rfl
set_option maxHeartbeats 2000000 in
theorem ZcT(B:∀x∈ZcI,mg x=none)(bm:Zja base mg)(hcd:fd.code=.ref cc)(hw:PySem.W.codeHdIn K cc Pt=true)(g_is_small:Has P w K mg base "is_small" ["count"] 1 Zd7) (g_least_by_rules:Has P w K mg base "least_by_rules" ["form","kind","counts","groves"] 5 (Zjz K)) (F:Fun K "least_groves" "least_groves" Zab f fd):FnOk P w K mg base CX0 6 f fd ["form","counts"] (Zk1 K Pt):=by
 refine F.okL hcd Zav (fun vs H Q E h=>?_) (fun A outer s H vs Q E hr h=>?_)
 ·obtain⟨a,cl,fm,c,rfl,_⟩:=h;rfl
 obtain⟨a,cl,fm,c,rfl,hF,hn,r9,hlet,res,hcl,T0,q⟩:=h;obtain⟨h1,h2,h3,qs,ea,e2,hR⟩:=hF.ex;have ok:=hF.ok;have hcn:c.length=fm.n:=(res.inv ok).len;refine⟨_,(Zc (Zo (i:=2) Zav.nd rfl (Or.inl rfl) (Zk Zi6 (Zax (Za ZZ Zd)) (Zw ZP (pv 0) Ze (fun _ _=>rfl))))
  (Zc (ZaE (cl:=_) (n0:=3) Zav.nd rfl (Or.inl rfl) ["kind"] [("counts",1)] (Zaa rfl (B "range" (by decide)) (Za (Zw ZP (pv 0) Ze (fun _ _=>rfl)) Zd)) (fun _ _ _ _=>(Zv (i:=0) (show List.Nodup (["kind","counts"]:List Str) by decide) rfl (Or.inl rfl))) (fun _ _ _ _=>(Zc5 (K:=K) rfl (ZF g_is_small hr rfl (Za (Zw (ZaX (K:=K) rfl) (pv 1) (pv 0) (fun _ _=>rfl)) Zd)) (fun _=>rfl))) (fun _ _ _ _=>(pv 0)) rfl rfl (by decide) rfl (by decide) (Zbg (by(repeat' first|exact List.forall_mem_nil _|refine List.forall_mem_cons.mpr ⟨?_,?_⟩) <;> rfl)) (ZaV (by(repeat' first|exact List.forall_mem_nil _|refine List.forall_mem_cons.mpr ⟨?_,?_⟩) <;> first|(intro h;exact⟨_,rfl⟩)|(intro h;exact absurd h (by decide)))) (fun _=>by(repeat' first|exact List.forall_mem_nil _|refine List.forall_mem_cons.mpr ⟨?_,?_⟩) <;> exact⟨rfl,rfl,Or.inl rfl⟩) (fun _=>rfl) rfl)
  (Zc (ZaY PassesOwn.never rfl (ZcM (ZdM (show LamX _ _ Zn _ _ _ _ _ "each" [("counts",1)] 1 _ from⟨bm,⟨_,rfl,hw⟩,(by first|exact .head _|exact .tail _ (.head _)|exact .tail _ (.tail _ (.head _))),fun q hq _ _=>(show ∀q∈Zn,q.2=_ from by(repeat' first|exact List.forall_mem_nil _|refine List.forall_mem_cons.mpr ⟨?_,?_⟩) <;> rfl) q hq,rfl,rfl,⟨rfl,rfl,rfl,by decide,rfl,Zbg (by(repeat' first|exact List.forall_mem_nil _|refine List.forall_mem_cons.mpr ⟨?_,?_⟩) <;> rfl),Zjq (by(repeat' first|exact List.forall_mem_nil _|refine List.forall_mem_cons.mpr ⟨?_,?_⟩) <;> first|(intro h;exact⟨_,rfl⟩)|(intro h;exact absurd h (by decide))),by(repeat' first|exact List.forall_mem_nil _|refine List.forall_mem_cons.mpr ⟨?_,?_⟩) <;> exact⟨rfl,rfl,rfl⟩⟩,fun _ _ _ _=>rfl,fun _ _ _ _ _ hr=>(Zw (ZaX (K:=K) rfl) (pv 1) (pv 0) (fun _ _=>rfl))⟩) rfl hr rfl (B "sorted" (by decide)) (Za (pv 3) Zd))) (Zv (i:=4) Zav.nd rfl (Or.inl rfl))
   (Zf (Zc2 (ZiP (Zr Zco (Zw ZD (pv 1) (pv 4) (fun _ _=>rfl)) Ze (Zt _)) (ZK Zd) (ZF g_least_by_rules hr rfl (Za (pv 0) (Za (pv 4) (Za (pv 1) (Za (pv 2) Zd)))))) (Zds (pv 2) (pv 4) set_list))))
  (Zf (ZR (pv 2)))))),?_⟩
 refine⟨by decide,fun l hl=>?_⟩;have sl:Zi H (upd H l (.lst [.non])):=Zi.new hl;refine⟨_,rfl,a,_,0,_,rfl,rfl,SqT.of (sl _ _ ea),rfl,l,(fm.n:Int),_,rfl,rfl,Zb,by lia,by lia,?_,fun gl hgl=>?_⟩
 ·show 1*(fm.n:Int).toNat<=sizeLine;exact ZcQ (by lia)
 obtain⟨_,hgl0⟩:=ZaG hgl;have s2:Zi H (upd (upd H l (.lst [.non])) gl (.lst (List.replicate (fm.n:Int).toNat [V.non]).flatten)):=sl.upd_new hgl0;have egl:(upd (upd H l (.lst [.non])) gl (.lst (List.replicate (fm.n:Int).toNat [V.non]).flatten)) gl=some (.lst (List.replicate fm.n V.non)):=by
  rw[Zb,Int.toNat_natCast,ZjO]
 generalize upd (upd H l (.lst [.non])) gl (.lst (List.replicate (fm.n:Int).toNat [V.non]).flatten)=H2 at s2 egl;refine⟨_,rfl,a,_,0,_,rfl,rfl,SqT.of (s2 _ _ ea),rfl,(fm.n:Int),rfl,?_⟩;refine⟨by lia,by lia,fun sp hsp=>Zfa (lo:=0) (n:=(fm.n:Int).toNat) (p:=sp) (fun i ys σ H4=>∃v0:Option V,σ =[v0,some (.ref cl)]/\Zi H2 H4/\H4 sp=some (.lst ys)/\ys=(smL i c).map Zc7)
  ⟨none,rfl,Zi.new hsp,Zb,rfl⟩ ?_ ?_ ?_⟩
 ·rintro i ys σ H4 _ ⟨v0,_,_,h,_⟩;exact h
 ·rintro i ys σ H4 hi ⟨v0,rfl,sm,hp,rfl⟩;rw[Int.toNat_natCast] at hi;have sl4:=Zhi i c;refine⟨_,rfl,_,rfl,cl,_,_,_,rfl,rfl,SqL.of (sm _ _ (s2 _ _ hcl)),by rw[Int.zero_add];exact Zcq (by lia),at_ c i,rfl,_,rfl,ZbI (fun d=>?_) (fun d=>?_)⟩
  ·refine⟨_,rfl,hp,Zz (by rw[List.length_map];lia),CW.next (by rw[Int.toNat_natCast];exact hi) ⟨_,rfl,sm.upd_new hsp,Zb,?_⟩⟩
   rw[Zf7,if_pos d,List.map_append,Int.zero_add];rfl
  ·refine CW.next (by rw[Int.toNat_natCast];exact hi) ⟨_,rfl,sm,hp,?_⟩
   rw[Zf7,if_neg d,List.append_nil]
 rintro ys σ H4 ⟨v0,rfl,sm,hsp4,rfl⟩;rw[Int.toNat_natCast] at hsp4;have s4:Zi H H4:=s2.trans sm;have sl4:=Zhi fm.n c;refine⟨_,rfl,T0.same s4,sp,_,(smL fm.n c).map (Zgh c),rfl,SqL.of hsp4,by rw[List.length_map];lia,by rw[List.length_map,List.length_map],fun lf H5 hlf sT T5=>⟨fun i x kx hx hkx=>?_,fun zp zs hzp ko=>?_⟩⟩
 ·rw[List.getElem?_map] at hx hkx;obtain⟨k,hk,rfl⟩:=Option.map_eq_some_iff.mp hx;rw[hk] at hkx;injection hkx with hkx;subst hkx;obtain⟨hkn,m,hm,_⟩:=Zhz.mp (List.mem_of_getElem? hk);refine⟨_,rfl,_,rfl,cl,_,_,_,rfl,rfl,SqL.of (KT.lst (KT.tab (T0.same s4) sT) (s4 _ _ hcl)),Zcq (by lia),rfl,?_⟩;unfold Zgh;rw[hm];rfl
 have kt5:KT H H5:=(KT.of s4).trans (KT.tab (T0.same s4) sT);have hgl5:H5 gl=some (.lst (List.replicate fm.n V.non)):=KT.lst (KT.tab (T0.same s4) sT) (sm _ _ egl);obtain⟨D,rfl,hD,hDs⟩:=Zii ko;have nzg:zp≠gl:=fun z=>by rw[z,hgl5] at hzp;cases hzp
 have s6:Zi H5 (upd H5 zp (.lst (D.map Zc7))):=Zi.new hzp;have ndD:D.Nodup:=hD.nodup_iff.mpr (List.Pairwise.filter _ List.nodup_range);have memD:∀k,k∈D↔k<fm.n/\∃m,at_ c k=some m/\m<=300:=fun k=>hD.mem_iff.trans Zhz;refine⟨zp,rfl,⟨_,SqL.of Zb⟩,ZfO (K:=K) (a:=zp) (xs:=D.map Zc7) (fun i σ H1=>∃(v4:Option V)(us:List V)(G:List (Option (Gr Str))),σ =[some (.ref a),some (.ref cl),some (.ref gl),some (.ref sp),v4]/\KT H H1/\ZbG H1 Pt Zn/\H1 zp=some (.lst (D.map Zc7))/\H1 gl=some (.lst us)/\GsV H1 us G/\LGp fm c G (D.take i))
  ⟨none,_,_,rfl,kt5.trans (KT.of s6),T5.same s6,Zb,s6 _ _ hgl5,GsV.new _ _,LGp.start fm c⟩ ?_ ?_ ?_⟩
 ·rintro i σ H1 _ ⟨v4,us,G,_,_,_,h,_⟩;exact SqL.of h
 ·rintro i x σ H1 hx ⟨v4,us,G,rfl,kt,T1,hz1,hgl1,hGs,hLG⟩;rw[List.getElem?_map] at hx;obtain⟨k,hk,rfl⟩:=Option.map_eq_some_iff.mp hx;obtain⟨hkn,n,hck,n3⟩:=(memD k).mp (List.mem_of_getElem? hk);have hiD:i<D.length:=(List.getElem?_eq_some_iff.mp hk).1;have ekD:D[i]=k:=(List.getElem?_eq_some_iff.mp hk).2;have tk1:D.take (i+1)=D.take i ++ [k]:=by
   rw[List.take_succ_eq_append_getElem hiD,ekD]
  have notin:k∉D.take i:=fun z=>by
   have nd:=List.Nodup.sublist (List.take_sublist (i+1) D) ndD;rw[tk1,List.nodup_append] at nd;exact nd.2.2 k z k (List.mem_singleton.mpr rfl) rfl
  have keyk:Zgh c k=(n:Int):=by unfold Zgh;rw[hck];rfl
  have ple:∀j m,j∈D.take i->at_ c j=some m->m<=n:=fun j m hj hm=>by
   have nd:=List.Pairwise.sublist (List.take_sublist (i+1) D) hDs;rw[tk1,List.pairwise_append] at nd;have:=nd.2.2 j hj k (List.mem_singleton.mpr rfl);rw[keyk] at this;unfold Zgh at this;rw[hm] at this;have:(m:Int)<=n:=this;lia
  have phas:∀j m,at_ c j=some m->m<n->j∈D.take i:=fun j m hm hlt=>by
   have hjn:j<fm.n:=by
    rcases Nat.lt_or_ge j c.length with z|z
    ·lia
    ·unfold at_ at hm;rw[List.getD_eq_getElem?_getD,List.getElem?_eq_none z] at hm;cases hm
   have hj:j∈D:=(memD j).mpr ⟨hjn,m,hm,by lia⟩;rw[<- List.take_append_drop i D] at hj;rcases List.mem_append.mp hj with hj|hj
   ·exact hj
   ·have hd:D.drop i=k::D.drop (i+1):=by rw[List.drop_eq_getElem_cons hiD,ekD]
    have nd:=List.Pairwise.sublist (List.drop_sublist i D) hDs;rw[hd] at hj nd;rcases List.mem_cons.mp hj with rfl|hj
    ·rw[hck] at hm;injection hm with hm;lia
    ·have:=(List.pairwise_cons.mp nd).1 j hj;rw[keyk] at this;unfold Zgh at this;rw[hm] at this;have:(n:Int)<=m:=this;lia
  have tup1:=kt.tk;have hG1:=hGs.1;have hGlen:=hLG.len;have fin:∀(g:Gr Str)(v:V)(H7:Hp),Zi H1 H7->gV H7 v (some g)->IsMin fm G k n g->∃(v4:Option V)(us':List V)(G':List (Option (Gr Str))),[some (V.ref a),some (.ref cl),some (.ref gl),some (.ref sp),some (Zc7 k)] =[some (.ref a),some (.ref cl),some (.ref gl),some (.ref sp),v4]/\KT H (upd H7 gl (.lst (us.set k v)))/\ZbG (upd H7 gl (.lst (us.set k v))) Pt Zn/\(upd H7 gl (.lst (us.set k v))) zp=some (.lst (D.map Zc7))/\(upd H7 gl (.lst (us.set k v))) gl=some (.lst us')/\GsV (upd H7 gl (.lst (us.set k v))) us' G'/\LGp fm c G' (D.take (i+1)):=by
   intro g v H7 s7 hv hmin;have tk7:TK H7 (upd H7 gl (.lst (us.set k v))):=ZaB (s7 _ _ hgl1);refine⟨_,us.set k v,G.set k (some g),rfl,(kt.trans (KT.of s7)).upd_new hgl0,?_,by rw[Zh nzg];exact s7 _ _ hz1,Zb,((hGs.mono s7.tk).mono tk7).set (by rw[hGlen];exact hkn) (hv.mono tk7),?_⟩
   ·refine(T1.same s7).keep (fun ps e=>?_) fun b o u e=>?_
    ·rw[Zh (fun z=>by rw[z,s7 _ _ hgl1] at e;cases e)];exact e
    ·rw[Zh (fun z=>by rw[z,s7 _ _ hgl1] at e;cases e)];exact e
   ·rw[tk1];exact hLG.next hkn notin hck n3 (fun j hj m hm=>ple j m hj hm) hmin
  refine⟨_,rfl,_,rfl,cl,_,_,_,rfl,rfl,SqL.of (KT.lst kt hcl),Zcq (by lia),?_⟩;rw[hck];refine⟨rfl,_,rfl,ZbI (fun d=>?_) (fun d=>?_)⟩
  ·have hn0:n=0:=by
    have:=of_decide_eq_true d;injection this with this;lia
   subst hn0;refine⟨by decide,fun r hr1=>?_⟩;have s7:Zi H1 (upd H1 r (.tup [])):=Zi.new hr1;refine⟨_,rfl,_,rfl,gl,_,_,_,rfl,rfl,s7 _ _ hgl1,ZcH (by lia),fin .nil _ _ s7 ⟨r,[],rfl,Zb,.nil⟩ ⟨rfl,okG.nil,?_,fun q _ _ x y _ _ h=>by lia⟩⟩;rcases res.got ok hck with z|⟨q,_,_,x,y,_,_,h⟩
   ·exact .inl z
   ·lia
  ·have hn0:0<n:=by
    rcases Nat.eq_zero_or_pos n with z|z
    ·exact(d (by rw[z];rfl)).elim
    ·exact z
   refine⟨_,rfl,_,rfl,_,rfl,_,rfl,a,cl,gl,fm,c,k,n,us,G,rfl,Form.kt hF kt.tk,r9,hlet,res,KT.lst kt hcl,hgl1,hGs,hGlen,hkn,hck,hn0,n3,fun j g e=>⟨(hLG.sz j g e).2.1,(hLG.sz j g e).2.2.2⟩,fun j m hm hlt=>hLG.has j (phas j m hm hlt),fun r xs g H7 s7 hr7 hG7 hmin=>?_⟩;exact⟨_,rfl,_,rfl,gl,_,_,_,rfl,rfl,s7 _ _ hgl1,ZcH (by lia),fin g _ _ s7 ⟨r,xs,rfl,hr7,hG7⟩ hmin⟩
 ·rintro σ H1 ⟨v4,us,G,rfl,kt,T1,hz1,hgl1,hGs,hLG⟩;rw[List.length_map,List.take_length] at hLG;refine⟨_,rfl,q gl us G H1 kt T1 hgl0 hgl1 hGs ⟨D,hLG,fun k n hk hn3=>(memD k).mpr ⟨?_,n,hk,hn3⟩⟩⟩;rcases Nat.lt_or_ge k c.length with z|z
  ·lia
  ·unfold at_ at hk;rw[List.getD_eq_getElem?_getD,List.getElem?_eq_none z] at hk;cases hk
def Zj6(K:PySem.W.Frag)(Pt:Addr):Sp:=fun vs H Q _=>∃(a:Addr)(f:Fm),vs=[.ref a]/\Form H a f/\f.n<=64/\f.rules.length<=900/\(∀q∈f.rules,ZdT q.t)/\ZbG H Pt Zn /\
 ∀(r:Addr)(c:Cs)(us:List V)(G:List (Option (Gr Str)))(H':Hp),KT H H'->ZbG H' Pt Zn->H r=none->H' r=some (.lst us)->GsV H' us G->f.Res c->LG f c G->Q (.ref r) H'
theorem Zil(B:∀x∈ZcI,mg x=none)(g_least_groves:Has P w K mg base "least_groves" ["form","counts"] 6 (Zk1 K Pt)) (g_fewest:Has P w K mg base "fewest" ["form"] 3 (Zcw K)) (F:Fun K "least" "least" Zb8 f fd):FnOk P w K mg base CX0 7 f fd ["form"] (Zj6 K Pt):=by
 refine F.ok ZiL (fun vs H Q E h=>?_) (fun cdv A outer s H vs Q E hr h=>?_)
 ·obtain⟨a,fm,rfl,_⟩:=h;rfl
 obtain⟨a,fm,rfl,hF,hn,r9,hlet,T0,q⟩:=h;refine⟨_,(Zf (ZR (ZF g_least_groves hr rfl (Za (pv 0) (Za (ZF g_fewest hr rfl (Za (pv 0) Zd)) Zd))))),?_⟩;refine⟨_,rfl,_,rfl,a,fm,rfl,hF,hn,fun cl c H1 s1 _ e1 res=>?_⟩;exact⟨a,cl,fm,c,rfl,hF.same s1,hn,r9,hlet,res,e1,T0.same s1,fun r us G H2 k2 T2 n2 e2 hG hL=>q r c us G H2 ((KT.of s1).trans k2) T2 (s1.free n2) e2 hG res hL⟩
def Sts(H:Hp)(a:Addr)(ss:List Nat):Prop := ∃(x y z:V)(h1:Addr),H a=some (.tup [x,.ref h1,y,z])/\H h1=some (.tup (ss.map Zc7))
theorem Sts.mono{H H':Hp}{a:Addr}{ss:List Nat}(h:Sts H a ss)(k:TK H H'):Sts H' a ss:=by
 obtain⟨x,y,z,h1,e1,e2⟩:=h;exact⟨x,y,z,h1,k _ _ e1,k _ _ e2⟩
def Zk4(K:PySem.W.Frag)(Pt:Addr)(C:Addr):Sp:=fun vs H Q E=>∃(a:Addr)(f:Fm)(ss:List Nat),vs=[.ref a]/\Form H a f/\f.n<=64/\f.rules.length<=900/\(∀q∈f.rules,ZdT q.t)/\ZbG H Pt Zn/\Sts H a ss/\(∀s∈ss,s<f.n)/\ss.length<=100 /\
 (∀(c:Cs)(G:List (Option (Gr Str)))(g:Gr Str)(r:Addr)(xs:List V)(H':Hp),f.Res c->LG f c G->KT H H'->ZbG H' Pt Zn->H' r=some (.tup xs)->RepG H' xs g->(∃s∈ss,gO G s=some g)->(∀s∈ss,∀g',gO G s=some g'->ZaK (words SL g') (words SL g)=false)->Q (.ref r) H') /\
 (∀(c:Cs)(H':Hp),f.Res c->(∀s∈ss,at_ c s=none)->KT H H'->ZbG H' Pt Zn->Q .non H') /\
 (∀(c:Cs)(H':Hp),f.Res c->(∃s∈ss,at_ c s≠none)->(∀s∈ss,smO (at_ c s)=false)->Zi H H'->E (.ref C) none H')
theorem take_snoc{α : Type}{l:List α}{i:Nat}{x : α}(h:l[i]?= some x):l.take (i+1)=l.take i ++ [x]:=by
 obtain⟨h1,h2⟩:=List.getElem?_eq_some_iff.mp h;rw[List.take_succ_eq_append_getElem h1,h2]
theorem Zay{α : Type}{p : α -> Bool}{l:List α}{x : α}:(l ++ [x]).filter p=l.filter p++if p x=true then [x] else []:=by
 rw[List.filter_append];refine congrArg (l.filter p ++ ·) ?_;cases h:p x with
 | true=>exact List.filter_cons_of_pos h
 | false=>exact List.filter_cons_of_neg (by rw[h];decide)
set_option maxHeartbeats 4000000 in
theorem ZeV(B:∀x∈ZcI,mg x=none)(xc:XC K mg X_GroveError X_TooMany X_TooBig X_NoneFits)(g_fewest:Has P w K mg base "fewest" ["form"] 3 (Zcw K)) (g_is_small:Has P w K mg base "is_small" ["count"] 1 Zd7) (g_least_groves:Has P w K mg base "least_groves" ["form","counts"] 6 (Zk1 K Pt)) (g_least_among:Has P w K mg base "least_among" ["groves"] 4 (Zd1 K)) (F:Fun K "least_of" "least_of" Z1 f fd):FnOk P w K mg base (CXE P w) 7 f fd ["form"] (Zk4 K Pt X_TooBig):=by
 refine F.okX ZaU (fun vs H Q E h=>?_) (fun cdv A outer s H vs Q E hr h=>?_)
 ·obtain⟨a,fm,ss,rfl,_⟩:=h;rfl
 obtain⟨a,fm,ss,rfl,hF,hn,r9,hlet,T0,⟨x1,y1,z1,hst0,ea,eh⟩,hss,hs64,q1,q2,q3⟩:=h;have ok:=hF.ok;refine ZaM ((Zj Z1).drop 5) (Zf (ZR (ZF g_least_among hr rfl (Za (Zfs (cl:=_) ["start"] [("groves",4)] (ZcM (pv 3)) (fun _ _ _ _=>(Zv (i:=0) (show List.Nodup (["start","groves"]:List Str) by decide) rfl (Or.inl rfl))) (fun _ _ _ _=>(Zw (ZaX (K:=K) rfl) (pv 1) (pv 0) (fun _ _=>rfl))) rfl rfl (by decide) rfl (by decide) (Zbg (by(repeat' first|exact List.forall_mem_nil _|refine List.forall_mem_cons.mpr ⟨?_,?_⟩) <;> rfl)) (ZaV (by(repeat' first|exact List.forall_mem_nil _|refine List.forall_mem_cons.mpr ⟨?_,?_⟩) <;> first|(intro h;exact⟨_,rfl⟩)|(intro h;exact absurd h (by decide)))) (fun _=>by(repeat' first|exact List.forall_mem_nil _|refine List.forall_mem_cons.mpr ⟨?_,?_⟩) <;> exact⟨rfl,rfl,Or.inl rfl⟩) (fun _=>rfl)) Zd)))) (fun u5 h5 e5=>?_)
 refine ZaM ((Zj Z1).drop 4) (Zc (Zo (i:=4) ZaU.nd rfl (Or.inr rfl) (ZF g_least_groves hr rfl (Za (pv 0) (Za (pv 1) Zd)))) h5) (fun u4 h4 e4=>?_);refine ZaM ((Zj Z1).drop 3) (Zc (Zas (PW.pt (ZcJ (Z8 (pv 2) (fun _=>rfl)) (ZbD (ZbM (Z8 (pv 3) (fun _=>rfl))))))
   (Zf (ZgU xc.top_TooBig xc.ini_TooBig xc.n_TooBig ZhO hr rfl (Za Zcl Zd)))
   ZG) h4) (fun u3 h3 e3=>?_)
 refine ZaM ((Zj Z1).drop 2) (Zc (ZaE (cl:=_) (n0:=3) ZaU.nd rfl (Or.inl rfl) ["start"] [("counts",1)] (ZcM (pv 2)) (fun _ _ _ _=>(Zv (i:=0) (show List.Nodup (["start","counts"]:List Str) by decide) rfl (Or.inl rfl))) (fun _ _ _ _=>(Zc5 (K:=K) rfl (ZF g_is_small hr rfl (Za (Zw (ZaX (K:=K) rfl) (pv 1) (pv 0) (fun _ _=>rfl)) Zd)) (fun _=>rfl))) (fun _ _ _ _=>(pv 0)) rfl rfl (by decide) rfl (by decide) (Zbg (by(repeat' first|exact List.forall_mem_nil _|refine List.forall_mem_cons.mpr ⟨?_,?_⟩) <;> rfl)) (ZaV (by(repeat' first|exact List.forall_mem_nil _|refine List.forall_mem_cons.mpr ⟨?_,?_⟩) <;> first|(intro h;exact⟨_,rfl⟩)|(intro h;exact absurd h (by decide)))) (fun _=>by(repeat' first|exact List.forall_mem_nil _|refine List.forall_mem_cons.mpr ⟨?_,?_⟩) <;> exact⟨rfl,rfl,Or.inl rfl⟩) (fun _=>rfl) rfl) h3) (fun u2 h2 e2=>?_)
 refine ZaM ((Zj Z1).drop 1) (Zc (ZaE (cl:=_) (n0:=2) ZaU.nd rfl (Or.inl rfl) ["start"] [("counts",1)] (ZbR (Zw ZP (pv 0) Ze (fun _ _=>rfl))) (fun _ _ _ _=>(Zv (i:=0) (show List.Nodup (["start","counts"]:List Str) by decide) rfl (Or.inl rfl))) (fun _ _ _ _=>(Zr Za9 (Zw (ZaX (K:=K) rfl) (pv 1) (pv 0) (fun _ _=>rfl)) ZZ (Zt _))) (fun _ _ _ _=>(pv 0)) rfl rfl (by decide) rfl (by decide) (Zbg (by(repeat' first|exact List.forall_mem_nil _|refine List.forall_mem_cons.mpr ⟨?_,?_⟩) <;> rfl)) (ZaV (by(repeat' first|exact List.forall_mem_nil _|refine List.forall_mem_cons.mpr ⟨?_,?_⟩) <;> first|(intro h;exact⟨_,rfl⟩)|(intro h;exact absurd h (by decide)))) (fun _=>by(repeat' first|exact List.forall_mem_nil _|refine List.forall_mem_cons.mpr ⟨?_,?_⟩) <;> exact⟨rfl,rfl,Or.inl rfl⟩) (fun _=>rfl) rfl) h2) (fun u1 h1 e1=>?_)
 refine ZaM ((Zj Z1).drop 0) (Zc (Zo (i:=1) ZaU.nd rfl (Or.inr rfl) (ZF g_fewest hr rfl (Za (pv 0) Zd))) h1) (fun u0 h0 e0=>?_);refine⟨u0,h0,?_⟩;refine Zaz e0 ?_;refine⟨_,rfl,a,fm,rfl,hF,hn,fun cl c H1 s1 _ ecl res=>?_⟩;have hcn:c.length=fm.n:=(res.inv ok).len;show u1 _ _ _;refine Zaz e1 ?_;refine⟨_,rfl,a,_,1,_,rfl,rfl,SqT.of (s1 _ _ ea),rfl,hst0,rfl,⟨_,SqT.of (s1 _ _ eh)⟩,fun stp hstp=>ZcF (K:=K) (a:=hst0) (p:=stp) (xs:=ss.map Zc7) (fun i ys σ H4=>∃v0:Option V,σ =[v0,some (.ref cl)]/\Zi H1 H4/\H4 stp=some (.lst ys)/\ys=((ss.take i).filter fun s=>(at_ c s).isSome).map Zc7)
  ⟨none,rfl,Zi.new hstp,Zb,rfl⟩ ?_ ?_ ?_⟩
 ·rintro i ys σ H4 _ ⟨v0,_,sm,h,_⟩;exact⟨SqT.of (sm _ _ (s1 _ _ eh)),h⟩
 ·rintro i ys x σ H4 hi hx ⟨v0,rfl,sm,hp,rfl⟩;rw[List.getElem?_map] at hx;obtain⟨k,hk,rfl⟩:=Option.map_eq_some_iff.mp hx;have hkn:=hss k (List.mem_of_getElem? hk);have hl:=List.length_filter_le (fun s=>(at_ c s).isSome) (ss.take i);rw[List.length_take] at hl;refine⟨_,rfl,_,rfl,cl,_,_,_,rfl,rfl,SqL.of (sm _ _ ecl),Zcq (by lia),rfl,_,rfl,ZbI (fun d=>?_) (fun d=>?_)⟩
  ·refine⟨_,rfl,hp,Zz (by rw[List.length_map];lia),CW.next hi ⟨_,rfl,sm.upd_new hstp,Zb,?_⟩⟩
   rw[Zf6] at d;rw[take_snoc hk,Zay,if_pos (by cases z:at_ c k with|none=>rw[z] at d;cases d|some _=>rfl),List.map_append];rfl
  ·refine CW.next hi ⟨_,rfl,sm,hp,?_⟩
   rw[Zf6] at d;rw[take_snoc hk,Zay,if_neg (by cases z:at_ c k with|none=>decide|some _=>rw[z] at d;exact fun _=>d rfl),List.append_nil]
 rintro ys σ H2 ⟨v0,rfl,s2,hst,rfl⟩;rw[List.length_map,List.take_length] at hst;have hl1:=List.length_filter_le (fun s=>(at_ c s).isSome) ss;show u2 _ _ _;refine Zaz e2 ?_;refine⟨_,rfl,stp,rfl,⟨_,SqL.of hst⟩,fun smp hsmp=>Zgb (K:=K) (a:=stp) (p:=smp) (xs:=(ss.filter fun s=>(at_ c s).isSome).map Zc7) (fun i ys σ H4=>∃v0:Option V,σ =[v0,some (.ref cl)]/\Zi H2 H4/\H4 smp=some (.lst ys)/\ys=(((ss.filter fun s=>(at_ c s).isSome).take i).filter fun s=>smO (at_ c s)).map Zc7)
  ⟨none,rfl,Zi.new hsmp,Zb,rfl⟩ ?_ ?_ ?_⟩
 ·rintro i ys σ H4 _ ⟨v0,_,sm,h,_⟩;exact⟨SqL.of (sm _ _ hst),h⟩
 ·rintro i ys x σ H4 hi hx ⟨v0,rfl,sm,hp,rfl⟩;rw[List.getElem?_map] at hx;obtain⟨k,hk,rfl⟩:=Option.map_eq_some_iff.mp hx;have hkn:=hss k (List.mem_filter.mp (List.mem_of_getElem? hk)).1;have hl:=List.length_filter_le (fun s=>smO (at_ c s)) ((ss.filter fun s=>(at_ c s).isSome).take i);rw[List.length_take] at hl;refine⟨_,rfl,_,rfl,cl,_,_,_,rfl,rfl,SqL.of (sm _ _ (s2 _ _ ecl)),Zcq (by lia),at_ c k,rfl,_,rfl,ZbI (fun d=>?_) (fun d=>?_)⟩
  ·refine⟨_,rfl,hp,Zz (by rw[List.length_map];lia),CW.next hi ⟨_,rfl,sm.upd_new hsmp,Zb,?_⟩⟩
   rw[take_snoc hk,Zay,if_pos d,List.map_append];rfl
  ·refine CW.next hi ⟨_,rfl,sm,hp,?_⟩
   rw[take_snoc hk,Zay,if_neg d,List.append_nil]
 rintro ys σ H3 ⟨v0,rfl,s3,hsm,rfl⟩;rw[List.length_map,List.take_length] at hsm;have hst3:=s3 _ _ hst;have s13:Zi H H3:=s1.trans (s2.trans s3);have hl2:=List.length_filter_le (fun s=>smO (at_ c s)) (ss.filter fun s=>(at_ c s).isSome);have mem2:∀s,s∈(ss.filter fun s=>(at_ c s).isSome).filter (fun s=>smO (at_ c s))↔s∈ss/\smO (at_ c s)=true:=fun s=>by
  rw[List.mem_filter,List.mem_filter];constructor
  ·rintro⟨⟨h1,_⟩,h2⟩;exact⟨h1,h2⟩
  ·rintro⟨h1,h2⟩;refine⟨⟨h1,?_⟩,h2⟩;cases z:at_ c s with
   | none=>rw[z] at h2;cases h2
   | some _=>rfl
 have tail:((ss.filter fun s=>(at_ c s).isSome)=[]\/(ss.filter fun s=>(at_ c s).isSome).filter (fun s=>smO (at_ c s)) ≠ [])->u4 { nx:=fun _ H'=>Q .non H',rt:=Q } [some (.ref a),some (.ref cl),some (.ref stp),some (.ref smp),none] H3:=fun hor=>by
  refine Zaz e4 ?_;refine⟨_,rfl,_,rfl,a,cl,fm,c,rfl,hF.same s13,hn,r9,hlet,res,s3 _ _ (s2 _ _ ecl),T0.same s13,fun gl us G H4 k4 T4 n4 egl hG hL=>?_⟩;obtain⟨D,hLp,hLa⟩:=id hL;have hsm4:=KT.lst k4 hsm;show u5 _ _ _;refine Zaz e5 ?_;refine⟨_,rfl,?_⟩;generalize hS2:(ss.filter fun s=>(at_ c s).isSome).filter (fun s=>smO (at_ c s))=S2 at hsm hl2 mem2 hor hsm4;have got:∀s∈S2,∃g,gO G s=some g:=fun s hs=>by
   obtain⟨_,h2⟩:=(mem2 s).mp hs;cases z:at_ c s with
   | none=>rw[z] at h2;cases h2
   | some m =>
    rw[z] at h2;exact hLp.has s (hLa s m z (of_decide_eq_true h2))
  refine⟨smp,rfl,⟨_,SqL.of hsm4⟩,fun pl hpl=>Zep (K:=K) (a:=smp) (p:=pl) (xs:=S2.map Zc7) (fun i ys σ H5=>∃(v0:Option V)(as:List Addr)(gs:List (Gr Str)),σ =[v0,some (.ref gl)]/\Zi H4 H5/\H5 pl=some (.lst ys)/\ys=as.map V.ref/\as.length=i/\Paired (fun b g=>∃xs,H4 b=some (.tup xs)/\RepG H4 xs g/\gsz g<=300/\okG g) as gs/\(S2.take i).map (gO G)=gs.map some)
   ⟨none,[],[],rfl,Zi.new hpl,Zb,rfl,rfl,.nil,rfl⟩ ?_ ?_ ?_⟩
  ·rintro i ys σ H5 _ ⟨v0,as,gs,_,sm,h,_⟩;exact⟨SqL.of (sm _ _ hsm4),h⟩
  ·rintro i ys x σ H5 hi hx ⟨v0,as,gs,rfl,sm,hp,rfl,hal,hP,hgs⟩;rw[List.getElem?_map] at hx;obtain⟨k,hk,rfl⟩:=Option.map_eq_some_iff.mp hx;obtain⟨g,eg⟩:=got k (List.mem_of_getElem? hk);obtain⟨v,_,hv,hgv⟩:=hG.at (k:=k) (Zlp eg);rw[eg] at hgv;obtain⟨b,xs,rfl,hb,hr1⟩:=hgv;obtain⟨_,_,g3,okg⟩:=hLp.sz k g eg;rw[List.length_map] at hi;refine⟨_,rfl,_,rfl,gl,_,_,_,rfl,rfl,SqL.of (sm _ _ egl),hv,hp,Zz (by rw[List.length_map];lia),CW.next (by rw[List.length_map];exact hi) ⟨_,as ++ [b],gs ++ [g],rfl,sm.upd_new hpl,Zb,by rw[List.map_append];rfl,by rw[List.length_append,hal];rfl,Paired.app hP (.cons ⟨xs,hb,hr1,g3,okg⟩ .nil),?_⟩⟩
   rw[take_snoc hk,List.map_append,List.map_append,hgs];show _ ++ [gO G k]=_;rw[eg];rfl
  rintro ys σ H5 ⟨v0,as,gs,rfl,sm,hpl5,rfl,hal,hP,hgs⟩;rw[List.length_map,List.take_length] at hgs;rw[List.length_map] at hal;have k5:KT H H5:=(KT.of s13).trans (k4.trans (KT.of sm));refine⟨pl,as,gs.map (words SL),rfl,hpl5,by lia,ZbA (fun b g ⟨xs,h1,h2,h3,h4⟩=>⟨xs,g,SqT.of (sm _ _ h1),h2.mono sm.tk,rfl,by rw[Zap];lia,h4.2⟩) hP,fun e H6 s6=>?_,fun w0 ws0 ew i b H6 hb hw s6=>?_⟩
  ·refine q2 c H6 res (fun s hs=>?_) (k5.trans (KT.of s6)) ((T4.same sm).same s6);have hz:S2=[]:=List.eq_nil_of_length_eq_zero (by rw[<- hal,e];rfl);rcases hor with h|h
   ·cases z:at_ c s with
    | none=>rfl
    | some m =>
     have:s∈ss.filter fun s=>(at_ c s).isSome:=List.mem_filter.mpr ⟨hs,by rw[z];rfl⟩;rw[h] at this;cases this
   ·exact absurd hz h
  ·rw[List.getElem?_map] at hw;obtain⟨g,hg,hgw⟩:=Option.map_eq_some_iff.mp hw;obtain⟨xs,h1,h2,h3,h4⟩:=ZaA hP hb hg;refine q1 c G g b xs H6 res hL (k5.trans (KT.of s6)) ((T4.same sm).same s6) (s6 _ _ (sm _ _ h1)) ((h2.mono sm.tk).mono s6.tk) ?_ fun s hs g' eg'=>?_
   ·have hm:some g∈S2.map (gO G):=by rw[hgs];exact List.mem_map_of_mem (List.mem_of_getElem? hg)
    obtain⟨s,hs,es⟩:=List.mem_map.mp hm;exact⟨s,((mem2 s).mp hs).1,es⟩
   ·obtain⟨_,c1,c2,_⟩:=hLp.sz s g' eg';have hm:some g'∈S2.map (gO G):=by
     rw[<- eg'];exact List.mem_map_of_mem ((mem2 s).mpr ⟨hs,by rw[c1];exact decide_eq_true c2⟩)
    rw[hgs] at hm;obtain⟨g2,hg2,e2⟩:=List.mem_map.mp hm;injection e2 with e2;subst e2;have hm:=List.mem_map_of_mem (f:=words SL) hg2;rw[ew] at hm;rw[hgw];exact(ZcN ws0 w0).2 _ hm
 show u3 _ _ _;refine Zaz e3 ?_;refine⟨_,rfl,_,.inl ⟨_,SqL.of hst3,rfl⟩,ZbI (fun d1=>?_) (fun d1=>?_)⟩
 ·refine⟨_,rfl,_,.inl ⟨_,SqL.of hsm,rfl⟩,ZbI (fun d2=>?_) (fun d2=>?_)⟩
  ·refine⟨by decide,fun y hy=>q3 c _ res ?_ (fun s hs=>?_) (s13.trans (Zi.new hy))⟩
   ·cases z:ss.filter (fun s=>(at_ c s).isSome) with
    | nil=>rw[z] at d1;cases d1
    | cons s l =>
     have:s∈ss.filter fun s=>(at_ c s).isSome:=by rw[z];exact List.mem_cons_self ..
     obtain⟨h1,h2⟩:=List.mem_filter.mp this;exact⟨s,h1,fun e=>by rw[e] at h2;cases h2⟩
   ·cases z:smO (at_ c s) with
    | false=>rfl
    | true =>
     have:=(mem2 s).mpr ⟨hs,z⟩;cases z2:(ss.filter fun s=>(at_ c s).isSome).filter (fun s=>smO (at_ c s)) with
     | nil=>rw[z2] at this;cases this
     | cons _ _=>rw[z2] at d2;cases d2
  ·exact tail (.inr fun e=>d2 (by rw[e];rfl))
 ·refine Za8 (tail (.inl ?_));cases z:ss.filter (fun s=>(at_ c s).isSome) with
  | nil=>rfl
  | cons _ _=>rw[z] at d1;exact(d1 rfl).elim
theorem Zg8(B:∀x∈ZcI,mg x=none)(F:Fun K "_law_cell" "_law_cell" Zbr f fd):FnOk P w K mg base CX0 1 f fd ["_law_script","_law_k"] (ZcA K):=by
 refine F.ok Zhh (fun vs H Q E h=>?_) (fun cdv A outer s H vs Q E hr h=>?_)
 ·obtain⟨a,ns,k,rfl,_⟩:=h;rfl
 obtain⟨a,ns,k,rfl,hS,h63,h0,hk,q⟩:=h;refine⟨_,(Zc (Zas (Zr ZjY (pv 1) (ZC Zu rfl (B "len" (by decide)) PySem.boot_len (Za (pv 0) Zd)) (Zt _))
   (Zf (ZR (Zk ZX (Zk Z2 (Zk ZcK (Zw ZD (pv 0) (pv 1) (fun _ _=>rfl)) Ze) (Zk ZcK (Zk ZcK (pv 1) (pv 1)) Ze)) Ze)))
   ZG)
  (Zf (ZR (Zk ZX (Zk Z2 (Zk Z2 (Zk ZcK (Zk ZcK (pv 1) (pv 1)) Ze) (Zk ZcK (ZC Zu rfl (B "len" (by decide)) PySem.boot_len (Za (pv 0) Zd)) Ze)) Ze) Ze)))),?_⟩
 have hq:∀v:Int,Q (.int (v % 2147483647)) H:=fun v=>q _ (Int.emod_nonneg _ (by decide)) (Int.emod_lt_of_pos _ (by decide));refine⟨_,rfl,_,rfl,a,_,rfl,.inl hS,_,_,rfl,rfl,_,rfl,?_⟩;refine ZbI (fun c=>?_) (fun c=>?_)
 ·have c':=of_decide_eq_true c;rw[List.length_map] at c';obtain⟨v,hv⟩:=Zj3 (ns:=ns) h0 c';exact⟨_,rfl,_,rfl,a,_,k,_,rfl,rfl,hS,hv,_,_,rfl,rfl,.inr ⟨by decide,by decide⟩,_,rfl,_,rfl,_,_,rfl,rfl,.inl ⟨by lia,by lia⟩,_,_,rfl,rfl,.inr ⟨by decide,by decide⟩,_,_,rfl,rfl,_,_,rfl,rfl,(by show(0:Int)<2147483647;decide),hq _⟩
 ·exact⟨_,rfl,_,rfl,_,_,rfl,rfl,.inl ⟨by lia,by lia⟩,_,_,rfl,rfl,.inr ⟨by decide,by decide⟩,_,rfl,a,_,rfl,.inl hS,_,_,rfl,rfl,.inr ⟨by decide,by decide⟩,_,_,rfl,rfl,_,_,rfl,rfl,_,_,rfl,rfl,(by show(0:Int)<2147483647;decide),hq _⟩
theorem Zij(B:∀x∈ZcI,mg x=none)(F:Fun K "_law_tag" "_law_tag" Zb3 f fd):FnOk P w K mg base CX0 1 f fd ["_law_seed","_law_v"] ZfU:=by
 refine F.ok Zar (fun vs H Q E h=>?_) (fun cdv A outer s H vs Q E hr h=>?_)
 ·obtain⟨sd,v,rfl,_⟩:=h;rfl
 obtain⟨sd,v,rfl,q⟩:=h;refine cut 5 (fun σ' H'=>∃many at' more:Int,σ'=[some (.int sd),some (.int v),some (.str ABC),some (.int many),some (.int at'),some (.int more),none,none,none]/\H'=H/\1<=many/\many<=8)
  ⟨_,(Zc (Zo (i:=6) Zar.nd rfl (Or.inl rfl) Zcl)
  (Zc (ZaY PassesOwn.never rfl (Zaa rfl (B "range" (by decide)) (Za (pv 3) Zd)) (Zv (i:=7) Zar.nd rfl (Or.inl rfl))
   (Zc (Zo (i:=8) Zar.nd rfl (Or.inl rfl) (Zk Z2 (Zk ZS (pv 0) (Zk Z2 (pv 7) Ze)) (Zk ZcK (Za1 Zh4 rfl (B "int" (by decide)) Zkt (Za (ZaI Zco (pv 7) (pv 4) (Zt _)) Zd)) (pv 5))))
    (Zf (Zo (i:=6) Zar.nd rfl (Or.inl rfl) (Zk Zgm (pv 6) (Zw Zko (pv 2) (Zk ZX (pv 8) Ze) (fun _ _=>rfl)))))))
  (Zf (ZR (pv 6))))),?_⟩
  (fun u hu4 hR=>⟨_,(Zc (Zo (i:=2) Zar.nd rfl (Or.inl rfl) Zcl)
  (Zc (Zo (i:=3) Zar.nd rfl (Or.inl rfl) (Zk Z2 Ze (Zk ZX (pv 0) Ze)))
  (Zc (Zo (i:=4) Zar.nd rfl (Or.inl rfl) (Zk ZX (Zk ZS (pv 0) Ze) (pv 3)))
  (Zc (Zo (i:=5) Zar.nd rfl (Or.inl rfl) (pv 1))
  (Zc (Zas (Zr Zco (Zk ZX (Zk ZS (pv 0) Ze) Ze) Ze (Zt _))
   (Zc (Zo (i:=3) Zar.nd rfl (Or.inl rfl) (Zk Z2 Ze (Zk ZX (Zk Z2 (Zk ZS (pv 0) Ze) (pv 1)) Ze)))
    (Zc (Zo (i:=4) Zar.nd rfl (Or.inl rfl) (Zk Zdw (pv 3) Ze))
    (Zf (Zo (i:=5) Zar.nd rfl (Or.inl rfl) (Zk ZS (pv 1) Ze)))))
   ZG)
  hu4))))),?_⟩)
 rotate_left
 ·have m1:=Int.emod_nonneg sd (by decide:(8:Int)≠0);have m2:=Int.emod_lt_of_pos sd (by decide:(0:Int)<8);refine⟨_,rfl,_,_,rfl,rfl,(by show(0:Int)<8;decide),_,_,rfl,rfl,?_⟩;refine⟨_,rfl,_,_,rfl,rfl,⟨by decide,by decide⟩,_,rfl,_,_,rfl,rfl,(by show(0:Int)<1+sd % 8;lia),?_⟩;refine⟨_,rfl,?_⟩;refine⟨_,rfl,_,_,rfl,rfl,⟨by decide,by decide⟩,_,_,rfl,rfl,(by show(0:Int)<2;decide),rfl,_,rfl,?_⟩;refine ZbI (fun _=>?_) (fun _=>?_)
  ·have m3:=Int.emod_nonneg (sd / 8+v) (by decide:(8:Int)≠0);have m4:=Int.emod_lt_of_pos (sd / 8+v) (by decide:(0:Int)<8);refine⟨_,rfl,_,_,rfl,rfl,⟨by decide,by decide⟩,_,rfl,_,_,rfl,rfl,_,_,rfl,rfl,(by show(0:Int)<8;decide),_,_,rfl,rfl,?_⟩;refine⟨_,rfl,_,_,rfl,rfl,?_⟩;refine⟨_,rfl,_,_,rfl,rfl,⟨by decide,by decide⟩,?_⟩;exact hR _ _ ⟨_,_,_,rfl,rfl,by lia,by lia⟩
  ·exact hR _ _ ⟨_,_,_,rfl,rfl,by lia,by lia⟩
 ·rintro σ' H' ⟨many,at',more,rfl,rfl,h1,h8⟩;refine⟨_,rfl,_,rfl,by lia,by lia,ZaT (lo:=0) (n:=many.toNat) (fun i σ H1=>∃(t:Str)(v7 v8:Option V),σ =[some (.int sd),some (.int v),some (.str ABC),some (.int many),some (.int at'),some (.int more),some (.str t),v7,v8]/\H1=H'/\t.length=i/\ZiZ t) ⟨Str.empty,none,none,rfl,rfl,rfl,fun _ h=>(nomatch h)⟩ ?_ ?_⟩
  ·rintro i σ H1 hi ⟨t,v7,v8,rfl,rfl,hl,hlt⟩;refine⟨_,rfl,_,rfl,_,_,rfl,rfl,_,_,rfl,rfl,⟨by lia,by lia⟩,_,rfl,_,rfl,rfl,_,rfl,_,rfl,_,_,rfl,rfl,.inl ⟨by split <;> decide,by split <;> decide⟩,_,_,rfl,rfl,?_⟩
   obtain⟨c,hc,c1,c2⟩:=ZkN (i:=(sd / (0+(i:Int)+9)+(if decide (V.int (0+(i:Int))=V.int at')=true then 1 else 0)*more) % 26) (Int.emod_nonneg _ (by decide)) (Int.emod_lt_of_pos _ (by decide))
   refine⟨_,rfl,_,rfl,_,rfl,_,_,rfl,rfl,(by show(0:Int)<26;decide),_,_,c,rfl,rfl,(by decide),hc,_,_,rfl,rfl,?_,?_⟩
   ·show t.length+1<=sizeLine;exact ZcQ (by lia)
   ·refine⟨t++⟨#[c]⟩,_,_,rfl,rfl,?_,Zib hlt (Zix c1 c2).let0⟩;rw[Zjs,hl];rfl
  ·rintro σ H1 ⟨t,v7,v8,rfl,rfl,hl,hlt⟩;refine⟨_,rfl,q t ⟨fun z=>?_,hlt⟩ (by lia)⟩;have e:t.cps.toList.length=t.length:=Array.length_toList;rw[z] at e;have e0:(0:Nat)=t.length:=e;lia
def QIn(H:Hp)(n:Nat)(zs:List V):Prop := ∀z∈zs,∃(p:Addr)(q:Rl),z=V.ref p/\H p=some (.tup [.int q.k,.str q.t,.int q.i,.int q.r])/\q.k<n/\q.i<n/\q.r<n/\ZdT q.t
theorem QIn.keep{H H':Hp}{n:Nat}{zs:List V}(h:QIn H n zs)(k:∀b xs,H b=some (.tup xs)->H' b=some (.tup xs)):QIn H' n zs:=fun z hz=>by
 obtain⟨p,q,rfl,e,r⟩:=h z hz;exact⟨p,q,rfl,k _ _ e,r⟩
theorem QIn.snoc{H:Hp}{n:Nat}{zs:List V}(h:QIn H n zs){p:Addr}(q:Rl)(e:H p=some (.tup [.int q.k,.str q.t,.int q.i,.int q.r]))(h1:q.k<n)(h2:q.i<n)(h3:q.r<n)(h4:ZdT q.t):QIn H n (zs ++ [.ref p]):=fun z hz=>by
 rcases List.mem_append.mp hz with hz|hz
 ·exact h z hz
 ·exact⟨p,q,List.mem_singleton.mp hz,e,h1,h2,h3,h4⟩
theorem QIn.rls{H:Hp}{n:Nat}:∀{zs:List V},QIn H n zs->∃(qs:List Addr)(rs:List Rl),zs=qs.map V.ref/\qs.length=rs.length/\(∀(i:Nat) p q,qs[i]?= some p->rs[i]?= some q->H p=some (.tup [.int q.k,.str q.t,.int q.i,.int q.r]))/\∀q∈rs,q.k<n/\q.i<n/\q.r<n/\ZdT q.t
 | [],_=>⟨[],[],rfl,rfl,fun i p q h=>(nomatch h),fun _ h=>(nomatch h)⟩
 | z::zs,h=>by
  obtain⟨p,q,rfl,e,r⟩:=h z (List.mem_cons_self ..);obtain⟨qs,rs,rfl,hl,h1,h2⟩:=QIn.rls (zs:=zs) fun x hx=>h x (List.mem_cons_of_mem _ hx);refine⟨p::qs,q::rs,rfl,by simp[hl],fun i p' q' e1 e2=>?_,fun q' hq=>?_⟩
  ·cases i with
   | zero =>
    injection e1 with e1;injection e2 with e2;subst e1 e2;exact e
   | succ i=>exact h1 i p' q' e1 e2
  ·rcases List.mem_cons.mp hq with rfl|hq
   ·exact r
   ·exact h2 q' hq
theorem Ze9{α : Type}{f : α -> V}{ts:List α}:∀zs:List V,(∀z∈zs,z∈ts.map f)->∃ms:List α,zs=ms.map f/\∀m∈ms,m∈ts
 | [],_=>⟨[],rfl,fun _ h=>nomatch h⟩
 | z::zs,h=>by
  obtain⟨m,hm,rfl⟩:=List.mem_map.mp (h z (List.mem_cons_self ..));obtain⟨ms,rfl,hms⟩:=Ze9 zs fun x hx=>h x (List.mem_cons_of_mem _ hx);refine⟨m::ms,rfl,fun x hx=>?_⟩;rcases List.mem_cons.mp hx with rfl|hx
  ·exact hm
  ·exact hms x hx
def Mid(H:Hp)(n:Nat)(pt pr:Addr)(b1 b2:Nat)(H1:Hp):Prop:=Zi H H1/\H pt=none/\H pr=none/\pt≠pr/\∃(ts:List Nat)(zs:List V),H1 pt=some (.lst (ts.map iV))/\H1 pr=some (.lst zs)/\ts.length<=b1/\zs.length<=b2/\(∀t∈ts,t<n)/\QIn H1 n zs
theorem Mid.push{H H1 H2:Hp}{n b1 b2:Nat}{pt pr p:Addr}{ts:List Nat}{zs:List V}(s1:Zi H H1)(hpt:H pt=none)(hpr:H pr=none)(ne:pt≠pr)(e1:H1 pt=some (.lst (ts.map iV)))(e2:H1 pr=some (.lst zs))(l1:ts.length<=b1)(l2:zs.length<=b2)(ht:∀t∈ts,t<n)(hq:QIn H1 n zs)
  (s2:Zi H1 H2) (q:Rl) (e:H2 p=some (.tup [.int q.k,.str q.t,.int q.i,.int q.r])) (h1:q.k<n) (h2:q.i<n) (h3:q.r<n) (h4:ZdT q.t):Mid H n pt pr b1 (b2+1) (upd H2 pr (.lst (zs ++ [.ref p]))):=by
 have e2':=s2 _ _ e2;refine⟨(s1.trans s2).upd_new hpr,hpt,hpr,ne,ts,_,?_,Zb,l1,?_,ht,((hq.keep fun b xs z=>s2 _ _ z).snoc q e h1 h2 h3 h4).keep (ZaB e2')⟩
 ·rw[Zh ne];exact s2 _ _ e1
 ·rw[List.length_append,List.length_singleton];lia
structure Drw(f:Fm)(ss:List Nat):Prop where
 n1:1<=f.n
 n64:f.n<=64
 r:f.rules.length<=900
 s:∀s∈ss,s<f.n
 sl:ss.length<=10
 t:∀q∈f.rules,ZdT q.t
def ZcL(K:PySem.W.Frag):Sp:=fun vs H Q _=>∃(a:Addr)(ns:List Int),vs=[.ref a]/\SqL K H a (ns.map V.int)/\ns.length<=63/\∀(r:Addr)(f:Fm)(ss:List Nat)(H':Hp),Zi H H'->Form H' r f->Sts H' r ss->Drw f ss->f.rules.length<=400/\f.ends.length<=1000->Q (.ref r) H'
set_option maxHeartbeats 2000000 in
theorem Zgo(B:∀x∈ZcI,mg x=none)(g_l_cell:Has P w K mg base "_law_cell" ["_law_script","_law_k"] 1 (ZcA K)) (g_l_tag:Has P w K mg base "_law_tag" ["_law_seed","_law_v"] 1 ZfU) (F:Fun K "_law_shape" "_law_shape" Za6 f fd):FnOk P w K mg base CX0 2 f fd ["_law_script"] (ZcL K):=by
 refine F.ok Zx (fun vs H Q E h=>?_) (fun cdv A outer s H vs Q E hr h=>?_)
 ·obtain⟨a,ns,rfl,_⟩:=h;rfl
 obtain⟨a,ns,rfl,hS,h63,q⟩:=h;have hu:=Zb4 hr;refine cut 5 (fun σ' H'=>∃(n:Nat)(ch sd tu:Int),σ'=[some (.ref a),some (.int ch),some (iV n),some (.int sd),some (.int tu),none,none,none,none,none,none,none,none,none,none]/\H'=H/\1<=n/\n<=64/\0<=tu)
  ?_ (fun u hu4 hR=>⟨_,(Zc (Zo (i:=1) Zx.nd rfl (Or.inl rfl) (ZF g_l_cell hr rfl (Za (pv 0) (Za Ze Zd))))
  (Zc (Zo (i:=2) Zx.nd rfl (Or.inr rfl) (Zk Z2 Ze (Zk ZX (Zk ZS (pv 1) Ze) Ze)))
  (Zc (Zas (Zr Zco (Zk ZX (pv 1) Ze) Ze (Zt _))
   (Zf (Zo (i:=2) Zx.nd rfl (Or.inr rfl) (Zk Z2 Ze (Zk ZX (Zk ZS (pv 1) Ze) Ze))))
   ZG)
  (Zc (Zo (i:=3) Zx.nd rfl (Or.inl rfl) (ZF g_l_cell hr rfl (Za (pv 0) (Za Ze Zd))))
  (Zc (Zo (i:=4) Zx.nd rfl (Or.inr rfl) (ZF g_l_cell hr rfl (Za (pv 0) (Za Ze Zd))))
  hu4))))),?_⟩)
 rotate_left
 ·refine⟨_,rfl,a,ns,0,rfl,hS,h63,by decide,by decide,fun ch c0 c1=>?_⟩;refine⟨_,rfl,_,_,rfl,rfl,⟨by decide,by decide⟩,_,_,rfl,rfl,(by show(0:Int)<9;decide),_,_,rfl,rfl,?_⟩;refine⟨_,rfl,_,_,rfl,rfl,(by show(0:Int)<4;decide),rfl,_,rfl,?_⟩;refine ZbI (fun _=>?_) (fun _=>?_)
  ·refine⟨_,rfl,_,_,rfl,rfl,⟨by decide,by decide⟩,_,_,rfl,rfl,(by show(0:Int)<64;decide),_,_,rfl,rfl,?_⟩;refine⟨_,rfl,a,ns,1,rfl,hS,h63,by decide,by decide,fun sd _ _=>?_⟩;refine⟨_,rfl,a,ns,2,rfl,hS,h63,by decide,by decide,fun tu t0 _=>?_⟩;obtain⟨n,e,hn⟩:=ZeN (ch / 4) (n:=64) (by decide);refine hR _ _ ⟨1+n,ch,sd,tu,?_,rfl,by omega,by omega,t0⟩;show [some (V.ref a),some (.int ch),some (V.int (1+ch / 4 % ((64:Nat):Int))),_,_,_,_,_,_,_,_,_,_,_,_]=_;rw[e];rfl
  ·refine⟨_,rfl,a,ns,1,rfl,hS,h63,by decide,by decide,fun sd _ _=>?_⟩;refine⟨_,rfl,a,ns,2,rfl,hS,h63,by decide,by decide,fun tu t0 _=>?_⟩;obtain⟨n,e,hn⟩:=ZeN (ch / 4) (n:=9) (by decide);refine hR _ _ ⟨1+n,ch,sd,tu,?_,rfl,by omega,by omega,t0⟩;show [some (V.ref a),some (.int ch),some (V.int (1+ch / 4 % ((9:Nat):Int))),_,_,_,_,_,_,_,_,_,_,_,_]=_;rw[e];rfl
 refine ZlP _ 3 (fun σ' H'=>∃(n:Nat)(ch sd tu:Int)(pt pr:Addr)(v7 v8 v9:Option V),σ'=[some (.ref a),some (.int ch),some (iV n),some (.int sd),some (.int tu),some (.ref pt),some (.ref pr),v7,v8,v9,none,none,none,none,none]/\1<=n/\n<=64/\0<=tu/\Mid H n pt pr 3 300 H')
  ?_ (fun u hu5 hR=>⟨_,(Zc (Zbd (cl:=_) (n0:=5) Zx.nd rfl (Or.inl rfl) ["_law_k"] [("_law_many",2),("_law_turn",4)] (Zaa rfl (B "range" (by decide)) (Za (Zk ZX (ZF g_l_cell hr rfl (Za (pv 0) (Za Ze Zd))) Ze) Zd)) (fun _ _ _ _=>(Zv (i:=0) (show List.Nodup (["_law_k","_law_many","_law_turn"]:List Str) by decide) rfl (Or.inl rfl))) (fun _ _ _ _=>(Zk ZX (Zk ZS (pv 2) (Zk Z2 (pv 0) Ze)) (pv 1))) rfl rfl (by decide) rfl (by decide) (Zbg (by(repeat' first|exact List.forall_mem_nil _|refine List.forall_mem_cons.mpr ⟨?_,?_⟩) <;> rfl)) (ZaV (by(repeat' first|exact List.forall_mem_nil _|refine List.forall_mem_cons.mpr ⟨?_,?_⟩) <;> first|(intro h;exact⟨_,rfl⟩)|(intro h;exact absurd h (by decide)))) (fun _=>by(repeat' first|exact List.forall_mem_nil _|refine List.forall_mem_cons.mpr ⟨?_,?_⟩) <;> exact⟨rfl,rfl,Or.inl rfl⟩) (fun _=>rfl) rfl)
  (Zc (Zo (i:=6) Zx.nd rfl (Or.inl rfl) (Zax Zd))
  (Zc (ZaY PassesOwn.never rfl (Zh6 rfl (B "range" (by decide)) (Za Ze (Za (ZC (ZgO rfl) rfl (B "min" (by decide)) Zhq (Za (ZC Zu rfl (B "len" (by decide)) PySem.boot_len (Za (pv 0) Zd)) (Za Ze Zd))) Zd))) (Zv (i:=7) Zx.nd rfl (Or.inl rfl))
   (Zc (Zo (i:=8) Zx.nd rfl (Or.inl rfl) (ZF g_l_cell hr rfl (Za (pv 0) (Za (pv 7) Zd))))
    (Zc (Zo (i:=9) Zx.nd rfl (Or.inl rfl) (ZF g_l_tag hr rfl (Za (pv 3) (Za (Zk ZX (Zk ZS (pv 8) Ze) Ze) Zd))))
    (Zf (Zad (Zbn PySem.F.plainAttrs_list PySem.F.slot_list_append PySem.F.type_list_append ZJ (pv 6) (Za (ZK (Za (Zk ZX (pv 8) (pv 2)) (Za (pv 9) (Za (Zk ZX (Zk ZS (pv 8) Ze) (pv 2)) (Za (Zk ZX (Zk ZS (pv 8) Ze) (pv 2)) Zd))))) Zd)))))))
  hu5))),?_⟩)
 rotate_left
 ·rintro σ0 H0 ⟨n,ch,sd,tu,rfl,rfl,n1,n64,t0⟩;refine⟨_,rfl,a,ns,3,rfl,hS,h63,by decide,by decide,fun c3 c30 c31=>?_⟩;obtain⟨m,em,hm⟩:=ZeN c3 (n:=4) (by decide);refine⟨_,_,rfl,rfl,(by show(0:Int)<4;decide),(m:Int),(by show [V.int (c3 % ((4:Nat):Int))]=_;rw[em]),by omega,by omega,fun pt hpt=>?_⟩;refine Za2 (lo:=0) (n:=(m:Int).toNat) (p:=pt) (fun i ys σ H2=>∃(v0:Option V)(ts:List Nat),σ =[v0,some (iV n),some (.int tu)]/\Zi H0 H2/\H2 pt=some (.lst ys)/\ys=ts.map iV/\ts.length=i/\∀t∈ts,t<n)
   ⟨none,[],rfl,Zi.new hpt,Zb,rfl,rfl,fun _ h=>(nomatch h)⟩ ?_ ?_ ?_
  ·rintro i ys σ H2 _ ⟨v0,ts,_,_,h,_⟩;exact h
  ·rintro i ys σ H2 hi ⟨v0,ts,rfl,sm,hp,rfl,hl,ht⟩;obtain⟨k,ek,hk⟩:=ZeN (tu / (0+(i:Int)+7)) (n:=n) (by omega);refine⟨_,rfl,_,rfl,_,_,rfl,rfl,_,_,rfl,rfl,⟨by omega,by omega⟩,_,rfl,_,_,rfl,rfl,(by show(0:Int)<(n:Int);omega),hp,?_,CW.next hi ⟨_,ts ++ [k],rfl,sm.upd_new hpt,Zb,?_,?_,?_⟩⟩
   ·rw[List.length_map];exact Zz (by omega)
   ·show ts.map iV ++ [V.int (tu / (0+(i:Int)+7) % (n:Int))]=_;rw[ek,List.map_append];rfl
   ·rw[List.length_append,hl];rfl
   ·intro t h;rcases List.mem_append.mp h with h|h
    ·exact ht t h
    ·rw[List.mem_singleton.mp h];exact hk
  ·rintro ys σ H2 ⟨v0,ts,rfl,sm,hp,rfl,hl,ht⟩;refine⟨by decide,fun pr hpr=>?_⟩;have hpr0:=sm.free hpr;have npr:pt≠pr:=Zm hp hpr;have sm1:=sm.trans (Zi.new (o:=.lst []) hpr);have hm2:∃j:Int,(if(300:Int)<((ns.map V.int).length:Int) then(300:Int) else((ns.map V.int).length:Int))=j/\0<=j/\j<=63:=by
    rw[List.length_map]
    split
    ·exact⟨_,rfl,by omega,by omega⟩
    ·exact⟨_,rfl,by omega,by omega⟩
   obtain⟨j,hj,j0,j1⟩:=hm2;refine⟨_,rfl,a,_,rfl,.inl (sm1.seq hS),_,_,rfl,_,_,(by rw[hj]),⟨by decide,by decide,by omega,by omega⟩,ZaT (fun i σ H1=>∃v7 v8 v9:Option V,σ =[some (.ref a),some (.int ch),some (iV n),some (.int sd),some (.int tu),some (.ref pt),some (.ref pr),v7,v8,v9,none,none,none,none,none]/\Mid H0 n pt pr 3 i H1)
    ⟨none,none,none,rfl,sm1,hpt,hpr0,npr,ts,[],?_,Zb,by omega,Nat.le_refl _,ht,fun _ h=>(nomatch h)⟩ ?_ ?_⟩
   ·rw[Zh npr];exact hp
   ·rintro i σ H1 hi ⟨v7,v8,v9,rfl,s1,_,_,_,ts,zs,e1,e2,l1,l2,ht,hq⟩;refine⟨_,rfl,_,rfl,a,ns,4+(i:Int),rfl,s1.seq hS,h63,by omega,by omega,fun d d0 d1=>?_⟩;refine⟨_,rfl,_,rfl,_,_,rfl,rfl,⟨by decide,by decide⟩,_,_,rfl,rfl,(by show(0:Int)<4;decide),_,_,rfl,fun t htl _=>?_⟩;obtain⟨k1,ek1,hk1⟩:=ZeN d (n:=n) (by omega);obtain⟨k2,ek2,hk2⟩:=ZeN (d / 64) (n:=n) (by omega);obtain⟨k3,ek3,hk3⟩:=ZeN (d / 4096) (n:=n) (by omega);have hn0:(0:Int)<(n:Int):=by omega
    refine⟨_,rfl,.inl ⟨rfl,_,SqL.of e2⟩,_,rfl,_,rfl,_,_,rfl,rfl,hn0,_,rfl,_,rfl,_,_,rfl,rfl,⟨by decide,by decide⟩,_,rfl,_,_,rfl,rfl,hn0,_,rfl,_,_,rfl,rfl,⟨by decide,by decide⟩,_,rfl,_,_,rfl,rfl,hn0,by show(4:Nat)<=sizeLine;decide,fun p hp=>?_⟩;refine⟨pr,_,_,rfl,rfl,Zi.new hp _ _ e2,Zz (by omega),?_⟩;exact⟨_,_,_,rfl,Mid.push s1 hpt hpr0 npr e1 e2 l1 l2 ht hq (Zi.new hp) ⟨k1,t,k2,k3⟩ (by rw[Zb];show some (HO.tup [V.int (d % (n:Int)),.str t,V.int (d / 64 % (n:Int)),V.int (d / 4096 % (n:Int))])=_;rw[ek1,ek2,ek3]) hk1 hk2 hk3 htl⟩
   ·rintro σ H1 ⟨v7,v8,v9,rfl,s1,m1,m2,m3,ts,zs,e1,e2,l1,l2,ht,hq⟩;exact hR _ _ ⟨n,ch,sd,tu,pt,pr,v7,v8,v9,rfl,n1,n64,t0,s1,m1,m2,m3,ts,zs,e1,e2,l1,by omega,ht,hq⟩
 refine ZlP _ 1 (fun σ' H'=>∃(n:Nat)(ch sd tu:Int)(pt pr:Addr)(v7 v8 v9 v10 v11 v12 v13:Option V),σ'=[some (.ref a),some (.int ch),some (iV n),some (.int sd),some (.int tu),some (.ref pt),some (.ref pr),v7,v8,v9,v10,v11,v12,v13,none]/\1<=n/\n<=64/\0<=tu/\Mid H n pt pr 4 400 H')
  ?_ (fun u hu6 hR=>⟨_,(Zc (Zas (Zr Zco (Zk ZX (pv 4) Ze) Ze (Zt _))
   (Zc (Zo (i:=10) Zx.nd rfl (Or.inl rfl) (Zk ZX (Zk Zdw (Zk Z2 (Zk ZS (pv 4) Ze) (pv 2)) Ze) (pv 2)))
    (Zc (Zad (Zbn PySem.F.plainAttrs_list PySem.F.slot_list_append PySem.F.type_list_append ZJ (pv 5) (Za (pv 10) Zd)))
    (Zf (ZaY PassesOwn.never rfl (Zaa rfl (B "range" (by decide)) (Za (Zk Zdw (pv 2) Ze) Zd)) (Zv (i:=11) Zx.nd rfl (Or.inl rfl))
     (Zc (Zo (i:=12) Zx.nd rfl (Or.inl rfl) (Zk ZX (Zk Z2 (Zk Z2 (Zk ZS (pv 4) Ze) (pv 11)) Ze) (pv 2)))
      (Zc (Zo (i:=13) Zx.nd rfl (Or.inl rfl) (Zw ZD (Zax (Za (ZK (Za (pv 12) (Za (pv 10) Zd))) (Za (ZK (Za (pv 10) (Za (pv 12) Zd))) Zd))) (Zk ZX (Zk ZS (pv 4) (Zk Z2 (pv 11) Ze)) Ze) (fun _ _=>rfl)))
      (Zc (Zas (Zr Zco (Zk ZX (Zk ZS (pv 4) Ze) Ze) Ze (Zt _))
       (Zf (Zo (i:=13) Zx.nd rfl (Or.inl rfl) (ZK (Za (pv 12) (Za (pv 12) Zd)))))
       ZG)
      (Zf (Zad (Zbn PySem.F.plainAttrs_list PySem.F.slot_list_append PySem.F.type_list_append ZJ (pv 6) (Za (ZK (Za (Zk ZX (Zk Z2 (Zk ZS (pv 4) Ze) (pv 11)) (pv 2)) (Za (ZF g_l_tag hr rfl (Za (pv 3) (Za (Zk ZX (Zk ZS (pv 4) (Zk Z2 (pv 11) Ze)) Ze) Zd))) (Za (Zw ZP (pv 13) Ze (fun _ _=>rfl)) (Za (Zw ZP (pv 13) Ze (fun _ _=>rfl)) Zd))))) Zd)))))))))))
   ZG)
  hu6),?_⟩)
 rotate_left
 ·rintro σ0 H0 ⟨n,ch,sd,tu,pt,pr,v7,v8,v9,rfl,n1,n64,t0,s1,m1,m2,m3,ts,zs,e1,e2,l1,l2,ht,hq⟩;have hn0:(0:Int)<(n:Int):=by omega
  refine⟨_,rfl,_,_,rfl,rfl,(by show(0:Int)<3;decide),rfl,_,rfl,?_⟩;refine ZbI (fun _=>?_) (fun _=>hR _ _ ⟨n,ch,sd,tu,pt,pr,_,_,_,_,_,_,_,rfl,n1,n64,t0,s1,m1,m2,m3,ts,zs,e1,e2,by omega,by omega,ht,hq⟩);obtain⟨la,ela,hla⟩:=ZeN (tu / 3+(n:Int)-1) (n:=n) (by omega);refine⟨_,rfl,_,_,rfl,rfl,⟨by decide,by decide⟩,_,rfl,_,_,rfl,rfl,_,_,rfl,rfl,_,rfl,_,_,rfl,rfl,hn0,?_⟩;refine⟨_,rfl,.inl ⟨rfl,_,SqL.of e1⟩,_,rfl,pt,_,_,rfl,rfl,e1,Zz (by rw[List.length_map];omega),?_⟩;have mid0:Mid H n pt pr 4 (300+0) (upd H0 pt (.lst (ts.map iV ++ [V.int ((tu / 3+(n:Int)-1) % (n:Int))]))):=by
   refine⟨s1.upd_new m1,m1,m2,m3,ts ++ [la],zs,?_,?_,?_,by omega,fun t h=>?_,hq.keep (ZaB e1)⟩
   ·rw[Zb,ela,List.map_append];rfl
   ·rw[Zh m3.symm];exact e2
   ·rw[List.length_append,List.length_singleton];omega
   ·rcases List.mem_append.mp h with h|h
    ·exact ht t h
    ·rw[List.mem_singleton.mp h];exact hla
  refine⟨_,rfl,_,_,rfl,rfl,_,rfl,by omega,by omega,ZaT (lo:=0) (fun i σ H1=>∃v11 v12 v13:Option V,σ =[some (.ref a),some (.int ch),some (iV n),some (.int sd),some (.int tu),some (.ref pt),some (.ref pr),v7,v8,v9,some (.int ((tu / 3+(n:Int)-1) % (n:Int))),v11,v12,v13,none]/\Mid H n pt pr 4 (300+i) H1)
   ⟨none,none,none,rfl,mid0⟩ ?_ ?_⟩
  ·rintro i σ H1 hi ⟨v11,v12,v13,rfl,s1,_,_,_,ts,zs,e1,e2,l1,l2,ht,hq⟩;obtain⟨af,eaf,haf⟩:=ZeN (tu / 3+(0+(i:Int))+1) (n:=n) (by omega);obtain⟨k1,ek1,hk1⟩:=ZeN (tu / 3+(0+(i:Int))) (n:=n) (by omega);refine⟨_,rfl,_,_,rfl,rfl,⟨by decide,by decide⟩,_,rfl,_,_,rfl,rfl,_,_,rfl,rfl,_,rfl,_,_,rfl,rfl,hn0,?_⟩;refine⟨_,rfl,_,rfl,by show(2:Nat)<=sizeLine;decide,fun t1 ht1=>⟨_,rfl,_,rfl,by show(2:Nat)<=sizeLine;decide,fun t2 ht2=>⟨by show(2:Nat)<=sizeLine;decide,fun l hl=>?_⟩⟩⟩;have sa:Zi H1 (upd H1 t1 (.tup [V.int ((tu / 3+(0+(i:Int))+1) % (n:Int)),V.int ((tu / 3+(n:Int)-1) % (n:Int))])):=Zi.new ht1;have ea:(upd H1 t1 (.tup [V.int ((tu / 3+(0+(i:Int))+1) % (n:Int)),V.int ((tu / 3+(n:Int)-1) % (n:Int))])) t1=some (.tup [iV af,iV la]):=by rw[Zb,eaf,ela]
   have ht2':(upd H1 t1 (.tup [V.int ((tu / 3+(0+(i:Int))+1) % (n:Int)),V.int ((tu / 3+(n:Int)-1) % (n:Int))])) t2=none:=ht2;have sb:=Zi.new (o:=.tup [V.int ((tu / 3+(n:Int)-1) % (n:Int)),V.int ((tu / 3+(0+(i:Int))+1) % (n:Int))]) ht2';have eb:(upd (upd H1 t1 (.tup [V.int ((tu / 3+(0+(i:Int))+1) % (n:Int)),V.int ((tu / 3+(n:Int)-1) % (n:Int))])) t2 (.tup [V.int ((tu / 3+(n:Int)-1) % (n:Int)),V.int ((tu / 3+(0+(i:Int))+1) % (n:Int))])) t2=some (.tup [iV la,iV af]):=by rw[Zb,eaf,ela]
   have hl':(upd (upd H1 t1 (.tup [V.int ((tu / 3+(0+(i:Int))+1) % (n:Int)),V.int ((tu / 3+(n:Int)-1) % (n:Int))])) t2 (.tup [V.int ((tu / 3+(n:Int)-1) % (n:Int)),V.int ((tu / 3+(0+(i:Int))+1) % (n:Int))])) l=none:=hl;have sc:=Zi.new (o:=.lst [.ref t1,.ref t2]) hl';have sabc:=(sa.trans sb).trans sc;have et1:=sc _ _ (sb _ _ ea);have et2:=sc _ _ eb;obtain⟨tt,x,y,hat,htt,hx,hy⟩:∃(tt:Addr)(x y:Nat),atI [V.ref t1,.ref t2] (tu / (0+(i:Int)+9) % 2)=some (.ref tt)/\(upd (upd (upd H1 t1 (.tup [V.int ((tu / 3+(0+(i:Int))+1) % (n:Int)),V.int ((tu / 3+(n:Int)-1) % (n:Int))])) t2 (.tup [V.int ((tu / 3+(n:Int)-1) % (n:Int)),V.int ((tu / 3+(0+(i:Int))+1) % (n:Int))])) l (.lst [.ref t1,.ref t2])) tt=some (.tup [iV x,iV y])/\x<n/\y<n:=by
    obtain⟨b,eb,hb⟩:=ZeN (tu / (0+(i:Int)+9)) (n:=2) (by decide);rw[show(2:Int)=((2:Nat):Int) from rfl,eb]
    match b,hb with
    | 0,_=>exact⟨t1,af,la,rfl,et1,haf,hla⟩
    | 1,_=>exact⟨t2,la,af,rfl,et2,hla,haf⟩
   refine⟨_,rfl,_,rfl,_,_,rfl,rfl,_,_,rfl,rfl,⟨by omega,by omega⟩,_,_,rfl,rfl,(by show(0:Int)<2;decide),l,_,_,_,rfl,rfl,SqL.of Zb,hat,?_⟩;generalize upd (upd (upd H1 t1 _) t2 _) l _=H2 at sabc htt ⊢;refine⟨_,rfl,_,_,rfl,rfl,⟨by decide,by decide⟩,_,_,rfl,rfl,(by show(0:Int)<2;decide),rfl,_,rfl,?_⟩;refine ZbI (fun _=>?_) (fun _=>?_)
   ·refine⟨_,rfl,_,rfl,by show(2:Nat)<=sizeLine;decide,fun t3 ht3=>?_⟩;have s3:=sabc.trans (Zi.new (o:=.tup [V.int ((tu / 3+(0+(i:Int))+1) % (n:Int)),V.int ((tu / 3+(0+(i:Int))+1) % (n:Int))]) ht3);have e3:(upd H2 t3 (.tup [V.int ((tu / 3+(0+(i:Int))+1) % (n:Int)),V.int ((tu / 3+(0+(i:Int))+1) % (n:Int))])) t3=some (.tup [iV af,iV af]):=by rw[Zb,eaf]
    refine⟨_,rfl,.inl ⟨rfl,_,SqL.of (s3 _ _ e2)⟩,_,rfl,_,_,rfl,rfl,⟨by decide,by decide⟩,_,rfl,_,_,rfl,rfl,_,rfl,_,_,rfl,rfl,hn0,_,rfl,_,rfl,_,rfl,_,_,rfl,rfl,_,_,rfl,rfl,⟨by omega,by omega⟩,_,_,rfl,rfl,(by show(0:Int)<4;decide),_,_,rfl,fun t htl _=>?_⟩;refine⟨_,rfl,t3,_,0,_,rfl,rfl,SqT.of e3,rfl,_,rfl,t3,_,1,_,rfl,rfl,SqT.of e3,rfl,by show(4:Nat)<=sizeLine;decide,fun p hp=>?_⟩;have s4:=s3.trans (Zi.new (o:=.tup [V.int ((tu / 3+(0+(i:Int))) % (n:Int)),.str t,iV af,iV af]) hp);refine⟨pr,_,_,rfl,rfl,s4 _ _ e2,Zz (by omega),?_⟩;exact⟨_,_,_,rfl,Mid.push s1 m1 m2 m3 e1 e2 l1 l2 ht hq s4 ⟨k1,t,af,af⟩ (by rw[Zb];show some (HO.tup [V.int ((tu / 3+(0+(i:Int))) % (n:Int)),.str t,iV af,iV af])=_;rw[ek1]) hk1 haf haf htl⟩
   ·have s3:=sabc;refine⟨_,rfl,.inl ⟨rfl,_,SqL.of (s3 _ _ e2)⟩,_,rfl,_,_,rfl,rfl,⟨by decide,by decide⟩,_,rfl,_,_,rfl,rfl,_,rfl,_,_,rfl,rfl,hn0,_,rfl,_,rfl,_,rfl,_,_,rfl,rfl,_,_,rfl,rfl,⟨by omega,by omega⟩,_,_,rfl,rfl,(by show(0:Int)<4;decide),_,_,rfl,fun t htl _=>?_⟩;refine⟨_,rfl,tt,_,0,_,rfl,rfl,SqT.of htt,rfl,_,rfl,tt,_,1,_,rfl,rfl,SqT.of htt,rfl,by show(4:Nat)<=sizeLine;decide,fun p hp=>?_⟩;have s4:=s3.trans (Zi.new (o:=.tup [V.int ((tu / 3+(0+(i:Int))) % (n:Int)),.str t,iV x,iV y]) hp);refine⟨pr,_,_,rfl,rfl,s4 _ _ e2,Zz (by omega),?_⟩;exact⟨_,_,_,rfl,Mid.push s1 m1 m2 m3 e1 e2 l1 l2 ht hq s4 ⟨k1,t,x,y⟩ (by rw[Zb];show some (HO.tup [V.int ((tu / 3+(0+(i:Int))) % (n:Int)),.str t,iV x,iV y])=_;rw[ek1]) hk1 hx hy htl⟩
  ·rintro σ H1 ⟨v11,v12,v13,rfl,s1,_,_,_,ts,zs,e1,e2,l1,l2,ht,hq⟩;exact hR _ _ ⟨n,ch,sd,tu,pt,pr,_,_,_,_,_,_,_,rfl,n1,n64,t0,s1,m1,m2,m3,ts,zs,e1,e2,l1,by omega,ht,hq⟩
 refine⟨_,(Zc (Zbd (cl:=_) (n0:=14) Zx.nd rfl (Or.inl rfl) ["_law_k"] [("_law_many",2),("_law_turn",4)] (Zaa rfl (B "range" (by decide)) (Za (Zk ZX (Zk ZS (ZF g_l_cell hr rfl (Za (pv 0) (Za Ze Zd))) Ze) Ze) Zd)) (fun _ _ _ _=>(Zv (i:=0) (show List.Nodup (["_law_k","_law_many","_law_turn"]:List Str) by decide) rfl (Or.inl rfl))) (fun _ _ _ _=>(Zk ZX (Zk ZS (pv 2) (Zk Z2 (pv 0) Ze)) (pv 1))) rfl rfl (by decide) rfl (by decide) (Zbg (by(repeat' first|exact List.forall_mem_nil _|refine List.forall_mem_cons.mpr ⟨?_,?_⟩) <;> rfl)) (ZaV (by(repeat' first|exact List.forall_mem_nil _|refine List.forall_mem_cons.mpr ⟨?_,?_⟩) <;> first|(intro h;exact⟨_,rfl⟩)|(intro h;exact absurd h (by decide)))) (fun _=>by(repeat' first|exact List.forall_mem_nil _|refine List.forall_mem_cons.mpr ⟨?_,?_⟩) <;> exact⟨rfl,rfl,Or.inl rfl⟩) (fun _=>rfl) rfl)
  (Zc (Zo (i:=14) Zx.nd rfl (Or.inl rfl) (Zk ZfX (pv 14) (Zfs (cl:=_) ["_law_k"] [("_law_many",2),("_law_turn",4)] (Zaa rfl (B "range" (by decide)) (Za (Zk ZX (Zk ZS (pv 4) Ze) Ze) Zd)) (fun _ _ _ _=>(Zv (i:=0) (show List.Nodup (["_law_k","_law_many","_law_turn"]:List Str) by decide) rfl (Or.inl rfl))) (fun _ _ _ _=>(Zk ZX (Zk ZS (pv 2) Ze) (pv 1))) rfl rfl (by decide) rfl (by decide) (Zbg (by(repeat' first|exact List.forall_mem_nil _|refine List.forall_mem_cons.mpr ⟨?_,?_⟩) <;> rfl)) (ZaV (by(repeat' first|exact List.forall_mem_nil _|refine List.forall_mem_cons.mpr ⟨?_,?_⟩) <;> first|(intro h;exact⟨_,rfl⟩)|(intro h;exact absurd h (by decide)))) (fun _=>by(repeat' first|exact List.forall_mem_nil _|refine List.forall_mem_cons.mpr ⟨?_,?_⟩) <;> exact⟨rfl,rfl,Or.inl rfl⟩) (fun _=>rfl))))
  (Zf (ZR (ZK (Za (pv 2) (Za (Za1 ZaJ rfl (B "tuple" (by decide)) Zbv (Za (Zbm rfl hu rfl (B "sorted" (by decide)) rfl (B "set" (by decide)) (Za (pv 14) Zd)) Zd)) (Za (Za1 ZaJ rfl (B "tuple" (by decide)) Zbv (Za (Zbm rfl hu rfl (B "sorted" (by decide)) rfl (B "set" (by decide)) (Za (pv 5) Zd)) Zd)) (Za (Za1 ZaJ rfl (B "tuple" (by decide)) Zbv (Za (Zbm rfl hu rfl (B "sorted" (by decide)) rfl (B "set" (by decide)) (Za (pv 6) Zd)) Zd)) Zd))))))))),?_⟩
 rintro σ0 H0 ⟨n,ch,sd,tu,pt,pr,v7,v8,v9,v10,v11,v12,v13,rfl,n1,n64,t0,s1,m1,m2,m3,ts,zs,e1,e2,l1,l2,ht,hq⟩;have hn0:(0:Int)<(n:Int):=by omega
 refine⟨_,rfl,a,ns,3,rfl,s1.seq hS,h63,by decide,by decide,fun c3 c30 c31=>?_⟩;obtain⟨m,em,hm⟩:=ZeN (c3 / 4) (n:=4) (by decide);refine⟨_,_,rfl,rfl,⟨by decide,by decide⟩,_,_,rfl,rfl,(by show(0:Int)<4;decide),(m:Int),(by show [V.int (c3 / 4 % ((4:Nat):Int))]=_;rw[em]),by omega,by omega,fun ph hph=>?_⟩;refine Za2 (lo:=0) (n:=(m:Int).toNat) (p:=ph) (fun i ys σ H2=>∃(v0:Option V)(hs:List Nat),σ =[v0,some (iV n),some (.int tu)]/\Zi H0 H2/\H2 ph=some (.lst ys)/\ys=hs.map iV/\hs.length=i/\∀h∈hs,h<n)
  ⟨none,[],rfl,Zi.new hph,Zb,rfl,rfl,fun _ h=>(nomatch h)⟩ ?_ ?_ ?_
 ·rintro i ys σ H2 _ ⟨v0,hs,_,_,h,_⟩;exact h
 ·rintro i ys σ H2 hi ⟨v0,hs,rfl,sm,hp,rfl,hl,hh⟩;obtain⟨k,ek,hk⟩:=ZeN (tu / (0+(i:Int)+11)) (n:=n) (by omega);refine⟨_,rfl,_,rfl,_,_,rfl,rfl,_,_,rfl,rfl,⟨by omega,by omega⟩,_,rfl,_,_,rfl,rfl,hn0,hp,?_,CW.next hi ⟨_,hs ++ [k],rfl,sm.upd_new hph,Zb,?_,?_,?_⟩⟩
  ·rw[List.length_map];exact Zz (by omega)
  ·show hs.map iV ++ [V.int (tu / (0+(i:Int)+11) % (n:Int))]=_;rw[ek,List.map_append];rfl
  ·rw[List.length_append,hl];rfl
  ·intro t h;rcases List.mem_append.mp h with h|h
   ·exact hh t h
   ·rw[List.mem_singleton.mp h];exact hk
 rintro ys σ H2 ⟨v0,hs,rfl,sm,hp,rfl,hl,hh⟩;obtain⟨m2',em2,hm2⟩:=ZeN (tu / 384) (n:=2) (by decide);refine⟨_,rfl,_,rfl,_,_,rfl,rfl,⟨by decide,by decide⟩,_,_,rfl,rfl,(by show(0:Int)<2;decide),(m2':Int),(by show [V.int (tu / 384 % ((2:Nat):Int))]=_;rw[em2]),by omega,by omega,fun pc hpc=>?_⟩;refine Za2 (lo:=0) (n:=(m2':Int).toNat) (p:=pc) (fun i ys σ H3=>∃(v0:Option V)(hs:List Nat),σ =[v0,some (iV n),some (.int tu)]/\Zi H2 H3/\H3 pc=some (.lst ys)/\ys=hs.map iV/\hs.length=i/\∀h∈hs,h<n)
  ⟨none,[],rfl,Zi.new hpc,Zb,rfl,rfl,fun _ h=>(nomatch h)⟩ ?_ ?_ ?_
 ·rintro i ys σ H3 _ ⟨v0,hs,_,_,h,_⟩;exact h
 ·rintro i ys σ H3 hi ⟨v0,hs,rfl,sm,hp,rfl,hl,hh⟩;obtain⟨k,ek,hk⟩:=ZeN (tu / 3) (n:=n) (by omega);refine⟨_,rfl,_,_,rfl,rfl,⟨by decide,by decide⟩,_,rfl,_,_,rfl,rfl,hn0,hp,?_,CW.next hi ⟨_,hs ++ [k],rfl,sm.upd_new hpc,Zb,?_,?_,?_⟩⟩
  ·rw[List.length_map];exact Zz (by omega)
  ·show hs.map iV ++ [V.int (tu / 3 % (n:Int))]=_;rw[ek,List.map_append];rfl
  ·rw[List.length_append,hl];rfl
  ·intro t h;rcases List.mem_append.mp h with h|h
   ·exact hh t h
   ·rw[List.mem_singleton.mp h];exact hk
 rintro ys σ H3 ⟨v0',hs',rfl,sm3,hp3,rfl,hl3,hh'⟩;refine⟨ph,pc,_,_,rfl,rfl,sm3 _ _ hp,hp3,ZcQ (by rw[List.length_map,List.length_map];omega),fun pn hpn=>?_⟩;have s4:Zi H0 (upd H3 pn (.lst (hs.map iV++hs'.map iV))):=(sm.trans sm3).trans (Zi.new hpn);have e4:(upd H3 pn (.lst (hs.map iV++hs'.map iV))) pn=some (.lst ((hs++hs').map iV)):=by rw[Zb,List.map_append]
 generalize upd H3 pn (.lst (hs.map iV++hs'.map iV))=H4 at s4 e4 ⊢;have hlen:(hs++hs').length<=10:=by rw[List.length_append];omega
 refine⟨_,rfl,_,rfl,pn,_,rfl,SqL.of e4,(by rw[List.length_map];omega),.inr (fun y hy=>?_),fun r1 z1 hr1 hl1 hz1=>⟨r1,_,rfl,.inl ⟨SqL.of Zb,fun u1 hu1=>?_⟩⟩⟩
 ·obtain⟨i,_,rfl⟩:=List.mem_map.mp hy;exact⟨i,rfl⟩
 obtain⟨sts,rfl,hsts⟩:=Ze9 (f:=iV) z1 hz1;have s5:Zi H4 (upd (upd H4 r1 (.lst (sts.map iV))) u1 (.tup (sts.map iV))):=(Zi.new hr1).trans (Zi.new hu1);have e5:(upd (upd H4 r1 (.lst (sts.map iV))) u1 (.tup (sts.map iV))) u1=some (.tup (sts.map iV)):=Zb;generalize upd (upd H4 r1 (.lst (sts.map iV))) u1 (.tup (sts.map iV))=H5 at s5 e5 ⊢;have s05:=s4.trans s5;refine⟨_,rfl,pt,_,rfl,SqL.of (s05 _ _ e1),(by rw[List.length_map];omega),.inr (fun y hy=>?_),fun r2 z2 hr2 hl2 hz2=>⟨r2,_,rfl,.inl ⟨SqL.of Zb,fun u2 hu2=>?_⟩⟩⟩
 ·obtain⟨i,_,rfl⟩:=List.mem_map.mp hy;exact⟨i,rfl⟩
 obtain⟨es,rfl,hes⟩:=Ze9 (f:=iV) z2 hz2;have s6:Zi H5 (upd (upd H5 r2 (.lst (es.map iV))) u2 (.tup (es.map iV))):=(Zi.new hr2).trans (Zi.new hu2);have e6:(upd (upd H5 r2 (.lst (es.map iV))) u2 (.tup (es.map iV))) u2=some (.tup (es.map iV)):=Zb;generalize upd (upd H5 r2 (.lst (es.map iV))) u2 (.tup (es.map iV))=H6 at s6 e6 ⊢;have s06:=s05.trans s6;have hq6:=hq.keep (H':=H6) fun b xs z=>s06 _ _ z;refine⟨_,rfl,pr,_,rfl,SqL.of (s06 _ _ e2),(by omega),.inl (fun y hy=>?_),fun r3 z3 hr3 hl3 hz3=>⟨r3,_,rfl,.inl ⟨SqL.of Zb,fun u3 hu3=>?_⟩⟩⟩
 ·obtain⟨p,q,rfl,e,_⟩:=hq6 y hy;exact⟨p,_,_,_,_,rfl,e⟩
 have s7:Zi H6 (upd (upd H6 r3 (.lst z3)) u3 (.tup z3)):=(Zi.new hr3).trans (Zi.new hu3);have e7:(upd (upd H6 r3 (.lst z3)) u3 (.tup z3)) u3=some (.tup z3):=Zb;generalize upd (upd H6 r3 (.lst z3)) u3 (.tup z3)=H7 at s7 e7 ⊢;have hq7:QIn H7 n z3:=fun z hz=>(hq6.keep (H':=H7) fun b xs z=>s7 _ _ z) z (hz3 z hz);obtain⟨qs,rs,rfl,hql,hqr,hqn⟩:=hq7.rls;refine⟨by show(4:Nat)<=sizeLine;decide,fun r hr=>?_⟩;have s8:Zi H7 (upd H7 r (.tup [iV n,.ref u1,.ref u2,.ref u3])):=Zi.new hr;have hl1':sts.length<=10:=by
  rw[List.length_map,List.length_map] at hl1;omega
 refine q r ⟨n,es,rs⟩ sts _ (((s1.trans s06).trans s7).trans s8) ⟨⟨fun x hx=>ht x (hes x hx),fun q hq=>⟨(hqn q hq).1,(hqn q hq).2.1,(hqn q hq).2.2.1⟩⟩,u1,u2,u3,qs,Zb,s8 _ _ (s7 _ _ e6),s8 _ _ e7,hql,fun i p q a b=>s8 _ _ (hqr i p q a b)⟩ ⟨_,_,_,u1,Zb,s8 _ _ (s7 _ _ (s6 _ _ e5))⟩ ⟨n1,n64,?_,fun s hs=>?_,hl1',fun q hq=>(hqn q hq).2.2.2⟩ (by show rs.length<=400/\es.length<=1000;rw[List.length_map] at hl3;rw[List.length_map,List.length_map] at hl2;omega)
 ·show rs.length<=900;rw[List.length_map] at hl3;omega
 ·rcases List.mem_append.mp (hsts s hs) with h|h
  ·exact hh s h
  ·exact hh' s h
def flW:List (Gr Str)->List Str
 | []=>[]
 | [g]=>words SL g
 | g::h::t=>words SL g++SL::flW (h::t)
def ZkX(H:Hp)(v:V)(g:Gr Str):Prop := ∃(b row:Addr)(xs:List V)(n:Nat),v=.ref b/\H b=some (.tup [.ref row,.int (n:Int)])/\H row=some (.tup xs)/\n<=xs.length/\RepG H (xs.drop n) g
theorem ZkX.mono{H H':Hp}(k:TK H H'){v:V}{g:Gr Str}(h:ZkX H v g):ZkX H' v g:=by
 obtain⟨b,row,xs,n,e,h1,h2,h3,h4⟩:=h;exact⟨b,row,xs,n,e,k _ _ h1,k _ _ h2,h3,h4.mono k⟩
theorem ZeY:∀st:List (Gr Str),st.length<=(flW st).length+1
 | []=>Nat.zero_le _
 | [g]=>by show 1<=_;lia
 | g::h::t=>by
  have:=ZeY (h::t);show(h::t).length+1<=(words SL g++SL::flW (h::t)).length+1;simp only[List.length_append,List.length_cons] at this ⊢;lia
theorem ZiQ(t:Str)(w o:Gr Str)(st:List (Gr Str)):flW (.cons t w o::st)=t::flW (w::o::st):=by
 cases st with
 | nil=>rfl
 | cons h l =>
  show t::(words SL w++SL::words SL o)++SL::flW (h::l)=t::(words SL w++SL::(words SL o++SL::flW (h::l)));rw[List.cons_append,List.append_assoc];rfl
def Zcz:Sp:=fun vs H Q _=>∃(a:Addr)(xs:List V)(g:Gr Str),vs=[.ref a]/\H a=some (.tup xs)/\RepG H xs g/\gsz g<=300/\∀(r:Addr)(H':Hp),Zi H H'->H r=none->H' r=some (.lst ((words SL g).map V.str))->Q (.ref r) H'
set_option maxHeartbeats 2000000 in
theorem ZgX(B:∀x∈ZcI,mg x=none)(F:Fun K "_law_list" "_law_list" Zbu f fd):FnOk P w K mg base CX0 1 f fd ["_law_found"] Zcz:=by
 refine F.ok Za5 (fun vs H Q E h=>?_) (fun cdv A outer s H vs Q E hr h=>?_)
 ·obtain⟨a,xs,g,rfl,_⟩:=h;rfl
 obtain⟨a,xs,g,rfl,ha,hG,hg3,q⟩:=h;have hgw:=Zap g;refine⟨_,(Zc (Zo (i:=1) Za5.nd rfl (Or.inl rfl) (Zax Zd))
  (Zc (Zo (i:=2) Za5.nd rfl (Or.inl rfl) (Zax (Za (ZK (Za (pv 0) (Za Ze Zd))) Zd)))
  (Zc (Zcv PassesOwn.never (Zr ZiC (ZC Zu rfl (B "len" (by decide)) PySem.boot_len (Za (pv 2) Zd)) Ze (Zt _))
   (Zc (Zc2 (Zi4 PySem.F.plainAttrs_list PySem.F.slot_list_pop PySem.F.type_list_pop Zi3 (pv 2)) (ZfR rfl (Zae (Zv (i:=3) Za5.nd rfl (Or.inl rfl)) (Zae (Zv (i:=4) Za5.nd rfl (Or.inl rfl)) ZdA))))
    (Zc (Zas (PW.pt (Zdc (ZbM (Z8 (ZC Zbf rfl (B "isinstance" (by decide)) Zaj (Za (pv 3) (Za (ZiA rfl (B "tuple" (by decide)) Zbv) Zd))) (fun _=>rfl))) (Zch (Zr ZiC (ZC Zu rfl (B "len" (by decide)) PySem.boot_len (Za (pv 1) Zd)) Ze (Zt _)))))
     (Zf (ZR ZZ))
     ZG)
    (Zf (Zas (Zr ZjY (pv 4) (ZC Zu rfl (B "len" (by decide)) PySem.boot_len (Za (pv 3) Zd)) (Zt _))
     (Zc (Zo (i:=5) Za5.nd rfl (Or.inl rfl) (Zw ZP (pv 3) (pv 4) (fun _ _=>rfl)))
      (Zc (Zas (PW.pt (Zdc (ZbM (Z8 (ZC Zbf rfl (B "isinstance" (by decide)) Zaj (Za (pv 5) (Za (ZiA rfl (B "tuple" (by decide)) Zbv) Zd))) (fun _=>rfl))) (Zdc (Zr ZkD (ZC Zu rfl (B "len" (by decide)) PySem.boot_len (Za (pv 5) Zd)) Ze (Zt _)) (Zch (ZbM (Z8 (ZC Zbf rfl (B "isinstance" (by decide)) Zaj (Za (Zw ZP (pv 5) Ze (fun _ _=>rfl)) (Za (ZiA rfl (B "str" (by decide)) Zkl) Zd))) (fun _=>rfl)))))))
       (Zf (ZR ZZ))
       ZG)
      (Zc (Zad (Zbn PySem.F.plainAttrs_list PySem.F.slot_list_append PySem.F.type_list_append ZJ (pv 1) (Za (Zw ZP (pv 5) Ze (fun _ _=>rfl)) Zd)))
      (Zc (Zad (Zbn PySem.F.plainAttrs_list PySem.F.slot_list_append PySem.F.type_list_append ZJ (pv 2) (Za (ZK (Za (pv 3) (Za (Zk Z2 (pv 4) Ze) Zd))) Zd)))
      (Zf (Zad (Zbn PySem.F.plainAttrs_list PySem.F.slot_list_append PySem.F.type_list_append ZJ (pv 2) (Za (ZK (Za (Zw ZP (pv 5) Ze (fun _ _=>rfl)) (Za Ze Zd))) Zd))))))))
     (Zf (Zas (Zr ZiC (ZC Zu rfl (B "len" (by decide)) PySem.boot_len (Za (pv 2) Zd)) Ze (Zt _))
       (Zf (Zad (Zbn PySem.F.plainAttrs_list PySem.F.slot_list_append PySem.F.type_list_append ZJ (pv 1) (Za Zcl Zd))))
       ZG)))))))
  (Zf (ZR (pv 1)))))),?_⟩
 refine⟨by decide,fun wp hwp=>?_⟩;have s1:Zi H (upd H wp (.lst [])):=Zi.new hwp;refine⟨_,rfl,(show(2:Nat)<=sizeLine from by decide),fun b1 hb1=>⟨(show(1:Nat)<=sizeLine from by decide),fun pp hpp=>?_⟩⟩;have s2:=s1.trans (Zi.new (o:=.tup [.ref a,.int 0]) hb1);have s3:=s2.trans (Zi.new (o:=.lst [.ref b1]) hpp);have hpp0:=s2.free hpp;have e1:=(Zi.new (o:=.lst [.ref b1]) hpp) _ _ ((Zi.new (o:=.tup [.ref a,.int 0]) hb1) _ _ (Zb (H:=H) (a:=wp) (o:=.lst [])));have e2:=(Zi.new (o:=.lst [.ref b1]) hpp) _ _ (Zb (H:=upd H wp (.lst [])) (a:=b1) (o:=.tup [.ref a,.int 0]));have npw:pp≠wp:=fun z=>by
  rw[z] at hpp;have:=(Zi.new (o:=.tup [.ref a,.int 0]) hb1) _ _ (Zb (H:=H) (a:=wp) (o:=.lst []));rw[this] at hpp;cases hpp
 let W:Nat->St->Hp->Prop:=fun m σ H1=>∃(acc:List Str)(ps:List V)(st:List (Gr Str))(v3 v4 v5:Option V),σ =[some (.ref a),some (.ref wp),some (.ref pp),v3,v4,v5]/\Zi H H1/\H1 wp=some (.lst (acc.map V.str))/\H1 pp=some (.lst ps.reverse)/\Paired (ZkX H1) ps st/\acc++flW st=words SL g/\m=2*(flW st).length+st.length
 refine⟨W,⟨_,[],[.ref b1],[g],none,none,none,rfl,s3,e1,Zb,.cons ⟨b1,a,xs,0,rfl,e2,s3 _ _ ha,Nat.zero_le _,hG.mono s3.tk⟩ .nil,rfl,rfl⟩,?_⟩;rintro m σ H1 ⟨acc,ps,st,v3,v4,v5,rfl,sm,hwp1,hpp1,hP,hacc,rfl⟩;have hal:acc.length+(flW st).length=2*gsz g:=by rw[<- hgw,<- hacc,List.length_append]
 have hsl:=ZeY st;have hpl:=Paired.length hP;refine⟨_,rfl,pp,_,rfl,.inl (SqL.of hpp1),_,_,rfl,rfl,_,rfl,ZbI (fun d=>?_) (fun d=>?_)⟩;rotate_left
 ·have hz:ps=[]:=by
   cases ps with
   | nil=>rfl
   | cons x l =>
    refine(d (decide_eq_true ?_)).elim;rw[List.length_reverse,List.length_cons];lia
  subst hz;cases hP;rw[show flW [] =[] from rfl,List.append_nil] at hacc;subst hacc;exact⟨_,rfl,q wp H1 sm hwp hwp1⟩
 cases hP with
 | nil=>cases d
 | @cons v g1 ps st h1 hP =>
  obtain⟨b,row,ys,n,rfl,hb,hrow,hny,hRg⟩:=h1;refine⟨fun σ' H'=>∃m',m'<2*(flW (g1::st)).length+(g1::st).length/\W m' σ' H',fun _ _ h=>h,?_⟩;rw[List.reverse_cons] at hpp1;refine⟨_,rfl,.inl ⟨rfl,_,SqL.of hpp1⟩,pp,_,.ref b,rfl,rfl,hpp1,Zem _ _,?_⟩;rw[ZeB];have k2:TK H1 (upd H1 pp (.lst ps.reverse)):=ZaB hpp1;have sm2:Zi H (upd H1 pp (.lst ps.reverse)):=sm.upd_new hpp0;have hwp2:(upd H1 pp (.lst ps.reverse)) wp=some (.lst (acc.map V.str)):=by rw[Zh npw.symm];exact hwp1
  have hpp2:(upd H1 pp (.lst ps.reverse)) pp=some (.lst ps.reverse):=Zb;have hP2:Paired (ZkX (upd H1 pp (.lst ps.reverse))) ps st:=Paired.mapP hP fun _ _ r=>r.mono k2;have hb2:=k2 _ _ hb;have hrow2:=k2 _ _ hrow;have hRg2:=hRg.mono k2;generalize upd H1 pp (.lst ps.reverse)=H2 at k2 sm2 hwp2 hpp2 hP2 hb2 hrow2 hRg2;refine⟨b,_,rfl,SqT.of hb2,rfl,_,_,rfl,_,_,rfl,rfl,?_⟩;refine⟨_,rfl,_,_,_,_,rfl,.tup hrow2,rfl,_,rfl,Za8 ?_⟩;refine⟨_,rfl,wp,_,rfl,.inl (SqL.of hwp2),_,_,rfl,rfl,_,rfl,ZbI (fun d1=>?_) (fun _=>?_)⟩
  ·have:=of_decide_eq_true d1;rw[List.length_map] at this;lia
  refine⟨_,rfl,_,rfl,row,_,rfl,.inr (SqT.of hrow2),_,_,rfl,rfl,_,rfl,ZbI (fun d1=>?_) (fun d1=>?_)⟩
  ·have d1:=of_decide_eq_true d1;have hlt:n<ys.length:=by lia
   rw[List.drop_eq_getElem_cons hlt] at hRg2;generalize hy:ys[n]=y at hRg2;have hyn:ys[n]?= some y:=by rw[List.getElem?_eq_getElem hlt,hy]
   cases hRg2 with
   | @cons p' q' t zs _ w o hp' hq' hw' ho' =>
    refine⟨_,rfl,_,rfl,row,_,_,_,rfl,rfl,SqT.of hrow2,Zbb hyn,?_⟩;refine⟨_,rfl,_,_,_,_,rfl,.tup hp',rfl,_,rfl,Za8 ?_⟩;refine⟨_,rfl,p',_,rfl,.inr (SqT.of hp'),rfl,_,rfl,?_⟩;refine Za8 ?_;refine⟨_,rfl,p',_,0,_,rfl,rfl,SqT.of hp',rfl,_,_,_,_,rfl,.str _,rfl,_,rfl,Za8 ?_⟩;rw[ZiQ] at hacc hal ⊢;rw[List.length_cons] at hal;have hsl2:=ZeY (w::o::st);rw[List.length_cons,List.length_cons] at hsl2;have hpl2:=Paired.length hP2;refine⟨_,rfl,.inl ⟨rfl,_,SqL.of hwp2⟩,_,rfl,p',_,0,_,rfl,rfl,SqT.of hp',rfl,wp,_,_,rfl,rfl,hwp2,by rw[List.length_map,sizeLine_eq];lia,?_⟩;have k3:TK H2 (upd H2 wp (.lst (acc.map V.str ++ [.str t]))):=ZaB hwp2;have sm3:Zi H (upd H2 wp (.lst (acc.map V.str ++ [.str t]))):=sm2.upd_new hwp;have hwp3:(upd H2 wp (.lst (acc.map V.str ++ [.str t]))) wp=some (.lst ((acc ++ [t]).map V.str)):=by rw[Zb,List.map_append];rfl
    have hpp3:(upd H2 wp (.lst (acc.map V.str ++ [.str t]))) pp=some (.lst ps.reverse):=by rw[Zh npw];exact hpp2
    generalize upd H2 wp (.lst (acc.map V.str ++ [.str t]))=H3 at k3 sm3 hwp3 hpp3;refine⟨_,rfl,.inl ⟨rfl,_,SqL.of hpp3⟩,_,rfl,_,rfl,_,_,rfl,rfl,(show(2:Nat)<=sizeLine from by decide),fun c1 hc1=>⟨pp,_,_,rfl,rfl,(Zi.new hc1) _ _ hpp3,by rw[List.length_reverse,sizeLine_eq];lia,?_⟩⟩;have s4:Zi H3 (upd H3 c1 (.tup [.ref row,.int ((n:Int)+1)])):=Zi.new hc1;have ec1:(upd H3 c1 (.tup [.ref row,.int ((n:Int)+1)])) c1=some (.tup [.ref row,.int ((n:Int)+1)]):=Zb;have hpp4:=s4 _ _ hpp3;have hwp4:=s4 _ _ hwp3;have sm4:=sm3.trans s4;have k4:TK H3 (upd H3 c1 (.tup [.ref row,.int ((n:Int)+1)])):=s4.tk;generalize upd H3 c1 (.tup [.ref row,.int ((n:Int)+1)])=H4 at s4 ec1 hpp4 hwp4 sm4 k4 ⊢;have k5:TK H4 (upd H4 pp (.lst (ps.reverse ++ [.ref c1]))):=ZaB hpp4;have sm5:Zi H (upd H4 pp (.lst (ps.reverse ++ [.ref c1]))):=sm4.upd_new hpp0;have hpp5:(upd H4 pp (.lst (ps.reverse ++ [.ref c1]))) pp=some (.lst (ps.reverse ++ [.ref c1])):=Zb;have hwp5:(upd H4 pp (.lst (ps.reverse ++ [.ref c1]))) wp=some (.lst ((acc ++ [t]).map V.str)):=by rw[Zh npw.symm];exact hwp4
    have tk5:TK H2 (upd H4 pp (.lst (ps.reverse ++ [.ref c1]))):=fun b x e=>k5 _ _ (k4 _ _ (k3 _ _ e));have ec5:=k5 _ _ ec1;generalize upd H4 pp (.lst (ps.reverse ++ [.ref c1]))=H5 at k5 sm5 hpp5 hwp5 tk5 ec5 ⊢;refine⟨_,rfl,.inl ⟨rfl,_,SqL.of hpp5⟩,_,rfl,p',_,1,_,rfl,rfl,SqT.of (tk5 _ _ hp'),rfl,(show(2:Nat)<=sizeLine from by decide),fun c2 hc2=>⟨pp,_,_,rfl,rfl,(Zi.new hc2) _ _ hpp5,by rw[List.length_append,List.length_reverse,sizeLine_eq];show ps.length+1<_;lia,?_⟩⟩;have s6:Zi H5 (upd H5 c2 (.tup [.ref q',.int 0])):=Zi.new hc2;have ec2:(upd H5 c2 (.tup [.ref q',.int 0])) c2=some (.tup [.ref q',.int 0]):=Zb;have hpp6:=s6 _ _ hpp5;have hwp6:=s6 _ _ hwp5;have sm6:=sm5.trans s6;have k6:TK H5 (upd H5 c2 (.tup [.ref q',.int 0])):=s6.tk;generalize upd H5 c2 (.tup [.ref q',.int 0])=H6 at s6 ec2 hpp6 hwp6 sm6 k6 ⊢;have k7:TK H6 (upd H6 pp (.lst (ps.reverse ++ [.ref c1] ++ [.ref c2]))):=ZaB hpp6;have tk7:TK H2 (upd H6 pp (.lst (ps.reverse ++ [.ref c1] ++ [.ref c2]))):=fun b x e=>k7 _ _ (k6 _ _ (tk5 _ _ e));refine⟨_,?_,acc ++ [t],.ref c2 :: .ref c1::ps,w::o::st,_,_,_,rfl,sm6.upd_new hpp0,by rw[Zh npw.symm];exact hwp6,by rw[Zb,List.reverse_cons,List.reverse_cons],.cons ⟨c2,q',zs,0,rfl,k7 _ _ ec2,tk7 _ _ hq',Nat.zero_le _,hw'.mono tk7⟩ (.cons ⟨c1,row,ys,n+1,rfl,k7 _ _ (k6 _ _ ec5),tk7 _ _ hrow2,hlt,ho'.mono tk7⟩ (Paired.mapP hP2 fun _ _ r=>r.mono tk7)),by rw[List.append_assoc];exact hacc,rfl⟩;rw[List.length_cons,List.length_cons,List.length_cons,List.length_cons];lia
  ·have hge:ys.length<=n:=by
    refine Nat.le_of_not_lt fun z=>d1 (decide_eq_true ?_);lia
   rw[List.drop_eq_nil_of_le hge] at hRg2;cases hRg2;refine⟨_,rfl,pp,_,rfl,.inl (SqL.of hpp2),_,_,rfl,rfl,_,rfl,ZbI (fun d2=>?_) (fun d2=>?_)⟩
   ·cases hP2 with
    | nil=>cases d2
    | @cons v1 g2 ps' st' h2 hP' =>
     rw[show flW (Gr.nil::g2::st')=SL::flW (g2::st') from rfl] at hacc hal ⊢;rw[List.length_cons] at hal;refine⟨_,rfl,.inl ⟨rfl,_,SqL.of hwp2⟩,wp,_,_,rfl,rfl,hwp2,by rw[List.length_map,sizeLine_eq];lia,?_⟩;have k3:TK H2 (upd H2 wp (.lst (acc.map V.str ++ [.str SL]))):=ZaB hwp2;refine⟨_,?_,acc ++ [SL],v1::ps',g2::st',_,_,_,rfl,sm2.upd_new hwp,by rw[Zb,List.map_append];rfl,by rw[Zh npw];exact hpp2,.cons (h2.mono k3) (Paired.mapP hP' fun _ _ r=>r.mono k3),by rw[List.append_assoc];exact hacc,rfl⟩;simp only[List.length_cons];lia
   ·have hz:ps=[]:=by
     cases ps with
     | nil=>rfl
     | cons x l =>
      refine(d2 (decide_eq_true ?_)).elim;rw[List.length_reverse,List.length_cons];lia
    subst hz;cases hP2;exact⟨_,by rw[show flW [] =[] from rfl];show 0<_;rw[List.length_singleton];lia,acc,[],[],_,_,_,rfl,sm2,hwp2,hpp2,.nil,hacc,rfl⟩
def wV(H:Hp)(v:V):Option (Gr Str)->Prop
 | none=>v=.non
 | some g=>∃a,v=.ref a/\H a=some (.lst ((words SL g).map V.str))
def WsV(H:Hp)(vs:List V)(G:List (Option (Gr Str))):Prop:=vs.length=G.length/\∀(k:Nat) v,vs[k]?= some v->wV H v (gO G k)
def LK(H H':Hp):Prop := ∀b xs,H b=some (.lst xs)->H' b=some (.lst xs)
theorem wV.mono{H H':Hp}(k:LK H H'){v:V}:∀{o:Option (Gr Str)},wV H v o->wV H' v o
 | none,h=>h
 | some _,⟨a,e,h1⟩=>⟨a,e,k _ _ h1⟩
theorem WsV.mono{H H':Hp}{vs:List V}{G:List (Option (Gr Str))}(h:WsV H vs G)(k:LK H H'):WsV H' vs G:=⟨h.1,fun i v e=>(h.2 i v e).mono k⟩
theorem Zi.lk{H H':Hp}(s:Zi H H'):LK H H':=fun b xs e=>s _ _ e
theorem WsV.at{H:Hp}{vs:List V}{G:List (Option (Gr Str))}(h:WsV H vs G){k:Nat}(hk:k<G.length):∃v,vs[k]?= some v/\atI vs ((k:Nat):Int)=some v/\wV H v (gO G k):=by
 have e:vs[k]?= some (vs[k]'(by rw[h.1];exact hk)):=List.getElem?_eq_getElem _;exact⟨_,e,Zbb e,h.2 k _ e⟩
def ZcX:Sp:=fun vs H Q _=>∃(a l:Addr)(f:Fm)(us:List V)(G:List (Option (Gr Str))),vs=[.ref a,.ref l]/\Form H a f/\f.n<=64/\H l=some (.lst us)/\GsV H us G/\G.length=f.n/\(∀k g,gO G k=some g->gsz g<=300) /\
 ∀(r:Addr)(ws:List V)(H':Hp),Zi H H'->H r=none->H' r=some (.lst ws)->WsV H' ws G->(∀b,V.ref b∈ws->H b=none)->Q (.ref r) H'
set_option maxHeartbeats 2000000 in
theorem Zgt(B:∀x∈ZcI,mg x=none)(g_l_list:Has P w K mg base "_law_list" ["_law_found"] 1 Zcz) (F:Fun K "_law_lists" "_law_lists" Za7 f fd):FnOk P w K mg base CX0 2 f fd ["_law_one","_law_found"] ZcX:=by
 refine F.ok Za3 (fun vs H Q E h=>?_) (fun cdv A outer s H vs Q E hr h=>?_)
 ·obtain⟨a,l,fm,us,G,rfl,_⟩:=h;rfl
 obtain⟨a,l,fm,us,G,rfl,hF,hn,hl,hG,hGl,hg3,q⟩:=h;obtain⟨h1,h2,h3,qs,ea,e2,hR⟩:=hF.ex;have hul:=hG.1;refine⟨_,(Zc (Zas (PW.pt (Zdc (ZbM (Z8 (ZC Zbf rfl (B "isinstance" (by decide)) Zaj (Za (pv 1) (Za (ZiA rfl (B "list" (by decide)) ZhR) Zd))) (fun _=>rfl))) (Zch (Zr ZkD (ZC Zu rfl (B "len" (by decide)) PySem.boot_len (Za (pv 1) Zd)) (Zw ZP (pv 0) Ze (fun _ _=>rfl)) (Zt _)))))
   (Zf (ZR ZZ))
   ZG)
  (Zc (Zo (i:=2) Za3.nd rfl (Or.inl rfl) (Zax Zd))
  (Zc (ZaY PassesOwn.never rfl (Zaa rfl (B "range" (by decide)) (Za (Zw ZP (pv 0) Ze (fun _ _=>rfl)) Zd)) (Zv (i:=3) Za3.nd rfl (Or.inl rfl))
   (Zc (Zo (i:=4) Za3.nd rfl (Or.inl rfl) ZZ)
    (Zc (Zas (Zr Za9 (Zw ZD (pv 1) (pv 3) (fun _ _=>rfl)) ZZ (Zt _))
     (Zc (Zo (i:=4) Za3.nd rfl (Or.inl rfl) (ZF g_l_list hr rfl (Za (Zw ZD (pv 1) (pv 3) (fun _ _=>rfl)) Zd)))
      (Zf (Zas (Zr ZbP (pv 4) ZZ (Zt _))
       (Zf (ZR ZZ))
       ZG)))
     ZG)
    (Zf (Zad (Zbn PySem.F.plainAttrs_list PySem.F.slot_list_append PySem.F.type_list_append ZJ (pv 2) (Za (pv 4) Zd)))))))
  (Zf (ZR (pv 2)))))),?_⟩
 refine⟨_,rfl,_,_,_,_,rfl,.lst hl,rfl,_,rfl,Za8 ?_⟩;refine⟨_,rfl,l,_,rfl,.inl (SqL.of hl),_,rfl,a,_,0,_,rfl,rfl,SqT.of ea,rfl,rfl,_,rfl,ZbI (fun d=>?_) (fun _=>?_)⟩
 ·rw[show(us.length:Nat)=fm.n by lia] at d;simp at d
 refine⟨by decide,fun rl hrl=>?_⟩;have s1:Zi H (upd H rl (.lst [])):=Zi.new hrl;refine⟨_,rfl,a,_,0,_,rfl,rfl,SqT.of (s1 _ _ ea),rfl,_,rfl,by lia,by lia,ZaT (lo:=0) (fun i σ H1=>∃(v3 v4:Option V)(ws:List V),σ =[some (.ref a),some (.ref l),some (.ref rl),v3,v4]/\Zi H H1/\H1 rl=some (.lst ws)/\ws.length=i/\(∀(k:Nat) v,ws[k]?= some v->wV H1 v (gO G k))/\∀b,V.ref b∈ws->H b=none/\b≠rl)
  ⟨none,none,[],rfl,s1,Zb,rfl,fun k v e=>(by simp at e),fun _ h=>(nomatch h)⟩ ?_ ?_⟩
 ·rintro i σ H1 hi ⟨v3,v4,ws,rfl,sm,hrl1,hwl,hws,hnew⟩;rw[Int.toNat_natCast] at hi;obtain⟨v,_,hv,hgv⟩:=(hG.mono sm.tk).at (k:=i) (by lia);have nrl:l≠rl:=fun z=>by rw[z,hrl] at hl;cases hl
  have push:∀(x:V)(H2:Hp),Zi H1 H2->wV H2 x (gO G i)->(∀b,x=.ref b->H1 b=none)->∀v4:Option V,∃(v3' v4':Option V)(ws':List V),[some (V.ref a),some (.ref l),some (.ref rl),some (V.int (0+(i:Int))),v4] =[some (.ref a),some (.ref l),some (.ref rl),v3',v4']/\Zi H (upd H2 rl (.lst (ws ++ [x])))/\(upd H2 rl (.lst (ws ++ [x]))) rl=some (.lst ws')/\ws'.length=i+1/\(∀(k:Nat) v,ws'[k]?= some v->wV (upd H2 rl (.lst (ws ++ [x]))) v (gO G k))/\∀b,V.ref b∈ws'->H b=none/\b≠rl:=by
   intro x H2 s2 hx hxn v4;refine⟨_,_,ws ++ [x],rfl,(sm.trans s2).upd_new hrl,Zb,by rw[List.length_append,hwl];rfl,fun k v e=>?_,fun b hb=>?_⟩
   ·have keep:∀{v:V}{o:Option (Gr Str)},wV H2 v o->(∀b,v=.ref b->b≠rl)->wV (upd H2 rl (.lst (ws ++ [x]))) v o:=by
     intro v o hv hb;cases o with
     | none=>exact hv
     | some g =>
      obtain⟨b,rfl,e⟩:=hv;exact⟨b,rfl,by rw[Zh (hb b rfl)];exact e⟩
    rcases Nat.lt_or_ge k ws.length with z|z
    ·rw[List.getElem?_append_left z] at e;exact keep ((hws k v e).mono (Zi.lk s2)) fun b hb=>(hnew b (by rw[<- hb];exact List.mem_of_getElem? e)).2
    ·rw[List.getElem?_append_right z] at e;have:k-ws.length=0:=by
      rcases Nat.eq_zero_or_pos (k-ws.length) with y|y
      ·exact y
      ·rw[List.getElem?_eq_none (by rw[List.length_singleton];lia)] at e;cases e
     rw[this] at e;injection e with e;subst e;rw[show k=i by lia];exact keep hx fun b hb hbr=>by
      have:=hxn b hb;rw[hbr,hrl1] at this;cases this
   ·rcases List.mem_append.mp hb with hb|hb
    ·exact hnew b hb
    ·have hb:=hxn b (List.mem_singleton.mp hb).symm;exact⟨sm.free hb,fun z=>by rw[z,hrl1] at hb;cases hb⟩
  refine⟨_,rfl,_,rfl,l,_,_,_,rfl,rfl,SqL.of (sm _ _ hl),by rw[Int.zero_add];exact hv,?_⟩;have wl:(ws.length:Nat)<sizeLine:=Zz (by lia);cases e:gO G i with
  | none =>
   rw[e] at hgv;have hgv:v=.non:=hgv;subst hgv;refine⟨rfl,_,rfl,Za8 ?_⟩;exact⟨_,rfl,.inl ⟨rfl,_,SqL.of hrl1⟩,_,rfl,rl,_,_,rfl,rfl,hrl1,wl,push .non H1 (Zi.refl _) (by rw[e];exact rfl) (fun b hb=>(nomatch hb)) _⟩
  | some g =>
   rw[e] at hgv;obtain⟨b,xs,rfl,hb,hrg⟩:=hgv;refine⟨rfl,_,rfl,Zdb ?_⟩;refine⟨_,rfl,_,rfl,l,_,_,_,rfl,rfl,SqL.of (sm _ _ hl),by rw[Int.zero_add];exact hv,b,xs,g,rfl,hb,hrg,hg3 i g e,fun r H2 s2 n2 e2'=>?_⟩;refine⟨_,rfl,rfl,_,rfl,Za8 ?_⟩;exact⟨_,rfl,.inl ⟨rfl,_,SqL.of (s2 _ _ hrl1)⟩,_,rfl,rl,_,_,rfl,rfl,s2 _ _ hrl1,wl,push (.ref r) H2 s2 (by rw[e];exact⟨r,rfl,e2'⟩) (fun b hb=>by injection hb with hb;rw[<- hb];exact n2) _⟩
 ·rintro σ H1 ⟨v3,v4,ws,rfl,sm,hrl1,hwl,hws,hnew⟩;rw[Int.toNat_natCast] at hwl;exact⟨_,rfl,q rl ws H1 sm hrl hrl1 ⟨by lia,hws⟩ fun b hb=>(hnew b hb).1⟩
theorem ZdR{k:Nat}:∀{es:List Nat},inV (iV k) (es.map iV)=decide (k∈es)
 | []=>rfl
 | e::es=>by
  show(eqV (iV e) (iV k) || inV (iV k) (es.map iV))=_;rw[ZdR];by_cases h:e=k
  ·subst h;have h1:eqV (iV e) (iV e)=true:=by simp[eqV]
   rw[h1,decide_eq_true (List.mem_cons_self ..)];rfl
  ·have h1:eqV (iV e) (iV k)=false:=by
    simp[eqV];lia
   rw[h1,Bool.false_or];by_cases h2:k∈es
   ·rw[decide_eq_true h2,decide_eq_true (List.mem_cons_of_mem _ h2)]
   ·rw[decide_eq_false h2,decide_eq_false (fun z=>(List.mem_cons.mp z).elim (fun z=>h z.symm) h2)]
theorem ZeG(es:List Nat):(es.map iV).all ZdC=true:=by
 rw[List.all_map,List.all_eq_true];intro x _;rfl
theorem Zlb{bs:List Bool}{k:Nat}{b:Bool}(h:bs[k]?= some b):atI (bs.map V.bl) ((k:Nat):Int)=some (.bl b):=Zbb (by rw[List.getElem?_map,h];rfl)
theorem ZfE{bs:List Bool}{j k:Nat}(h:bs[k]?= some true):(bs.set j true)[k]?= some true:=by
 rw[List.getElem?_set]
 split
 ·rw[if_pos (by rename_i e;rw[e];exact(List.getElem?_eq_some_iff.mp h).1)]
 ·exact h
theorem Zc3{K:PySem.W.Frag}{H:Hp}{a b:Addr}{xs ys:List Str}{neg:Bool}{Q:VK}(hA:SqL K H a (xs.map V.str))(hB:SqL K H b (ys.map V.str))(o1:OkW xs)(o2:OkW ys)(q:Q (.bl (if neg then !decide (xs=ys) else decide (xs=ys))) H):Zk7 K neg (.ref a) (.ref b) H Q:=Zhl (n:=200) hA hB o1 o2 (by decide) q
def ZdV:Sp:=fun vs H Q _=>∃(a wl:Addr)(f:Fm)(c:Cs)(ws:List V)(G:List (Option (Gr Str))),vs=[.ref a,.ref wl]/\Form H a f/\f.n<=64/\f.Res c/\LG f c G/\H wl=some (.lst ws)/\WsV H ws G/\(∀q∈f.rules,ZdT q.t)/\∀H',Zi H H'->Q (.bl true) H'
def Zk2(G:List (Option (Gr Str)))(q:Rl):Prop := ∃x y,gO G q.i=some x/\gO G q.r=some y/\gO G q.k=some (.cons q.t x y)
theorem Zj5{xs ys:List Str}(h:ys.length<xs.length):ZaK xs ys=false:=by
 unfold ZaK;rw[if_neg (by lia)];exact decide_eq_false (by lia)
set_option maxHeartbeats 4000000 in
theorem Zh8(B:∀x∈ZcI,mg x=none)(F:Fun K "_law_good" "_law_good" Zbt f fd):FnOk P w K mg base CX0 1 f fd ["_law_one","_law_lists_here"] ZdV:=by
 refine F.ok Zaq (fun vs H Q E h=>?_) (fun cdv A outer s H vs Q E hr h=>?_)
 ·obtain⟨a,wl,fm,c,ws,G,rfl,_⟩:=h;rfl
 obtain⟨a,wl,fm,c,ws,G,rfl,hF,hn,res,hL,hwl,hW,hlet,q⟩:=h;obtain⟨h1,h2,h3,qs,ea,e2,hR⟩:=hF.ex;have ok:=hF.ok;have hu:=Zb4 hr;have inv:=res.inv ok;obtain⟨D,hLp,hLa⟩:=id hL;have hGl:=hLp.len;have okg:∀k g,gO G k=some g->gsz g<=300/\okG g:=fun k g e=>⟨(hLp.sz k g e).2.2.1,(hLp.sz k g e).2.2.2⟩;refine⟨_,(Zc (Zbd (cl:=_) (n0:=2) Zaq.nd rfl (Or.inl rfl) ["_law_kind"] [("_law_one",0)] (Zaa rfl (B "range" (by decide)) (Za (Zw ZP (pv 0) Ze (fun _ _=>rfl)) Zd)) (fun _ _ _ _=>(Zv (i:=0) (show List.Nodup (["_law_kind","_law_one"]:List Str) by decide) rfl (Or.inl rfl))) (fun _ _ _ _=>(ZaI (Zdo (K:=K) rfl) (pv 0) (Zw (ZhV (K:=K) rfl) (pv 1) Ze (fun _ _=>rfl)) (by with_unfolding_all rfl))) rfl rfl (by decide) rfl (by decide) (Zbg (by(repeat' first|exact List.forall_mem_nil _|refine List.forall_mem_cons.mpr ⟨?_,?_⟩) <;> rfl)) (ZaV (by(repeat' first|exact List.forall_mem_nil _|refine List.forall_mem_cons.mpr ⟨?_,?_⟩) <;> first|(intro h;exact⟨_,rfl⟩)|(intro h;exact absurd h (by decide)))) (fun _=>by(repeat' first|exact List.forall_mem_nil _|refine List.forall_mem_cons.mpr ⟨?_,?_⟩) <;> exact⟨rfl,rfl,Or.inl rfl⟩) (fun _=>rfl) rfl)
  (Zc (ZaY PassesOwn.never rfl (ZbR (Zw ZP (pv 0) Ze (fun _ _=>rfl))) (Zv (i:=3) Zaq.nd rfl (Or.inl rfl))
   (Zf (Zas (Zr (ZbL hu) (Zw ZD (pv 1) (pv 3) (fun _ _=>rfl)) (Zax Zd) (Zt _))
     (Zf (ZR ZcY))
     ZG)))
  (Zc (ZaY PassesOwn.never rfl (ZbR (Zw ZP (pv 0) Ze (fun _ _=>rfl))) (ZfR rfl (Zae (Zv (i:=3) Zaq.nd rfl (Or.inl rfl)) (Zae (Zv (i:=4) Zaq.nd rfl (Or.inl rfl)) (Zae (Zv (i:=5) Zaq.nd rfl (Or.inl rfl)) (Zae (Zv (i:=6) Zaq.nd rfl (Or.inl rfl)) ZdA)))))
   (Zf (Zas (PW.pt (ZcJ (Zr Za9 (Zw ZD (pv 1) (pv 5) (fun _ _=>rfl)) ZZ (Zt _)) (ZbD (Zr Za9 (Zw ZD (pv 1) (pv 6) (fun _ _=>rfl)) ZZ (Zt _)))))
     (Zc (Zo (i:=7) Zaq.nd rfl (Or.inl rfl) (Zk ZfX (Zk ZfX (Zk ZfX (Zax (Za (pv 4) Zd)) (Zw ZD (pv 1) (pv 5) (fun _ _=>rfl))) (Zax (Za Zcl Zd))) (Zw ZD (pv 1) (pv 6) (fun _ _=>rfl))))
      (Zc (Zo (i:=8) Zaq.nd rfl (Or.inl rfl) (Zw ZD (pv 1) (pv 3) (fun _ _=>rfl)))
      (Zf (Zas (Zr ZjE (ZC Zu rfl (B "len" (by decide)) PySem.boot_len (Za (pv 7) Zd)) Ze (Zt _))
       (Zc (Zas (PW.pt (Zdc (Zr ZbP (pv 8) ZZ (Zt _)) (Zch (Zr (Zkk hu) (ZK (Za (ZC Zu rfl (B "len" (by decide)) PySem.boot_len (Za (pv 7) Zd)) (Za (pv 7) Zd))) (ZK (Za (ZC Zu rfl (B "len" (by decide)) PySem.boot_len (Za (pv 8) Zd)) (Za (pv 8) Zd))) (Zt _)))))
         (Zf (ZR ZcY))
         ZG)
        (Zf (Zas (Zr (ZfN hu) (pv 7) (pv 8) (Zt _))
         (Zf (Zc2 ZcY (Zds (pv 2) (pv 3) set_list)))
         ZG)))
       ZG))))
     ZG)))
  (Zc (ZaY PassesOwn.never rfl (Zaa rfl (B "range" (by decide)) (Za (Zw ZP (pv 0) Ze (fun _ _=>rfl)) Zd)) (Zv (i:=3) Zaq.nd rfl (Or.inl rfl))
   (Zf (Zas (PW.pt (ZcJ (Zr Za9 (Zw ZD (pv 1) (pv 3) (fun _ _=>rfl)) ZZ (Zt _)) (ZbD (ZbM (Z8 (Zw ZD (pv 2) (pv 3) (fun _ _=>rfl)) (fun _=>rfl))))))
     (Zf (ZR ZcY))
     ZG)))
  (Zf (ZR ZcY)))))),?_⟩
 refine⟨_,rfl,a,_,0,_,rfl,rfl,SqT.of ea,rfl,(fm.n:Int),rfl,by lia,by lia,fun pb hpb=>?_⟩;refine Za2 (lo:=0) (n:=(fm.n:Int).toNat) (p:=pb) (fun i ys σ H2=>∃(v0:Option V),σ =[v0,some (.ref a)]/\Zi H H2/\H2 pb=some (.lst ys)/\ys=((List.range i).map fun k=>decide (k∈fm.ends)).map V.bl)
  ⟨none,rfl,Zi.new hpb,Zb,rfl⟩ ?_ ?_ ?_
 ·rintro i ys σ H2 _ ⟨v0,_,_,h,_⟩;exact h
 ·rintro i ys σ H2 hi ⟨v0,rfl,sm,hp,rfl⟩;refine⟨_,rfl,_,rfl,a,_,2,_,rfl,rfl,SqT.of (sm _ _ ea),rfl,h2,_,rfl,.inr (SqT.of (sm _ _ e2)),rfl,ZeG _,hp,?_,CW.next hi ⟨_,rfl,sm.upd_new hpb,Zb,?_⟩⟩
  ·rw[List.length_map,List.length_map,List.length_range];exact Zz (by lia)
  ·have e:inV (V.int (0+(i:Int))) (fm.ends.map iV)=decide (i∈fm.ends):=by
    rw[show(0:Int)+(i:Int)=(i:Int) by lia];exact ZdR
   show _ ++ [V.bl (inV (V.int (0+(i:Int))) (fm.ends.map iV))]=_;rw[e,List.range_succ,List.map_append,List.map_append];rfl
 rintro ys σ H2 ⟨v0,rfl,sm2,hp2,rfl⟩;rw[Int.toNat_natCast] at hp2;refine⟨_,rfl,a,_,2,_,rfl,rfl,SqT.of (sm2 _ _ ea),rfl,h2,rfl,⟨_,SqT.of (sm2 _ _ e2)⟩,Zca (K:=K) (a:=h2) (xs:=fm.ends.map iV) (fun i σ H3=>∃v3:Option V,σ =[some (.ref a),some (.ref wl),some (.ref pb),v3,none,none,none,none,none]/\Zi H H3/\H3 pb=some (.lst (((List.range fm.n).map fun k=>decide (k∈fm.ends)).map V.bl)))
  ⟨none,rfl,sm2,hp2⟩ ?_ ?_ ?_⟩
 ·rintro i σ H3 _ ⟨v3,_,sm,_⟩;exact SqT.of (sm _ _ e2)
 ·rintro i x σ H3 hx ⟨v3,rfl,sm,hp3⟩;rw[List.getElem?_map] at hx;obtain⟨k,hk,rfl⟩:=Option.map_eq_some_iff.mp hx;have hke:=List.mem_of_getElem? hk;have hkn:=ok.e k hke;obtain⟨g,eg,hz⟩:=hL.got (inv.zero k hke) (by lia);have:=ZbJ hz;subst this;obtain⟨v,_,hv,hwv⟩:=(hW.mono (Zi.lk sm)).at (k:=k) (by lia);rw[eg] at hwv;obtain⟨b,rfl,hb⟩:=hwv;refine⟨_,rfl,_,rfl,wl,_,_,_,rfl,rfl,SqL.of (sm _ _ hwl),hv,by decide,fun nl hnl=>⟨b,nl,_,rfl,rfl,SqL.of ((Zi.new hnl) _ _ hb),SqL.of Zb,_,rfl,Za8 ⟨_,rfl,sm.trans (Zi.new hnl),(Zi.new hnl) _ _ hp3⟩⟩⟩
 rintro σ H3 ⟨v3,rfl,sm3,hp3⟩;refine⟨_,rfl,a,_,3,_,rfl,rfl,SqT.of (sm3 _ _ ea),rfl,h3,rfl,⟨_,SqT.of (sm3 _ _ hR.1)⟩,Zca (K:=K) (a:=h3) (xs:=qs.map V.ref) (fun i σ H4=>∃(v3 v4 v5 v6 v7 v8:Option V)(R:List Bool),σ =[some (.ref a),some (.ref wl),some (.ref pb),v3,v4,v5,v6,v7,v8]/\Zi H H4/\H4 pb=some (.lst (R.map V.bl))/\R.length=fm.n/\(∀k∈fm.ends,R[k]?= some true)/\∀q∈fm.rules.take i,Zk2 G q->R[q.k]?= some true)
  ⟨_,_,_,_,_,_,_,rfl,sm3,hp3,by rw[List.length_map,List.length_range],fun k hk=>?_,fun _ h=>(nomatch h)⟩ ?_ ?_ ?_⟩
 ·rw[List.getElem?_map,List.getElem?_range (ok.e k hk)];show some (decide (k∈fm.ends))=_;rw[decide_eq_true hk]
 ·rintro i σ H4 _ ⟨_,_,_,_,_,_,_,_,sm,_⟩;exact SqT.of (sm _ _ hR.1)
 ·rintro i x σ H4 hx ⟨v3,v4,v5,v6,v7,v8,R,rfl,sm,hp4,hRl,hRe,hRq⟩;rw[List.getElem?_map] at hx;obtain⟨p,hp,rfl⟩:=Option.map_eq_some_iff.mp hx;have hi:=(List.getElem?_eq_some_iff.mp hp).1;have hir:i<fm.rules.length:=by rw[<- hR.2.1];exact hi
  obtain⟨q0,hq0⟩:∃q0,fm.rules[i]?= some q0:=⟨_,List.getElem?_eq_getElem hir⟩;have hqm:=List.mem_of_getElem? hq0;have ept:=hR.2.2 i p q0 hp hq0;obtain⟨b1,b2,b3⟩:=ok.q q0 hqm;have tk1:=take_snoc hq0;refine⟨p,_,rfl,SqT.of (sm _ _ ept),rfl,_,_,rfl,_,_,rfl,_,_,rfl,_,_,rfl,rfl,?_⟩;have skip : ¬ Zk2 G q0->∀(w3 w4 w5 w6 w7 w8:Option V)(H5:Hp),Zi H4 H5->∃(v3 v4 v5 v6 v7 v8:Option V)(R:List Bool),[some (V.ref a),some (.ref wl),some (.ref pb),w3,w4,w5,w6,w7,w8] =[some (.ref a),some (.ref wl),some (.ref pb),v3,v4,v5,v6,v7,v8]/\Zi H H5/\H5 pb=some (.lst (R.map V.bl))/\R.length=fm.n/\(∀k∈fm.ends,R[k]?= some true)/\∀q∈fm.rules.take (i+1),Zk2 G q->R[q.k]?= some true:=fun no w3 w4 w5 w6 w7 w8 H5 s5=>⟨w3,w4,w5,w6,w7,w8,R,rfl,sm.trans s5,s5 _ _ hp4,hRl,hRe,fun q hq hh=>by
    rw[tk1] at hq;rcases List.mem_append.mp hq with hq|hq
    ·exact hRq q hq hh
    ·rw[List.mem_singleton.mp hq] at hh;exact(no hh).elim⟩
  have hW4:=hW.mono (Zi.lk sm);obtain⟨u1,_,hu1,hw1⟩:=hW4.at (k:=q0.i) (by lia);obtain⟨u2,_,hu2,hw2⟩:=hW4.at (k:=q0.r) (by lia);obtain⟨u0,_,hu0,hw0⟩:=hW4.at (k:=q0.k) (by lia);refine⟨_,rfl,_,rfl,wl,_,_,_,rfl,rfl,SqL.of (sm _ _ hwl),hu1,rfl,_,rfl,?_⟩;cases g1:gO G q0.i with
  | none =>
   rw[g1] at hw1;obtain rfl:u1=.non:=hw1;exact Za8 (Za8 (skip (fun⟨x,y,e,_⟩=>by rw[g1] at e;cases e) _ _ _ _ _ _ _ (Zi.refl _)))
  | some gx =>
  rw[g1] at hw1;obtain⟨c1,rfl,hc1⟩:=hw1;refine Zdb ⟨_,rfl,_,rfl,wl,_,_,_,rfl,rfl,SqL.of (sm _ _ hwl),hu2,rfl,_,rfl,?_⟩;cases g2:gO G q0.r with
  | none =>
   rw[g2] at hw2;obtain rfl:u2=.non:=hw2;exact Za8 (skip (fun⟨x,y,_,e,_⟩=>by rw[g2] at e;cases e) _ _ _ _ _ _ _ (Zi.refl _))
  | some gy =>
  rw[g2] at hw2;obtain⟨c2,rfl,hc2⟩:=hw2;obtain⟨zx,okx⟩:=okg _ _ g1;obtain⟨zy,oky⟩:=okg _ _ g2;have lx:=Zap gx;have ly:=Zap gy;refine Zdb ?_;refine⟨_,rfl,(show(1:Nat)<=sizeLine from by decide),fun l1 hl1=>?_⟩;have s1:Zi H4 (upd H4 l1 (.lst [.str q0.t])):=Zi.new hl1;refine⟨_,rfl,_,rfl,wl,_,_,_,rfl,rfl,SqL.of (s1 _ _ (sm _ _ hwl)),hu1,l1,c1,_,_,rfl,rfl,Zb,s1 _ _ hc1,by rw[List.length_map,sizeLine_eq,List.length_singleton];lia,fun l2 hl2=>?_⟩;have s2:=s1.trans (Zi.new (o:=.lst ([V.str q0.t]++(words SL gx).map V.str)) hl2);refine⟨(show(1:Nat)<=sizeLine from by decide),fun l3 hl3=>?_⟩;have s3:=s2.trans (Zi.new (o:=.lst [V.str SL]) hl3);refine⟨l2,l3,_,_,rfl,rfl,(Zi.new hl3) _ _ Zb,Zb,by rw[List.length_append,List.length_map,sizeLine_eq,List.length_singleton,List.length_singleton];lia,fun l4 hl4=>?_⟩;have s4:=s3.trans (Zi.new (o:=.lst ([V.str q0.t]++(words SL gx).map V.str ++ [V.str SL])) hl4);refine⟨_,rfl,_,rfl,wl,_,_,_,rfl,rfl,SqL.of (s4 _ _ (sm _ _ hwl)),hu2,l4,c2,_,_,rfl,rfl,Zb,s4 _ _ hc2,by rw[List.length_append,List.length_append,List.length_map,List.length_map,sizeLine_eq,List.length_singleton,List.length_singleton];lia,fun l5 hl5=>?_⟩;have s5:=s4.trans (Zi.new (o:=.lst ([V.str q0.t]++(words SL gx).map V.str ++ [V.str SL]++(words SL gy).map V.str)) hl5);have e5:(upd (upd (upd (upd (upd H4 l1 (.lst [.str q0.t])) l2 (.lst ([V.str q0.t]++(words SL gx).map V.str))) l3 (.lst [V.str SL])) l4 (.lst ([V.str q0.t]++(words SL gx).map V.str ++ [V.str SL]))) l5 (.lst ([V.str q0.t]++(words SL gx).map V.str ++ [V.str SL]++(words SL gy).map V.str))) l5=some (.lst ((words SL (.cons q0.t gx gy)).map V.str)):=by
   rw[Zb];show _=some (HO.lst ((q0.t::(words SL gx++SL::words SL gy)).map V.str));rw[List.map_cons,List.map_append,List.map_cons,List.append_assoc,List.append_assoc];rfl
  generalize upd (upd (upd (upd (upd H4 l1 (.lst [.str q0.t])) l2 (.lst ([V.str q0.t]++(words SL gx).map V.str))) l3 (.lst [V.str SL])) l4 (.lst ([V.str q0.t]++(words SL gx).map V.str ++ [V.str SL]))) l5 (.lst ([V.str q0.t]++(words SL gx).map V.str ++ [V.str SL]++(words SL gy).map V.str))=H5 at s5 e5 ⊢;have lw:(words SL (.cons q0.t gx gy)).length=2*(1+gsz gx+gsz gy):=Zap _;refine⟨_,rfl,_,rfl,wl,_,_,_,rfl,rfl,SqL.of (s5 _ _ (sm _ _ hwl)),hu0,?_⟩;refine⟨_,rfl,l5,_,rfl,.inl (SqL.of e5),_,_,rfl,rfl,_,rfl,ZbI (fun d=>?_) (fun d=>?_)⟩;rotate_left
  ·refine skip (fun⟨x,y,e1,e2,e3⟩=>d (decide_eq_true ?_)) _ _ _ _ _ _ _ s5;rw[g1] at e1;rw[g2] at e2;injection e1 with e1;injection e2 with e2;subst e1 e2;have:=(okg _ _ e3).1;have:1+gsz gx+gsz gy<=300:=this;rw[List.length_map,lw];lia
  have d:=of_decide_eq_true d;rw[List.length_map,lw] at d;have hcx:=(hLp.sz _ _ g1).2.1;have hcy:=(hLp.sz _ _ g2).2.1;obtain⟨m,hm,hm2⟩:=res.rule hqm hcx hcy;obtain⟨g0,eg0,hg0⟩:=hL.got hm (by lia);rw[eg0] at hw0;obtain⟨c0,rfl,hc0⟩:=hw0;obtain⟨z0,ok0⟩:=okg _ _ eg0;have okw:okG (.cons q0.t gx gy):=okG.cons (hlet q0 hqm) okx oky;refine⟨_,rfl,rfl,_,rfl,Za8 ?_⟩;refine⟨_,rfl,l5,_,rfl,.inl (SqL.of e5),_,rfl,(show(2:Nat)<=sizeLine from by decide),fun t1 ht1=>?_⟩;have s6:Zi H5 (upd H5 t1 (.tup [.int (((words SL (.cons q0.t gx gy)).map V.str).length:Nat),.ref l5])):=Zi.new ht1;refine⟨_,rfl,c0,_,rfl,.inl (SqL.of (s6 _ _ (s5 _ _ hc0))),_,rfl,(show(2:Nat)<=sizeLine from by decide),fun t2 ht2=>?_⟩;have s7:=s6.trans (Zi.new (o:=.tup [.int (((words SL g0).map V.str).length:Nat),.ref c0]) ht2);have r1:Zat (upd (upd H5 t1 (.tup [.int (((words SL (.cons q0.t gx gy)).map V.str).length:Nat),.ref l5])) t2 (.tup [.int (((words SL g0).map V.str).length:Nat),.ref c0])) t1 l5 (words SL (.cons q0.t gx gy)):=⟨s7 _ _ e5,by rw[(Zi.new ht2) _ _ Zb,List.length_map]⟩;have r2:Zat (upd (upd H5 t1 (.tup [.int (((words SL (.cons q0.t gx gy)).map V.str).length:Nat),.ref l5])) t2 (.tup [.int (((words SL g0).map V.str).length:Nat),.ref c0])) t2 c0 (words SL g0):=⟨s7 _ _ (s5 _ _ hc0),by rw[Zb,List.length_map]⟩;obtain⟨dd,ee,k1,k2,k3,k4,k5,k6⟩:=ZeR (K:=K) r1 r2 okw.2 ok0.2;have nob:ZaK (words SL (.cons q0.t gx gy)) (words SL g0)=false:=by
   rcases Nat.lt_or_ge (gsz g0) (1+gsz gx+gsz gy) with z|z
   ·refine Zj5 ?_;rw[lw,Zap];lia
   ·exact hLp.min _ _ eg0 q0 hqm rfl gx gy g1 g2 (by lia)
  rw[nob] at k6;refine⟨dd,ee,_,k1,k2,k3,k4,k5,k6,_,rfl,Za8 ?_⟩;have s57:=s5.trans s7;refine⟨_,rfl,_,rfl,Zc3 (SqL.of (s7 _ _ e5)) (SqL.of (s7 _ _ (s5 _ _ hc0))) okw.2 ok0.2 ⟨_,rfl,ZbI (fun de=>?_) (fun de=>?_)⟩⟩
  ·have de:words SL (.cons q0.t gx gy)=words SL g0:=of_decide_eq_true de;refine⟨_,rfl,_,rfl,pb,_,_,_,rfl,rfl,s57 _ _ hp4,ZcH (by rw[List.length_map];lia),?_⟩;refine⟨_,_,_,_,_,_,R.set q0.k true,rfl,(sm.trans s57).upd_new hpb,by rw[Zb,List.map_set],by rw[List.length_set];exact hRl,fun k hk=>ZfE (hRe k hk),fun q hq hh=>?_⟩;rw[tk1] at hq;rcases List.mem_append.mp hq with hq|hq
   ·exact ZfE (hRq q hq hh)
   ·rw[List.mem_singleton.mp hq,List.getElem?_set,if_pos rfl,if_pos (by lia)]
  ·refine skip (fun⟨x,y,e1,e2,e3⟩=>de (decide_eq_true ?_)) _ _ _ _ _ _ _ s57;rw[g1] at e1;rw[g2] at e2;injection e1 with e1;injection e2 with e2;subst e1 e2;rw[eg0] at e3;injection e3 with e3;rw[e3]
 rintro σ H4 ⟨v3,v4,v5,v6,v7,v8,R,rfl,sm,hp4,hRl,hRe,hRq⟩;have hRq':∀q∈fm.rules,Zk2 G q->R[q.k]?= some true:=by
  rw[List.take_of_length_le (by rw[List.length_map,hR.2.1];exact Nat.le_refl _)] at hRq;exact hRq
 refine⟨_,rfl,a,_,0,_,rfl,rfl,SqT.of (sm _ _ ea),rfl,_,rfl,by lia,by lia,ZaT (lo:=0) (fun i σ H5=>∃v3:Option V,σ =[some (.ref a),some (.ref wl),some (.ref pb),v3,v4,v5,v6,v7,v8]/\H5=H4)
  ⟨_,rfl,rfl⟩ ?_ ?_⟩
 ·rintro i σ H5 hi ⟨v3,rfl,rfl⟩;rw[Int.toNat_natCast] at hi;obtain⟨u0,_,hu0,hw0⟩:=(hW.mono (Zi.lk sm)).at (k:=i) (by lia);refine⟨_,rfl,_,rfl,wl,_,_,_,rfl,rfl,SqL.of (sm _ _ hwl),by rw[Int.zero_add];exact hu0,rfl,_,rfl,?_⟩;cases g1:gO G i with
  | none =>
   rw[g1] at hw0;obtain rfl:u0=.non:=hw0;exact Za8 (Za8 ⟨_,rfl,rfl⟩)
  | some g =>
   rw[g1] at hw0;obtain⟨c1,rfl,hc1⟩:=hw0;have hit:R[i]?= some true:=by
    rcases hLp.way i g g1 with h|⟨q,hq,hqk,x,y,ex,ey,eg⟩
    ·exact hRe i h
    ·rw[<- hqk];exact hRq' q hq ⟨x,y,ex,ey,by rw[hqk,g1,eg]⟩
   exact Zdb ⟨_,rfl,_,rfl,pb,_,_,.bl true,rfl,rfl,SqL.of hp4,by rw[Int.zero_add];exact Zlb hit,true,rfl,Za8 ⟨_,rfl,rfl⟩⟩
 ·rintro σ H5 ⟨v3,rfl,rfl⟩;exact q _ sm
def ZdS:Sp:=fun vs H Q _=>∃(a:Addr)(f:Fm)(c:Cs)(ss:List Nat),vs=[.ref a]/\Form H a f/\f.n<=64/\f.Res c/\Sts H a ss/\(∀s∈ss,s<f.n)/\ss.length<=100 /\
 ((∃s∈ss,at_ c s≠none)->∀H',Zi H H'->Q (.bl true) H')/\((∀s∈ss,at_ c s=none)->∀H',Zi H H'->Q (.bl false) H')
def isB(c:Cs):List V:=c.map fun x=>V.bl x.isSome
theorem ZhZ{c:Cs}{k:Nat}(h:k<c.length):atI (isB c) ((k:Nat):Int)=some (.bl (at_ c k).isSome):=by
 refine Zbb ?_;unfold isB at_;rw[List.getElem?_map,List.getElem?_eq_getElem h,List.getD_eq_getElem?_getD,List.getElem?_eq_getElem h];rfl
theorem Ziz{c:Cs}{q:Rl}:(low iD c q).isSome=((at_ c q.i).isSome&&(at_ c q.r).isSome):=by
 unfold low;show(above (at_ c q.i) (at_ c q.r)).isSome=_;cases at_ c q.i <;> cases at_ c q.r <;> rfl
theorem Zim{c:Cs}{q:Rl}(hk:q.k<c.length):isB (step1 iD c q)=if((at_ c q.i).isSome&&(at_ c q.r).isSome)=true then(isB c).set q.k (.bl true) else isB c:=by
 rw[<- Ziz];unfold step1;cases hl:low iD c q with
 | none=>rfl
 | some v =>
  rw[if_pos (show(some v:Option Nat).isSome=true from rfl)]
  split
  ·unfold isB;rw[List.map_set];rfl
  ·rename_i hb
   have hs:(at_ c q.k).isSome=true:=by
    cases e:at_ c q.k with
    | none=>rw[e] at hb;exact(hb rfl).elim
    | some _=>rfl
   refine List.ext_getElem? fun j=>?_;rw[List.getElem?_set]
   split
   ·rename_i z
    subst z;have hlen:q.k<(isB c).length:=by unfold isB;rw[List.length_map];exact hk
    rw[if_pos hlen];unfold isB at_ at *;rw[List.getElem?_map,List.getElem?_eq_getElem hk];rw[List.getD_eq_getElem?_getD,List.getElem?_eq_getElem hk] at hs;show some (V.bl (c[q.k]).isSome)=_;rw[show(c[q.k]).isSome=true from hs]
   ·rfl
theorem Zin(f:Fm)(ok:f.Ok):isB f.init=((List.range f.n).map fun k=>decide (k∈f.ends)).map V.bl:=by
 have hl:f.init.length=f.n:=f.init_len;refine List.ext_getElem? fun j=>?_;unfold isB;rw[List.getElem?_map,List.getElem?_map,List.getElem?_map];rcases Nat.lt_or_ge j f.n with z|z
 ·rw[List.getElem?_eq_getElem (by rw[hl];exact z),List.getElem?_range z];have e:at_ f.init j=if j∈f.ends then some 0 else at_ (List.replicate f.n none) j:=Zb6 (n:=f.n) f.ends _ List.length_replicate (fun e he=>ok.e e he) j
  have e2:at_ (List.replicate f.n (none:Option Nat)) j=none:=by
   unfold at_;rw[List.getD_eq_getElem?_getD,List.getElem?_replicate]
   split <;> rfl
  rw[e2] at e;have e3:f.init[j]'(by rw[hl];exact z)=at_ f.init j:=by
   unfold at_;rw[List.getD_eq_getElem?_getD,List.getElem?_eq_getElem (by rw[hl];exact z)];rfl
  show some (V.bl (f.init[j]'(by rw[hl];exact z)).isSome)=some (V.bl (decide (j∈f.ends)));rw[e3,e];by_cases h:j∈f.ends
  ·rw[if_pos h,decide_eq_true h];rfl
  ·rw[if_neg h,decide_eq_false h];rfl
 ·rw[List.getElem?_eq_none (by rw[hl];exact z),List.getElem?_eq_none (by rw[List.length_range];exact z)];rfl
set_option maxHeartbeats 2000000 in
theorem Zdd(B:∀x∈ZcI,mg x=none)(F:Fun K "_law_some_live" "_law_some_live" Zai f fd):FnOk P w K mg base CX0 1 f fd ["_law_one"] ZdS:=by
 refine F.ok ZaD (fun vs H Q E h=>?_) (fun cdv A outer s H vs Q E hr h=>?_)
 ·obtain⟨a,fm,c,ss,rfl,_⟩:=h;rfl
 obtain⟨a,fm,c,ss,rfl,hF,hn,res,⟨x1,y1,z1,hst,ea',eh⟩,hss,hsl,q1,q2⟩:=h;obtain⟨h1,h2,h3,qs,ea,e2,hR⟩:=hF.ex;have ok:=hF.ok;have hu:=Zb4 hr;have hin:fm.init.length=fm.n:=fm.init_len;have hcl:c.length=fm.n:=(res.inv ok).len;refine⟨_,(Zc (Zo (i:=1) ZaD.nd rfl (Or.inr rfl) (Zfs (cl:=_) ["_law_kind"] [("_law_one",0)] (Zaa rfl (B "range" (by decide)) (Za (Zw ZP (pv 0) Ze (fun _ _=>rfl)) Zd)) (fun _ _ _ _=>(Zv (i:=0) (show List.Nodup (["_law_kind","_law_one"]:List Str) by decide) rfl (Or.inl rfl))) (fun _ _ _ _=>(ZaI (Zdo (K:=K) rfl) (pv 0) (Zw (ZhV (K:=K) rfl) (pv 1) Ze (fun _ _=>rfl)) (by with_unfolding_all rfl))) rfl rfl (by decide) rfl (by decide) (Zbg (by(repeat' first|exact List.forall_mem_nil _|refine List.forall_mem_cons.mpr ⟨?_,?_⟩) <;> rfl)) (ZaV (by(repeat' first|exact List.forall_mem_nil _|refine List.forall_mem_cons.mpr ⟨?_,?_⟩) <;> first|(intro h;exact⟨_,rfl⟩)|(intro h;exact absurd h (by decide)))) (fun _=>by(repeat' first|exact List.forall_mem_nil _|refine List.forall_mem_cons.mpr ⟨?_,?_⟩) <;> exact⟨rfl,rfl,Or.inl rfl⟩) (fun _=>rfl)))
  (Zc (ZaY PassesOwn.never rfl (Zaa rfl (B "range" (by decide)) (Za (Zw ZP (pv 0) Ze (fun _ _=>rfl)) Zd)) (Zv (i:=2) ZaD.nd rfl (Or.inl rfl))
   (Zf (ZaY PassesOwn.never rfl (ZbR (Zw ZP (pv 0) Ze (fun _ _=>rfl))) (Zv (i:=3) ZaD.nd rfl (Or.inl rfl))
     (Zf (Zas (PW.pt (ZcJ (Z8 (Zw ZD (pv 1) (Zw ZP (pv 3) Ze (fun _ _=>rfl)) (fun _ _=>rfl)) (fun _=>rfl)) (ZbD (Z8 (Zw ZD (pv 1) (Zw ZP (pv 3) Ze (fun _ _=>rfl)) (fun _ _=>rfl)) (fun _=>rfl)))))
       (Zf (Zc2 ZcY (Zds (pv 1) (Zw ZP (pv 3) Ze (fun _ _=>rfl)) set_list)))
       ZG)))))
  (Zf (ZR (ZaI (ZbL hu) (ZgA (cl:=_) ["_law_kind"] [("_law_good_here",1)] (ZbR (Zw ZP (pv 0) Ze (fun _ _=>rfl))) (fun _ _ _ _=>(Zv (i:=0) (show List.Nodup (["_law_kind","_law_good_here"]:List Str) by decide) rfl (Or.inl rfl))) (fun _ _ _ _=>(Zc5 (K:=K) rfl (Zw (ZaX (K:=K) rfl) (pv 1) (pv 0) (fun _ _=>rfl)) (fun _=>rfl))) (fun _ _ _ _=>(pv 0)) rfl rfl (by decide) rfl (by decide) (Zbg (by(repeat' first|exact List.forall_mem_nil _|refine List.forall_mem_cons.mpr ⟨?_,?_⟩) <;> rfl)) (ZaV (by(repeat' first|exact List.forall_mem_nil _|refine List.forall_mem_cons.mpr ⟨?_,?_⟩) <;> first|(intro h;exact⟨_,rfl⟩)|(intro h;exact absurd h (by decide)))) (fun _=>by(repeat' first|exact List.forall_mem_nil _|refine List.forall_mem_cons.mpr ⟨?_,?_⟩) <;> exact⟨rfl,rfl,Or.inl rfl⟩) (fun _=>rfl)) (Zax Zd) (Zt _)))))),?_⟩
 refine⟨_,rfl,a,_,0,_,rfl,rfl,SqT.of ea,rfl,(fm.n:Int),rfl,by lia,by lia,fun pb hpb=>?_⟩;refine Za2 (lo:=0) (n:=(fm.n:Int).toNat) (p:=pb) (fun i ys σ H2=>∃(v0:Option V),σ =[v0,some (.ref a)]/\Zi H H2/\H2 pb=some (.lst ys)/\ys=((List.range i).map fun k=>decide (k∈fm.ends)).map V.bl)
  ⟨none,rfl,Zi.new hpb,Zb,rfl⟩ ?_ ?_ ?_
 ·rintro i ys σ H2 _ ⟨v0,_,_,h,_⟩;exact h
 ·rintro i ys σ H2 hi ⟨v0,rfl,sm,hp,rfl⟩;refine⟨_,rfl,_,rfl,a,_,2,_,rfl,rfl,SqT.of (sm _ _ ea),rfl,h2,_,rfl,.inr (SqT.of (sm _ _ e2)),rfl,ZeG _,hp,?_,CW.next hi ⟨_,rfl,sm.upd_new hpb,Zb,?_⟩⟩
  ·rw[List.length_map,List.length_map,List.length_range];exact Zz (by lia)
  ·have e:inV (V.int (0+(i:Int))) (fm.ends.map iV)=decide (i∈fm.ends):=by
    rw[show(0:Int)+(i:Int)=(i:Int) by lia];exact ZdR
   show _ ++ [V.bl (inV (V.int (0+(i:Int))) (fm.ends.map iV))]=_;rw[e,List.range_succ,List.map_append,List.map_append];rfl
 rintro ys σ H2 ⟨v0,rfl,sm2,hp2,rfl⟩;rw[Int.toNat_natCast,<- Zin fm ok] at hp2;refine⟨_,rfl,a,_,0,_,rfl,rfl,SqT.of (sm2 _ _ ea),rfl,_,rfl,by lia,by lia,ZaT (lo:=0) (fun i σ H3=>∃(v2 v3:Option V),σ =[some (.ref a),some (.ref pb),v2,v3]/\Zi H H3/\H3 pb=some (.lst (isB (iter iD fm.rules i fm.init))))
  ⟨none,none,rfl,sm2,hp2⟩ ?_ ?_⟩
 ·rintro i σ H3 hi ⟨v2,v3,rfl,sm,hp3⟩;refine⟨_,rfl,a,_,3,_,rfl,rfl,SqT.of (sm _ _ ea),rfl,h3,rfl,⟨_,SqT.of (sm _ _ hR.1)⟩,Zca (K:=K) (a:=h3) (xs:=qs.map V.ref) (fun j σ H4=>∃v3:Option V,σ =[some (.ref a),some (.ref pb),some (.int (0+(i:Int))),v3]/\Zi H H4/\H4 pb=some (.lst (isB (pass iD (fm.rules.take j) (iter iD fm.rules i fm.init)))))
   ⟨_,rfl,sm,hp3⟩ ?_ ?_ ?_⟩
  ·rintro j σ H4 _ ⟨_,_,sm,_⟩;exact SqT.of (sm _ _ hR.1)
  ·rintro j x σ H4 hx ⟨v3,rfl,sm,hp4⟩;rw[List.getElem?_map] at hx;obtain⟨p,hp,rfl⟩:=Option.map_eq_some_iff.mp hx;have hi:=(List.getElem?_eq_some_iff.mp hp).1;have hir:j<fm.rules.length:=by rw[<- hR.2.1];exact hi
   obtain⟨q0,hq0⟩:∃q0,fm.rules[j]?= some q0:=⟨_,List.getElem?_eq_getElem hir⟩;have hqm:=List.mem_of_getElem? hq0;have ept:=hR.2.2 j p q0 hp hq0;obtain⟨b1,b2,b3⟩:=ok.q q0 hqm;have hlen:(pass iD (fm.rules.take j) (iter iD fm.rules i fm.init)).length=fm.n:=by rw[ZaL,ZaP];exact hin
   have nx:pass iD (fm.rules.take (j+1)) (iter iD fm.rules i fm.init)=step1 iD (pass iD (fm.rules.take j) (iter iD fm.rules i fm.init)) q0:=by
    unfold pass;rw[take_snoc hq0,List.foldl_append];rfl
   rw[nx,Zim (by rw[hlen];exact b1)];generalize pass iD (fm.rules.take j) (iter iD fm.rules i fm.init)=cs at hp4 hlen ⊢;refine⟨_,rfl,_,rfl,p,_,2,_,rfl,rfl,SqT.of (sm _ _ ept),rfl,pb,_,_,.bl (at_ cs q0.i).isSome,rfl,rfl,SqL.of hp4,ZhZ (by lia),(at_ cs q0.i).isSome,rfl,?_⟩;cases k1:(at_ cs q0.i).isSome with
   | false=>exact Za8 (Za8 ⟨_,rfl,sm,hp4⟩)
   | true =>
    refine Zdb ⟨_,rfl,_,rfl,p,_,3,_,rfl,rfl,SqT.of (sm _ _ ept),rfl,pb,_,_,.bl (at_ cs q0.r).isSome,rfl,rfl,SqL.of hp4,ZhZ (by lia),(at_ cs q0.r).isSome,rfl,?_⟩;cases k2:(at_ cs q0.r).isSome with
    | false=>exact Za8 ⟨_,rfl,sm,hp4⟩
    | true =>
     refine Zdb ⟨_,rfl,_,rfl,p,_,0,_,rfl,rfl,SqT.of (sm _ _ ept),rfl,pb,_,_,_,rfl,rfl,hp4,ZcH (by unfold isB;rw[List.length_map];lia),?_⟩;exact⟨_,rfl,sm.upd_new hpb,Zb⟩
  ·rintro σ H4 ⟨v3,rfl,sm,hp4⟩;rw[List.take_of_length_le (by rw[List.length_map,hR.2.1];exact Nat.le_refl _)] at hp4;refine⟨_,_,rfl,sm,?_⟩;rw[ZbT];exact hp4
 rintro σ H3 ⟨v2,v3,rfl,sm3,hp3⟩;rw[Int.toNat_natCast,<- Fm.enough ok res] at hp3;refine⟨_,rfl,a,_,1,_,rfl,rfl,SqT.of (sm3 _ _ ea'),rfl,hst,rfl,⟨_,SqT.of (sm3 _ _ eh)⟩,fun pl hpl=>ZcF (K:=K) (a:=hst) (p:=pl) (xs:=ss.map Zc7) (fun i ys σ H4=>∃v0:Option V,σ =[v0,some (.ref pb)]/\Zi H3 H4/\H4 pl=some (.lst ys)/\ys=((ss.take i).filter fun s=>(at_ c s).isSome).map Zc7)
  ⟨none,rfl,Zi.new hpl,Zb,rfl⟩ ?_ ?_ ?_⟩
 ·rintro i ys σ H4 _ ⟨v0,_,sm,h,_⟩;exact⟨SqT.of (sm _ _ (sm3 _ _ eh)),h⟩
 ·rintro i ys x σ H4 hi hx ⟨v0,rfl,sm,hp,rfl⟩;rw[List.getElem?_map] at hx;obtain⟨k,hk,rfl⟩:=Option.map_eq_some_iff.mp hx;have hkn:=hss k (List.mem_of_getElem? hk);have hl:=List.length_filter_le (fun s=>(at_ c s).isSome) (ss.take i);rw[List.length_take] at hl;refine⟨_,rfl,_,rfl,pb,_,_,.bl (at_ c k).isSome,rfl,rfl,SqL.of (sm _ _ hp3),ZhZ (by lia),(at_ c k).isSome,rfl,ZbI (fun d=>?_) (fun d=>?_)⟩
  ·refine⟨_,rfl,hp,Zz (by rw[List.length_map];lia),CW.next hi ⟨_,rfl,sm.upd_new hpl,Zb,?_⟩⟩
   rw[take_snoc hk,Zay,if_pos d,List.map_append];rfl
  ·refine CW.next hi ⟨_,rfl,sm,hp,?_⟩
   rw[take_snoc hk,Zay,if_neg d,List.append_nil]
 rintro ys σ H4 ⟨v0,rfl,sm4,hp4,rfl⟩;rw[List.length_map,List.take_length] at hp4;refine⟨by decide,fun nl hnl=>⟨pl,nl,_,rfl,rfl,SqL.of ((Zi.new hnl) _ _ hp4),SqL.of Zb,?_⟩⟩;have sf:=(sm3.trans sm4).trans (Zi.new (o:=.lst []) hnl);by_cases hz:∃s∈ss,at_ c s≠none
 ·have e:(!((ss.filter fun s=>(at_ c s).isSome).map Zc7).isEmpty)=true:=by
   obtain⟨s,hs,hc⟩:=hz;have:s∈ss.filter fun s=>(at_ c s).isSome:=List.mem_filter.mpr ⟨hs,by cases z:at_ c s with|none=>exact(hc z).elim|some _=>rfl⟩;cases z:ss.filter fun s=>(at_ c s).isSome with
   | nil=>rw[z] at this;cases this
   | cons _ _=>rfl
  rw[e];exact q1 hz _ sf
 ·have hn':∀s∈ss,at_ c s=none:=fun s hs=>by
   cases z:at_ c s with
   | none=>rfl
   | some _=>exact(hz ⟨s,hs,by rw[z];exact fun h=>nomatch h⟩).elim
  have e:(!((ss.filter fun s=>(at_ c s).isSome).map Zc7).isEmpty)=false:=by
   cases z:ss.filter fun s=>(at_ c s).isSome with
   | nil=>rfl
   | cons s l =>
    have:s∈ss.filter fun s=>(at_ c s).isSome:=by rw[z];exact List.mem_cons_self ..
    obtain⟨h1,h2⟩:=List.mem_filter.mp this;rw[hn' s h1] at h2;cases h2
  rw[e];exact q2 hn' _ sf
def nxN(x:Nat):Nat:=if x % 2=1 then x / 2 else x-1
def itN(m:Nat):Nat->Nat
 | 0=>m
 | j+1=>nxN (itN m j)
theorem Zmj{m:Nat}(h1:298<=m)(h2:m<=303):itN m 15=0:=by
 have:m=298\/m=299\/m=300\/m=301\/m=302\/m=303:=by lia
 rcases this with rfl|rfl|rfl|rfl|rfl|rfl <;> decide
theorem Zjv{xs:List V}{v:V}:atI (xs ++ [v]) (-1)=some v:=by
 unfold atI ixN;rw[if_neg (by decide),List.length_append,List.length_singleton,if_pos (by lia)];show(xs ++ [v])[((-1:Int)+((xs.length+1:Nat):Int)).toNat]?= some v;rw[show((-1:Int)+((xs.length+1:Nat):Int)).toNat=xs.length by lia];exact List.getElem?_concat_length
def Zff(H:Hp)(qs:List Addr)(rs:List Rl):Prop:=qs.length=rs.length/\∀(i:Nat) p q,qs[i]?= some p->rs[i]?= some q->H p=some (.tup [.int q.k,.str q.t,.int q.i,.int q.r])
theorem Zff.mono{H H':Hp}{qs:List Addr}{rs:List Rl}(h:Zff H qs rs)(k:TK H H'):Zff H' qs rs:=⟨h.1,fun i p q e1 e2=>k _ _ (h.2 i p q e1 e2)⟩
theorem Zff.app{H:Hp}{qs ps:List Addr}{rs ts:List Rl}(h:Zff H qs rs)(g:Zff H ps ts):Zff H (qs++ps) (rs++ts):=by
 refine⟨by rw[List.length_append,List.length_append,h.1,g.1],fun i p q e1 e2=>?_⟩;rcases Nat.lt_or_ge i qs.length with z|z
 ·rw[List.getElem?_append_left z] at e1;rw[List.getElem?_append_left (by rw[<- h.1];exact z)] at e2;exact h.2 i p q e1 e2
 ·rw[List.getElem?_append_right z] at e1;rw[List.getElem?_append_right (by rw[<- h.1];exact z),<- h.1] at e2;exact g.2 _ p q e1 e2
theorem Zff.one{H:Hp}{p:Addr}{q:Rl}(e:H p=some (.tup [.int q.k,.str q.t,.int q.i,.int q.r])):Zff H [p] [q]:=⟨rfl,fun i p' q' e1 e2=>by
 cases i with
 | zero =>
  injection e1 with e1;injection e2 with e2;subst e1 e2;exact e
 | succ i=>simp at e1⟩
def nums(m i:Nat):List V:=(List.range (i+1)).map fun j=>iV (itN m j)
theorem Zhn(m i:Nat):nums m (i+1)=nums m i ++ [iV (itN m (i+1))]:=by
 unfold nums;rw[List.range_succ (n:=i+1),List.map_append];rfl
theorem ZbK(m i:Nat):atI (nums m i) (-1)=some (iV (itN m i)):=by
 unfold nums;rw[List.range_succ,List.map_append];exact Zjv
theorem ZfT(m i:Nat):(nums m i).length=i+1:=by
 unfold nums;rw[List.length_map,List.length_range]
def Zc1:Sp:=fun vs H Q _=>∃(a:Addr)(m:Nat)(t:Str)(f:Fm),vs=[.ref a,.int (m:Int),.str t]/\298<=m/\m<=303/\ZdT t/\Form H a f/\f.n<=48/\f.rules.length<=400/\(∀q∈f.rules,ZdT q.t)/\f.ends.length<=1000 /\
 ∀(r:Addr)(f':Fm)(ss:List Nat)(H':Hp),Zi H H'->Form H' r f'->Sts H' r ss->Drw f' ss->Q (.ref r) H'
set_option maxHeartbeats 4000000 in
theorem ZcW(B:∀x∈ZcI,mg x=none)(F:Fun K "_law_with_bound" "_law_with_bound" Zac f fd):FnOk P w K mg base CX0 1 f fd ["_law_one","_law_number","_law_word"] Zc1:=by
 refine F.ok ZQ (fun vs H Q E h=>?_) (fun cdv A outer s H vs Q E hr h=>?_)
 ·obtain⟨a,m,t,fm,rfl,_⟩:=h;rfl
 obtain⟨a,m,t,fm,rfl,m1,m2,ht,hF,hn,hr4,hlet,hel,q⟩:=h;obtain⟨h1,h2,h3,qs,ea,e2,hR⟩:=hF.ex;have ok:=hF.ok;have i15:=Zmj m1 m2;refine⟨_,(Zc (Zo (i:=3) ZQ.nd rfl (Or.inl rfl) (Zax (Za (pv 1) Zd)))
  (Zc (Zcv PassesOwn.never (Zr ZiC (Zw ZD (pv 3) (Zg6 Zeu Ze) (fun _ _=>rfl)) Ze (Zt _))
   (Zf (Zas (Zr Zco (Zk ZX (Zw ZD (pv 3) (Zg6 Zeu Ze) (fun _ _=>rfl)) Ze) Ze (Zt _))
     (Zf (Zad (Zbn PySem.F.plainAttrs_list PySem.F.slot_list_append PySem.F.type_list_append ZJ (pv 3) (Za (Zk ZS (Zw ZD (pv 3) (Zg6 Zeu Ze) (fun _ _=>rfl)) Ze) Zd))))
     (Zf (Zad (Zbn PySem.F.plainAttrs_list PySem.F.slot_list_append PySem.F.type_list_append ZJ (pv 3) (Za (Zk Zdw (Zw ZD (pv 3) (Zg6 Zeu Ze) (fun _ _=>rfl)) Ze) Zd)))))))
  (Zc (Zo (i:=4) ZQ.nd rfl (Or.inl rfl) (Zw ZP (pv 0) Ze (fun _ _=>rfl)))
  (Zc (Zo (i:=5) ZQ.nd rfl (Or.inl rfl) (Zk Zdw (Zk Z2 (pv 4) (ZC Zu rfl (B "len" (by decide)) PySem.boot_len (Za (pv 3) Zd))) Ze))
  (Zc (Zo (i:=6) ZQ.nd rfl (Or.inl rfl) (Zax Zd))
  (Zc (ZaY PassesOwn.never rfl (Zaa rfl (B "range" (by decide)) (Za (Zk Zdw (ZC Zu rfl (B "len" (by decide)) PySem.boot_len (Za (pv 3) Zd)) Ze) Zd)) (Zv (i:=7) ZQ.nd rfl (Or.inl rfl))
   (Zc (Zo (i:=8) ZQ.nd rfl (Or.inl rfl) (pv 5))
    (Zc (Zas (Zr Zco (Zk ZX (Zw ZD (pv 3) (pv 7) (fun _ _=>rfl)) Ze) Ze (Zt _))
     (Zf (Zo (i:=8) ZQ.nd rfl (Or.inl rfl) (Zk Z2 (Zk Z2 (pv 4) (pv 7)) Ze)))
     ZG)
    (Zf (Zad (Zbn PySem.F.plainAttrs_list PySem.F.slot_list_append PySem.F.type_list_append ZJ (pv 6) (Za (ZK (Za (Zk Z2 (pv 4) (pv 7)) (Za (pv 2) (Za (Zk Z2 (Zk Z2 (pv 4) (pv 7)) Ze) (Za (pv 8) Zd))))) Zd)))))))
  (Zf (ZR (ZK (Za (Zk Z2 (pv 5) Ze) (Za (ZK (Za (pv 4) Zd)) (Za (Zk Ze1 (Zw ZP (pv 0) Ze (fun _ _=>rfl)) (ZK (Za (pv 5) Zd))) (Za (Zk Ze1 (Zw ZP (pv 0) Ze (fun _ _=>rfl)) (Za1 ZaJ rfl (B "tuple" (by decide)) Zbv (Za (pv 6) Zd))) Zd))))))))))))),?_⟩
 refine⟨_,rfl,(show(1:Nat)<=sizeLine from by decide),fun nl hnl=>?_⟩
 let W:Nat->St->Hp->Prop:=fun k σ H1=>∃i:Nat,k=15-i/\i<=15 /\ σ =[some (.ref a),some (.int (m:Int)),some (.str t),some (.ref nl),none,none,none,none,none]/\Zi H H1/\H1 nl=some (.lst (nums m i))
 refine⟨W,⟨15,0,rfl,Nat.zero_le _,rfl,Zi.new hnl,Zb⟩,?_⟩;rintro k σ H1 ⟨i,rfl,hi,rfl,sm,hnl1⟩;refine⟨_,rfl,_,rfl,nl,_,_,_,rfl,rfl,SqL.of hnl1,ZbK m i,_,_,rfl,rfl,_,rfl,ZbI (fun d=>?_) (fun d=>?_)⟩
 ·have d:=of_decide_eq_true d;have hi15:i<15:=by
   rcases Nat.lt_or_ge i 15 with z|z
   ·exact z
   ·rw[show i=15 by lia,i15] at d;lia
  refine⟨fun σ' H'=>∃m',m'<15-i/\W m' σ' H',fun _ _ h=>h,?_⟩;have put:∀x:Int,x=(itN m (i+1):Int)->∃m',m'<15-i/\W m' [some (.ref a),some (.int (m:Int)),some (.str t),some (.ref nl),none,none,none,none,none] (upd H1 nl (.lst (nums m i ++ [.int x]))):=fun x hx=>by
   refine⟨15-(i+1),by lia,i+1,rfl,by lia,rfl,sm.upd_new hnl,?_⟩;rw[Zb,Zhn,hx]
  have nl16:=ZfT m i;refine⟨_,rfl,_,rfl,nl,_,_,_,rfl,rfl,SqL.of hnl1,ZbK m i,_,_,rfl,rfl,(by show(0:Int)<2;decide),rfl,_,rfl,ZbI (fun d1=>?_) (fun d1=>?_)⟩
  ·refine⟨_,rfl,.inl ⟨rfl,_,SqL.of hnl1⟩,_,rfl,_,rfl,nl,_,_,_,rfl,rfl,SqL.of hnl1,ZbK m i,_,_,rfl,rfl,⟨by decide,by decide⟩,nl,_,_,rfl,rfl,hnl1,Zz (by lia),put _ ?_⟩;have d1:=of_decide_eq_true d1;injection d1 with d1;show(itN m i:Int) / 2=((nxN (itN m i):Nat):Int);unfold nxN;rw[if_pos (by lia)];lia
  ·refine⟨_,rfl,.inl ⟨rfl,_,SqL.of hnl1⟩,_,rfl,_,rfl,nl,_,_,_,rfl,rfl,SqL.of hnl1,ZbK m i,_,_,rfl,rfl,nl,_,_,rfl,rfl,hnl1,Zz (by lia),put _ ?_⟩;have hd : ¬ (itN m i) % 2=1:=fun z=>d1 (decide_eq_true (by
    show V.int ((itN m i:Int) % 2)=V.int 1;rw[show(itN m i:Int) % 2=1 by lia]))
   show(itN m i:Int)-1=((nxN (itN m i):Nat):Int);unfold nxN;rw[if_neg hd];lia
 have nlen:=ZfT m i;refine⟨_,rfl,a,_,0,_,rfl,rfl,SqT.of (sm _ _ ea),rfl,?_⟩;refine⟨_,rfl,_,rfl,nl,_,rfl,.inl (SqL.of hnl1),_,_,rfl,rfl,_,_,rfl,rfl,?_⟩;show Ze8 5 (V.int ((fm.n:Int)+((nums m i).length:Int)-1)) _ _ _;rw[show((fm.n:Int)+((nums m i).length:Int)-1)=((fm.n+i:Nat):Int) by lia];refine⟨by decide,fun rl hrl=>?_⟩;have s1:Zi H (upd H1 rl (.lst [])):=sm.trans (Zi.new hrl);have hrl0:=sm.free hrl;have hnl2:=(Zi.new (o:=.lst []) hrl) _ _ hnl1;have er:(upd H1 rl (.lst [])) rl=some (.lst []):=Zb;generalize upd H1 rl (.lst [])=H2 at s1 hnl2 er;have nnr:nl≠rl:=fun z=>by rw[z,hrl] at hnl1;cases hnl1
 have jn:((((nums m i).length:Int)-1)).toNat=i:=by lia
 refine⟨_,rfl,nl,_,rfl,.inl (SqL.of hnl2),_,_,rfl,rfl,_,rfl,by lia,by lia,ZaT (lo:=0) (fun j σ H3=>∃(v7 v8:Option V)(ps:List Addr)(nr:List Rl),σ =[some (.ref a),some (.int (m:Int)),some (.str t),some (.ref nl),some (.int (fm.n:Int)),some (.int ((fm.n+i:Nat):Int)),some (.ref rl),v7,v8]/\Zi H H3/\H3 nl=some (.lst (nums m i))/\H3 rl=some (.lst (ps.map V.ref))/\Zff H3 ps nr/\nr.length=j/\∀q∈nr,(q.k<fm.n+i+1/\q.i<fm.n+i+1/\q.r<fm.n+i+1)/\q.t=t)
  ⟨none,none,[],[],rfl,s1,hnl2,er,⟨rfl,fun _ _ _ h=>(nomatch h)⟩,rfl,fun _ h=>(nomatch h)⟩ ?_ ?_⟩
 ·rintro j σ H3 hj ⟨v7,v8,ps,nr,rfl,sm3,hnl3,hrl3,hps,hnrl,hnr⟩;have hj:j<i:=by lia
  have hat:atI (nums m i) (0+(j:Int))=some (iV (itN m j)):=by
   rw[Int.zero_add];refine Zbb ?_;unfold nums;rw[List.getElem?_map,List.getElem?_range (by lia)];rfl
  have put:∀(p:Addr)(H4:Hp),Zi H3 H4->∀(rv:Nat),rv<fm.n+i+1->H4 p=some (.tup [.int ((fm.n+j:Nat):Int),.str t,.int ((fm.n+j+1:Nat):Int),.int (rv:Int)])->∀w7 w8:Option V,∃(v7 v8:Option V)(ps':List Addr)(nr':List Rl),[some (V.ref a),some (.int (m:Int)),some (.str t),some (.ref nl),some (.int (fm.n:Int)),some (.int ((fm.n+i:Nat):Int)),some (.ref rl),w7,w8] =[some (.ref a),some (.int (m:Int)),some (.str t),some (.ref nl),some (.int (fm.n:Int)),some (.int ((fm.n+i:Nat):Int)),some (.ref rl),v7,v8]/\Zi H (upd H4 rl (.lst (ps.map V.ref ++ [.ref p])))/\(upd H4 rl (.lst (ps.map V.ref ++ [.ref p]))) nl=some (.lst (nums m i))/\(upd H4 rl (.lst (ps.map V.ref ++ [.ref p]))) rl=some (.lst (ps'.map V.ref))/\Zff (upd H4 rl (.lst (ps.map V.ref ++ [.ref p]))) ps' nr'/\nr'.length=j+1/\∀q∈nr',(q.k<fm.n+i+1/\q.i<fm.n+i+1/\q.r<fm.n+i+1)/\q.t=t:=fun p H4 s4 rv hrv hp w7 w8=>by
   have tk:TK H4 (upd H4 rl (.lst (ps.map V.ref ++ [.ref p]))):=ZaB (s4 _ _ hrl3);refine⟨w7,w8,ps ++ [p],nr ++ [⟨fm.n+j,t,fm.n+j+1,rv⟩],rfl,(sm3.trans s4).upd_new hrl0,by rw[Zh nnr];exact s4 _ _ hnl3,by rw[Zb,List.map_append];rfl,((hps.mono s4.tk).mono tk).app (Zff.one (tk _ _ hp)),by rw[List.length_append,hnrl];rfl,fun q hq=>?_⟩;rcases List.mem_append.mp hq with hq|hq
   ·exact hnr q hq
   ·rw[List.mem_singleton.mp hq];exact⟨⟨by show fm.n+j<_;lia,by show fm.n+j+1<_;lia,hrv⟩,rfl⟩
  have ex:∀rv:Int,some (HO.tup [V.int ((fm.n:Int)+(0+(j:Int))),.str t,V.int ((fm.n:Int)+(0+(j:Int))+1),V.int rv])=some (HO.tup [.int ((fm.n+j:Nat):Int),.str t,.int ((fm.n+j+1:Nat):Int),.int rv]):=fun rv=>by
   rw[show(fm.n:Int)+(0+(j:Int))=((fm.n+j:Nat):Int) by lia,show((fm.n+j:Nat):Int)+1=((fm.n+j+1:Nat):Int) by lia]
  refine⟨_,rfl,?_⟩;refine⟨_,rfl,_,rfl,nl,_,_,_,rfl,rfl,SqL.of hnl3,hat,_,_,rfl,rfl,(by show(0:Int)<2;decide),rfl,_,rfl,ZbI (fun _=>?_) (fun _=>?_)⟩
  ·refine⟨_,rfl,_,rfl,_,_,rfl,rfl,_,_,rfl,rfl,?_⟩;refine⟨_,rfl,.inl ⟨rfl,_,SqL.of hrl3⟩,_,rfl,_,rfl,_,_,rfl,rfl,_,rfl,_,rfl,_,rfl,_,_,rfl,rfl,_,_,rfl,rfl,_,rfl,(show(4:Nat)<=sizeLine from by decide),fun p hp=>⟨rl,_,_,rfl,rfl,(Zi.new hp) _ _ hrl3,Zz (by rw[List.length_map,hps.1];lia),?_⟩⟩;exact put p _ (Zi.new hp) (fm.n+j+1) (by lia) (by rw[Zb,ex,show(fm.n:Int)+(0+(j:Int))+1=((fm.n+j+1:Nat):Int) by lia]) _ _
  ·refine⟨_,rfl,.inl ⟨rfl,_,SqL.of hrl3⟩,_,rfl,_,rfl,_,_,rfl,rfl,_,rfl,_,rfl,_,rfl,_,_,rfl,rfl,_,_,rfl,rfl,_,rfl,(show(4:Nat)<=sizeLine from by decide),fun p hp=>⟨rl,_,_,rfl,rfl,(Zi.new hp) _ _ hrl3,Zz (by rw[List.length_map,hps.1];lia),?_⟩⟩;exact put p _ (Zi.new hp) (fm.n+i) (by lia) (by rw[Zb,ex]) _ _
 rintro σ H3 ⟨v7,v8,ps,nr,rfl,sm3,hnl3,hrl3,hps,hnrl,hnr⟩;have hnr15:nr.length<=15:=by lia
 refine⟨_,rfl,_,_,rfl,rfl,_,rfl,(show(1:Nat)<=sizeLine from by decide),fun u1 hu1=>?_⟩;have t1:Zi H3 (upd H3 u1 (.tup [.int (fm.n:Int)])):=Zi.new hu1;refine⟨_,rfl,a,_,2,_,rfl,rfl,SqT.of (t1 _ _ (sm3 _ _ ea)),rfl,_,rfl,(show(1:Nat)<=sizeLine from by decide),fun u2 hu2=>?_⟩;have t2:=t1.trans (Zi.new (o:=.tup [.int ((fm.n+i:Nat):Int)]) hu2);refine⟨h2,u2,_,_,rfl,rfl,t2 _ _ (sm3 _ _ e2),Zb,by rw[List.length_map,List.length_singleton,sizeLine_eq];lia,fun u3 H4 t3 e3=>?_⟩;have t4:=t2.trans t3;have eu1:=t3 _ _ ((Zi.new (o:=.tup [.int ((fm.n+i:Nat):Int)]) hu2) _ _ (Zb (H:=H3) (a:=u1) (o:=.tup [.int (fm.n:Int)])));refine⟨_,rfl,a,_,3,_,rfl,rfl,SqT.of (t4 _ _ (sm3 _ _ ea)),rfl,_,rfl,rl,_,rfl,.inl ⟨SqL.of (t4 _ _ hrl3),fun u4 hu4=>?_⟩⟩;have t5:=Zi.new (o:=.tup (ps.map V.ref)) hu4;refine⟨h3,u4,_,_,rfl,rfl,t5 _ _ (t4 _ _ (sm3 _ _ hR.1)),Zb,by rw[List.length_map,List.length_map,hR.2.1,hps.1,sizeLine_eq];lia,fun u5 H6 t6 e6=>?_⟩;have t7:=t5.trans t6;refine⟨(show(4:Nat)<=sizeLine from by decide),fun r hr0=>?_⟩;have t8:=t7.trans (Zi.new (o:=.tup [.int (((fm.n+i:Nat):Int)+1),.ref u1,.ref u3,.ref u5]) hr0);have tr:=Zi.new (o:=.tup [.int (((fm.n+i:Nat):Int)+1),.ref u1,.ref u3,.ref u5]) hr0;have er0:(upd H6 r (.tup [.int (((fm.n+i:Nat):Int)+1),.ref u1,.ref u3,.ref u5])) r=some (.tup [.int ((fm.n+i+1:Nat):Int),.ref u1,.ref u3,.ref u5]):=by
  rw[Zb,show((fm.n+i:Nat):Int)+1=((fm.n+i+1:Nat):Int) by lia]
 have all:=sm3.trans (t4.trans t8);refine q r ⟨fm.n+i+1,fm.ends ++ [fm.n+i],fm.rules++nr⟩ [fm.n] _ all ⟨⟨fun e he=>?_,fun q hq=>?_⟩,u1,u3,u5,qs++ps,er0,?_,?_,?_⟩ ⟨_,_,_,u1,er0,t8 _ _ eu1⟩ ⟨by show 1<=fm.n+i+1;lia,by show fm.n+i+1<=64;lia,?_,fun s hs=>?_,by show(1:Nat)<=10;decide,fun q hq=>?_⟩
 ·rcases List.mem_append.mp he with he|he
  ·have:=ok.e e he;show e<fm.n+i+1;lia
  ·rw[List.mem_singleton.mp he];show fm.n+i<fm.n+i+1;lia
 ·rcases List.mem_append.mp hq with hq|hq
  ·obtain⟨b1,b2,b3⟩:=ok.q q hq;exact⟨by show q.k<fm.n+i+1;lia,by show q.i<fm.n+i+1;lia,by show q.r<fm.n+i+1;lia⟩
  ·exact(hnr q hq).1
 ·rw[t8 _ _ e3];show _=some (HO.tup ((fm.ends ++ [fm.n+i]).map fun(e:Nat)=>V.int (e:Int)));rw[List.map_append];rfl
 ·rw[tr _ _ e6,List.map_append]
 ·have hR0:Zff H qs fm.rules:=⟨hR.2.1,hR.2.2⟩;exact(Zff.mono hR0 all.tk).app ((Zff.mono hps t4.tk).mono t8.tk)
 ·show(fm.rules++nr).length<=900;rw[List.length_append];lia
 ·rw[List.mem_singleton.mp hs];show fm.n<fm.n+i+1;lia
 ·rcases List.mem_append.mp hq with hq|hq
  ·exact hlet q hq
  ·rw[(hnr q hq).2];exact ht
def KE(H H':Hp):Prop := ∀b o,H b=some o->(∀ps,o ≠ .tbl ps)->(∀x,o ≠ .ext x)->H' b=some o
theorem KE.of{H H':Hp}(k:KT H H'):KE H H':=fun b o h n _=>k b o h n
theorem KE.trans{H H1 H2:Hp}(a:KE H H1)(b:KE H1 H2):KE H H2:=fun c o h n m=>b c o (a c o h n m) n m
theorem KE.lst{H H':Hp}(k:KE H H'){b:Addr}{xs:List V}(h:H b=some (.lst xs)):H' b=some (.lst xs):=k b _ h (fun _ z=>nomatch z) fun _ z=>nomatch z
theorem KE.tk{H H':Hp}(k:KE H H'):TK H H':=fun b xs e=>k b _ e (fun _ z=>nomatch z) fun _ z=>nomatch z
theorem KE.lk{H H':Hp}(k:KE H H'):LK H H':=fun b xs e=>k.lst e
theorem fold_min{bf:Nat->Nat->Bool}(tr:∀i j k,bf i j=true->bf j k=true->bf i k=true)(ir:∀i,bf i i=false):∀n j,j<=n->bf j (ZbC bf n)=false
 | 0,j,h=>by
  rw[show j=0 by lia];exact ir 0
 | n+1,j,h=>by
  show bf j (if bf (n+1) (ZbC bf n)=true then n+1 else ZbC bf n)=false
  have ih:=fold_min tr ir n
  split
  ·rename_i c
   rcases Nat.lt_or_ge n j with z|z
   ·rw[show j=n+1 by lia];exact ir _
   ·cases e:bf j (n+1) with
    | false=>rfl
    | true =>
     have:=tr _ _ _ e c;rw[ih j z] at this;cases this
  ·rename_i c
   rcases Nat.lt_or_ge n j with z|z
   ·rw[show j=n+1 by lia];exact Bool.eq_false_iff.mpr c
   ·exact ih j z
def Zc4(Pt:Addr):Sp:=fun vs H Q _=>∃(a wl:Addr)(f:Fm)(ss:List Nat)(c:Cs)(ws:List V)(G:List (Option (Gr Str))),vs=[.ref a,.ref wl]/\Form H a f/\Sts H a ss/\Drw f ss/\f.Res c/\LG f c G/\H wl=some (.lst ws)/\WsV H ws G/\ZbG H Pt Zn/\∀H',KE H H'->ZbG H' Pt Zn->Q (.bl true) H'
set_option maxHeartbeats 4000000 in
theorem ZcR(B:∀x∈ZcI,mg x=none)(xc:XC K mg X_GroveError X_TooMany X_TooBig X_NoneFits)(g_least_of:HasX P w K mg base "least_of" ["form"] 7 (Zk4 K Pt X_TooBig)) (g_l_list:Has P w K mg base "_law_list" ["_law_found"] 1 Zcz) (g_l_some_live:Has P w K mg base "_law_some_live" ["_law_one"] 1 ZdS) (F:Fun K "_law_start_good" "_law_start_good" Zq f fd):FnOk P w K mg base CX0 8 f fd ["_law_one","_law_lists_here"] (Zc4 Pt):=by
 refine F.ok ZM (fun vs H Q E h=>?_) (fun cdv A outer s H vs Q E hr h=>?_)
 ·obtain⟨a,wl,fm,ss,c,ws,G,rfl,_⟩:=h;rfl
 obtain⟨a,wl,fm,ss,c,ws,G,rfl,hF,hSt,hD,res,hL,hwl,hW,T0,q⟩:=h;obtain⟨x1,y1,z1,hst,ea,eh⟩:=id hSt;have ok:=hF.ok;have hu:=Zb4 hr;have hu201:(A.deeper (PyProof.Rows.envOfC (Str.ofString "_law_start_good") (Zg Zq) s.heap.objs.size f cdv)).units+201<cLine:=by have:=hr.un;lia
 obtain⟨D,hLp,hLa⟩:=id hL;have hGl:=hLp.len;have okg:∀k g,gO G k=some g->gsz g<=300/\okG g:=fun k g e=>⟨(hLp.sz k g e).2.2.1,(hLp.sz k g e).2.2.2⟩;have hsl:=hD.sl;have small:∀s,smO (at_ c s)=true->∃g,gO G s=some g:=fun s h=>by
  cases z:at_ c s with
  | none=>rw[z] at h;cases h
  | some m =>
   rw[z] at h;exact hLp.has s (hLa s m z (of_decide_eq_true h))
 refine ZaM ((Zj Zq).drop 7) (Zf (ZR (ZeA (ZC (Zgc (K:=K) rfl) rfl (B "isinstance" (by decide)) Zaj (Za (pv 5) (Za (Zb9 (v:=.ref X_TooBig) rfl xc.n_TooBig rfl) Zd))) (Zei (Zks (ZC (ZgD (K:=K) rfl) rfl (B "isinstance" (by decide)) Zaj (Za (pv 5) (Za (ZK (Za (Zb9 (v:=.ref X_TooMany) rfl xc.n_TooMany rfl) (Za (Zb9 (v:=.ref X_NoneFits) rfl xc.n_NoneFits rfl) Zd))) Zd)))))))) (fun u7 h7 e7=>?_);refine ZaM ((Zj Zq).drop 6) (Zc (Zas (ZbM (Z8 (ZF g_l_some_live hr rfl (Za (pv 0) Zd)) (fun _=>rfl)))
   (Zf (ZR (ZeA (ZaI ZbP (pv 5) ZZ (Zt _)) (Zei (ZaI ZbP (pv 4) ZZ (Zt _))))))
   ZG) h7) (fun u6 h6 e6=>?_)
 refine ZaM ((Zj Zq).drop 5) (Zc (Zas (Zr (ZbL hu) (pv 3) (Zax Zd) (Zt _))
   (Zf (ZR (ZeA (ZaI ZbP (pv 5) ZZ (Zt _)) (Zei (ZaI (ZfN hu) (ZF g_l_list hr rfl (Za (pv 4) Zd)) (Zw ZP (ZC (Zg4 rfl hu201 (K:=K) rfl) rfl (B "min" (by decide)) Zhq (Za (pv 3) Zd)) Ze (fun _ _=>rfl)) (Zt _))))))
   ZG) h6) (fun u5 h5 e5=>?_)
 refine ZaM ((Zj Zq).drop 4) (Zc (Zkf rfl rfl (fun E pins E₁ hT hp=>(Zf (Zo (i:=4) ZM.nd rfl (Or.inl rfl) (Zhb g_least_of hT hr rfl (Za (pv 0) Zd)))))
   (Zlf (i:=6) (rest:=[]) (fun e=>(Zb9 (v:=.ref X_GroveError) rfl xc.n_GroveError rfl)) ZM.nd rfl rfl (fun e=>(Zf (Zo (i:=5) ZM.nd rfl (Or.inl rfl) (pv 6)))))) h5) (fun u4 h4 e4=>?_)
 refine ZaM ((Zj Zq).drop 3) (Zc (Zo (i:=5) ZM.nd rfl (Or.inl rfl) ZZ) h4) (fun u3 h3 e3=>?_);refine ZaM ((Zj Zq).drop 2) (Zc (Zo (i:=4) ZM.nd rfl (Or.inl rfl) ZZ) h3) (fun u2 h2 e2=>?_);refine ZaM ((Zj Zq).drop 1) (Zc (Zbd (cl:=[]) (n0:=3) ZM.nd rfl (Or.inl rfl) ["_law_words"] [] (ZcM (pv 2)) (fun _ _ _ _=>(Zv (i:=0) nd1 rfl (Or.inl rfl))) (fun _ _ _ _=>(ZK (Za (ZC (ZdY (K:=K) rfl) rfl (B "len" (by decide)) PySem.boot_len (Za (pv 0) Zd)) (Za (pv 0) Zd)))) rfl rfl (by decide) rfl (by decide) (fun _ _ h=>nomatch h) (ZgW (by decide)) (fun _ _ h=>nomatch h) (fun _=>rfl) rfl) h2) (fun u1 h1 e1=>?_)
 refine ZaM ((Zj Zq).drop 0) (Zc (ZaE (cl:=_) (n0:=2) ZM.nd rfl (Or.inl rfl) ["_law_kind"] [("_law_lists_here",1)] (ZbR (Zw ZP (pv 0) Ze (fun _ _=>rfl))) (fun _ _ _ _=>(Zv (i:=0) (show List.Nodup (["_law_kind","_law_lists_here"]:List Str) by decide) rfl (Or.inl rfl))) (fun _ _ _ _=>(Zr Za9 (Zw (ZaX (K:=K) rfl) (pv 1) (pv 0) (fun _ _=>rfl)) ZZ (Zt _))) (fun _ _ _ _=>(Zw (ZaX (K:=K) rfl) (pv 1) (pv 0) (fun _ _=>rfl))) rfl rfl (by decide) rfl (by decide) (Zbg (by(repeat' first|exact List.forall_mem_nil _|refine List.forall_mem_cons.mpr ⟨?_,?_⟩) <;> rfl)) (ZaV (by(repeat' first|exact List.forall_mem_nil _|refine List.forall_mem_cons.mpr ⟨?_,?_⟩) <;> first|(intro h;exact⟨_,rfl⟩)|(intro h;exact absurd h (by decide)))) (fun _=>by(repeat' first|exact List.forall_mem_nil _|refine List.forall_mem_cons.mpr ⟨?_,?_⟩) <;> exact⟨rfl,rfl,Or.inl rfl⟩) (fun _=>rfl) rfl) h1) (fun u0 h0 e0=>?_)
 refine⟨u0,h0,?_⟩;refine Zaz e0 ?_;refine⟨_,rfl,a,_,1,_,rfl,rfl,SqT.of ea,rfl,hst,rfl,⟨_,SqT.of eh⟩,fun tp htp=>ZcF (K:=K) (a:=hst) (p:=tp) (xs:=ss.map Zc7) (fun i ys σ H4=>∃v0:Option V,σ =[v0,some (.ref wl)]/\Zi H H4/\H4 tp=some (.lst ys)/\Paired (fun v g=>∃b,v=V.ref b/\H b=some (.lst ((words SL g).map V.str))) ys ((ss.take i).filterMap (gO G))/\ys.length<=i)
  ⟨none,rfl,Zi.new htp,Zb,.nil,Nat.le_refl _⟩ ?_ ?_ ?_⟩
 ·rintro i ys σ H4 _ ⟨v0,_,sm,h,_⟩;exact⟨SqT.of (sm _ _ eh),h⟩
 ·rintro i ys x σ H4 hi hx ⟨v0,rfl,sm,hp,hP,hyl⟩;rw[List.length_map] at hi;rw[List.getElem?_map] at hx;obtain⟨k,hk,rfl⟩:=Option.map_eq_some_iff.mp hx;have hkn:=hD.s k (List.mem_of_getElem? hk);obtain⟨v,_,hv,hwv⟩:=hW.at (k:=k) (by lia);refine⟨_,rfl,_,rfl,wl,_,_,_,rfl,rfl,SqL.of (sm _ _ hwl),hv,rfl,_,rfl,?_⟩;have tks:(ss.take (i+1)).filterMap (gO G)=(ss.take i).filterMap (gO G)++(gO G k).toList:=by
   rw[take_snoc hk,List.filterMap_append];cases e:gO G k with
   | none=>rw[List.filterMap_cons_none e];rfl
   | some g=>rw[List.filterMap_cons_some e];rfl
  cases e:gO G k with
  | none =>
   rw[e] at hwv tks;obtain rfl:v=.non:=hwv;refine Za8 (CW.next (by rw[List.length_map];exact hi) ⟨_,rfl,sm,hp,?_,by lia⟩)
   rw[tks];show Paired _ ys (_ ++ []);rw[List.append_nil];exact hP
  | some g =>
   rw[e] at hwv tks;obtain⟨b,rfl,hb⟩:=hwv;refine Zdb ⟨_,rfl,_,rfl,wl,_,_,_,rfl,rfl,SqL.of (sm _ _ hwl),hv,hp,Zz (by lia),CW.next (by rw[List.length_map];exact hi) ⟨_,rfl,sm.upd_new htp,Zb,?_,by rw[List.length_append,List.length_singleton];lia⟩⟩
   rw[tks];exact Paired.app hP (.cons ⟨b,rfl,hb⟩ .nil)
 rintro ys σ H1 ⟨v0,rfl,s1,htp1,hP1,hyl⟩;rw[List.length_map,List.take_length] at hP1;rw[List.length_map] at hyl;generalize hgs:ss.filterMap (gO G)=gs at hP1;have memg:∀g,g∈gs↔∃s∈ss,gO G s=some g:=fun g=>by rw[<- hgs];exact List.mem_filterMap
 have hyg:=Paired.length hP1;show u1 _ _ _;refine Zaz e1 ?_;refine⟨_,rfl,tp,rfl,⟨_,SqL.of htp1⟩,fun sp hsp=>Zep (K:=K) (a:=tp) (p:=sp) (xs:=ys) (fun i zs σ H4=>∃v0:Option V,σ =[v0]/\Zi H1 H4/\H4 sp=some (.lst zs)/\Paired (fun v g=>∃r b,v=V.ref r/\b≠sp/\Zat H4 r b (words SL g)) zs (gs.take i)/\zs.length=i)
  ⟨none,rfl,Zi.new hsp,Zb,.nil,rfl⟩ ?_ ?_ ?_⟩
 ·rintro i zs σ H4 _ ⟨v0,_,sm,h,_⟩;exact⟨SqL.of (sm _ _ htp1),h⟩
 ·rintro i zs x σ H4 hi hx ⟨v0,rfl,sm,hp,hP,hzl⟩;obtain⟨g,hg⟩:∃g,gs[i]?= some g:=⟨_,List.getElem?_eq_getElem (by lia)⟩;obtain⟨b,rfl,hb⟩:=ZaA hP1 hx hg;have hb4:=sm _ _ (s1 _ _ hb);refine⟨_,rfl,b,_,rfl,.inl (SqL.of hb4),_,rfl,(show(2:Nat)<=sizeLine from by decide),fun r hr1=>?_⟩;have s2:Zi H4 (upd H4 r (.tup [.int (((words SL g).map V.str).length:Nat),.ref b])):=Zi.new hr1;have nrs:r≠sp:=fun z=>by rw[z,hp] at hr1;cases hr1
  refine⟨s2 _ _ hp,Zz (by lia),CW.next hi ⟨_,rfl,(sm.trans s2).upd_new hsp,Zb,?_,by rw[List.length_append,hzl];rfl⟩⟩
  have nbs:b≠sp:=fun z=>by rw[z] at hb;have:=s1 _ _ hb;rw[hsp] at this;cases this
  have keepR:∀{H5:Hp}{r b:Addr}{xs:List Str},Zat H5 r b xs->r≠sp->b≠sp->∀o,Zat (upd H5 sp o) r b xs:=fun h n1 n2 o=>h.upd n1 n2;rw[take_snoc hg];refine Paired.app ?_ (.cons ⟨r,b,rfl,nbs,keepR ⟨s2 _ _ hb4,by rw[Zb,List.length_map]⟩ nrs nbs _⟩ .nil);refine Paired.mapP hP fun v g' ⟨r',b',e',n',h'⟩=>⟨r',b',e',n',keepR (h'.same s2) (fun z=>?_) n' _⟩;have:=h'.2;rw[z,hp] at this;cases this
 rintro zs σ H2 ⟨v0,rfl,s2,hsp2,hP2,hzl⟩;rw[hyg,List.take_length] at hP2;have s02:Zi H H2:=s1.trans s2;have hzg:=Paired.length hP2;show u2 _ _ _;refine Zaz e2 ?_;show u3 _ _ _;refine Zaz e3 ?_;show u4 _ _ _;refine Zaz e4 ?_;refine⟨fun σ' C d' H'=>σ'=[some (.ref a),some (.ref wl),some (.ref tp),some (.ref sp),some .non,some .non,none]/\C=.ref X_TooBig/\d'=none/\Zi H2 H'/\(∃s∈ss,at_ c s≠none)/\(∀s∈ss,smO (at_ c s)=false),?_,?_⟩
 ·refine⟨_,rfl,a,fm,ss,rfl,hF.same s02,hD.n64,hD.r,hD.t,T0.same s02,hSt.mono s02.tk,hD.s,by lia,fun c' G' g r xs H3 res' hL' kt T' hr' hrg hin hmin=>?_,fun c' H3 res' hnone kt T'=>?_,fun c' H3 res' hx hy s3=>?_⟩
  ·have ec:=res'.one res;subst ec;have eG:=LG.one res ok hL' hL;subst eG;have k3:KT H H3:=(KT.of s02).trans kt;have hsp3:=KT.lst kt hsp2;have hgin:g∈gs:=(memg g).mpr hin;have gpos:0<gs.length:=List.length_pos_of_mem hgin;obtain⟨s0,hs0,es0⟩:=hin;obtain⟨g3,okg0⟩:=okg _ _ es0;have ez:(!zs.isEmpty)=true:=by
    cases zs with
    | nil=>rw[List.length_nil] at hzg;lia
    | cons _ _=>rfl
   show u5 _ _ _;refine Zaz e5 ?_;refine⟨_,rfl,by decide,fun nl hnl=>⟨sp,nl,_,rfl,rfl,SqL.of ((Zi.new hnl) _ _ hsp3),SqL.of Zb,_,rfl,ZbI (fun _=>?_) (fun d=>absurd ez d)⟩⟩;have sn:=Zi.new (o:=.lst []) hnl;generalize upd H3 nl (.lst [])=H4 at sn ⊢;refine⟨_,rfl,rfl,_,rfl,Zdb ?_⟩;refine⟨_,rfl,r,xs,g,rfl,sn _ _ hr',hrg.mono sn.tk,g3,fun lw H5 s5 n5 e5'=>?_⟩;have sn5:=sn.trans s5;have hsp5:=sn5 _ _ hsp3;have hP5:Paired (fun v g=>∃r b,v=V.ref r/\Zat H5 r b (words SL g)) zs gs:=Paired.mapP hP2 fun v g ⟨r,b,e,_,h⟩=>⟨r,b,e,⟨sn5 _ _ (KT.lst kt h.1),sn5 _ _ (kt.tk _ _ h.2)⟩⟩;have okgs:∀g∈gs,okG g:=fun g hg=>by
    obtain⟨s,_,e⟩:=(memg g).mp hg;exact(okg _ _ e).2
   refine⟨_,rfl,sp,zs,fun i j=>ZaK (words SL (gs.getD i .nil)) (words SL (gs.getD j .nil)),rfl,SqL.of hsp5,(fun z=>by rw[z] at ez;cases ez),fun p hp=>⟨fun o=>SqL.of (by rw[Zh (fun z=>by rw[z,hp] at hsp5;cases hsp5)];exact hsp5),fun o i j x y hx hy=>?_,fun x hx=>?_⟩⟩
   ·have hil:=(List.getElem?_eq_some_iff.mp hx).1;have hjl:=(List.getElem?_eq_some_iff.mp hy).1;obtain⟨gi,hgi⟩:∃g,gs[i]?= some g:=⟨_,List.getElem?_eq_getElem (by lia)⟩;obtain⟨gj,hgj⟩:∃g,gs[j]?= some g:=⟨_,List.getElem?_eq_getElem (by lia)⟩;obtain⟨r1,b1,rfl,R1⟩:=ZaA hP5 hx hgi;obtain⟨r2,b2,rfl,R2⟩:=ZaA hP5 hy hgj;have nu:∀{r b:Addr}{ws:List Str},Zat H5 r b ws->Zat (upd H5 p o) r b ws:=fun h=>h.upd (fun z=>by have:=h.2;rw[z,hp] at this;cases this) (fun z=>by have:=h.1;rw[z,hp] at this;cases this);show Zkc K _ _ _ (ZaK (words SL (gs.getD i .nil)) (words SL (gs.getD j .nil)));rw[List.getD_eq_getElem?_getD,List.getD_eq_getElem?_getD,hgi,hgj];exact ZeR (nu R1) (nu R2) (okgs gi (List.mem_of_getElem? hgi)).2 (okgs gj (List.mem_of_getElem? hgj)).2
   ·have fm1:=fold_min (bf:=fun i j=>ZaK (words SL (gs.getD i .nil)) (words SL (gs.getD j .nil))) (fun i j k h1 h2=>Zcc h1 h2) (fun i=>Zbp _) (zs.length-1);generalize ZbC (fun i j=>ZaK (words SL (gs.getD i .nil)) (words SL (gs.getD j .nil))) (zs.length-1)=m at hx fm1;have hml:=(List.getElem?_eq_some_iff.mp hx).1;obtain⟨gm,hgm⟩:∃g,gs[m]?= some g:=⟨_,List.getElem?_eq_getElem (by lia)⟩;obtain⟨r1,b1,rfl,R1⟩:=ZaA hP5 hx hgm;have hgmm:=List.mem_of_getElem? hgm;have weq:words SL g=words SL gm:=by
     obtain⟨j,hj⟩:=List.getElem?_of_mem hgin;have hjl:=(List.getElem?_eq_some_iff.mp hj).1;have f1:=fm1 j (by lia);have f1:ZaK (words SL (gs.getD j .nil)) (words SL (gs.getD m .nil))=false:=f1;rw[List.getD_eq_getElem?_getD,List.getD_eq_getElem?_getD,hj,hgm] at f1;obtain⟨s,hs,es⟩:=(memg gm).mp hgmm;exact Zeb f1 (hmin s hs gm es)
    have sp6:Zi H5 (upd H5 p (.lst [])):=Zi.new hp;refine⟨r1,_,1,_,rfl,rfl,SqT.of (sp6 _ _ R1.2),rfl,Zc3 (SqL.of (sp6 _ _ e5')) (SqL.of (sp6 _ _ R1.1)) okg0.2 (okgs gm hgmm).2 ?_⟩;have kf:KT H (upd H5 p (.lst [])):=k3.trans (KT.of (sn5.trans sp6));show Q (.bl (decide (words SL g=words SL gm))) _;rw[decide_eq_true weq];exact q _ (KE.of kf) ((T'.same sn5).same sp6)
  ·have ec:=res'.one res;subst ec;have k3:KT H H3:=(KT.of s02).trans kt;have hsp3:=KT.lst kt hsp2;have gnil:gs=[]:=by
    cases hz:gs with
    | nil=>rfl
    | cons g l =>
     obtain⟨s,hs,es⟩:=(memg g).mp (by rw[hz];exact List.mem_cons_self ..);have:=(hLp.sz _ _ es).2.1;rw[hnone s hs] at this;cases this
   have znil:zs=[]:=List.eq_nil_of_length_eq_zero (by rw[hzg,gnil];rfl);subst znil;show u5 _ _ _;refine Zaz e5 ?_;refine⟨_,rfl,by decide,fun nl hnl=>⟨sp,nl,_,rfl,rfl,SqL.of ((Zi.new hnl) _ _ hsp3),SqL.of Zb,_,rfl,Za8 ?_⟩⟩;have sn:=Zi.new (o:=.lst []) hnl;generalize upd H3 nl (.lst [])=H4 at sn ⊢;have k4:KT H H4:=k3.trans (KT.of sn);show u6 _ _ _;refine Zaz e6 ?_;refine⟨_,rfl,a,fm,c',ss,rfl,Form.kt hF k4.tk,hD.n64,res,hSt.mono k4.tk,hD.s,by lia,fun⟨s,hs,hx⟩=>absurd (hnone s hs) hx,fun _ H5 s5=>⟨false,rfl,Zdb ?_⟩⟩;exact⟨_,rfl,rfl,_,rfl,Zdb ⟨_,rfl,rfl,q _ (KE.of (k4.trans (KT.of s5))) ((T'.same sn).same s5)⟩⟩
  ·have ec:=res'.one res;subst ec;exact⟨rfl,rfl,rfl,s3,hx,hy⟩
 ·rintro σ' C d' H' e oe ⟨rfl,rfl,rfl,sm,hx,hy⟩ he hc hdd hf;have s0:Zi H H':=s02.trans sm;have ne:∀b o,H' b=some o->(∀x,o ≠ .ext x)->b≠e:=fun b o h n z=>by
   rw[z,he] at h;injection h with h;exact n _ h.symm
  have k0:KE H (upd H' e (Known e oe)):=fun b o h n m=>by
   have h1:=s0 _ _ h;rw[Zh (ne b o h1 m)];exact h1
  have T1:ZbG (upd H' e (Known e oe)) Pt Zn:=(T0.same s0).keep (fun ps h=>by
   rw[Zh (ne _ _ h fun _ z=>nomatch z)]
   exact h) fun b o u h=>by
   rw[Zh (ne _ _ h fun _ z=>nomatch z)]
   exact h
  have e3':(upd H' e (Known e oe)) e=some (Known e oe):=Zb;have hsp3:(upd H' e (Known e oe)) sp=some (.lst zs):=by
   have h:=sm _ _ hsp2;rw[Zh (ne _ _ h fun _ z=>nomatch z)]
   exact h
  generalize upd H' e (Known e oe)=H1' at k0 e3' T1 hsp3;refine⟨[X_GroveError],X_TooBig,fun _=>true,.one xc.c_GroveError,hc,?_,rfl,e3',?_⟩
  ·intro D hD;obtain rfl:=List.mem_singleton.mp hD;exact xc.m_TooBig_GroveError
  refine⟨_,rfl,?_⟩;have gnil:gs=[]:=by
   cases hz:gs with
   | nil=>rfl
   | cons g l =>
    obtain⟨s,hs,es⟩:=(memg g).mp (by rw[hz];exact List.mem_cons_self ..);obtain⟨_,a1,a2,_⟩:=hLp.sz _ _ es;have:=hy s hs;rw[a1] at this;exact absurd (decide_eq_true a2) (by rw[show decide (gsz g<=300)=false from this];decide)
  have znil:zs=[]:=List.eq_nil_of_length_eq_zero (by rw[hzg,gnil];rfl);subst znil;show u5 _ _ _;refine Zaz e5 ?_;refine⟨_,rfl,by decide,fun nl hnl=>⟨sp,nl,_,rfl,rfl,SqL.of ((Zi.new hnl) _ _ hsp3),SqL.of Zb,_,rfl,Za8 ?_⟩⟩;have sn:=Zi.new (o:=.lst []) hnl;generalize upd H1' nl (.lst [])=H4 at sn ⊢;have k4:KE H H4:=k0.trans (KE.of (KT.of sn));show u6 _ _ _;refine Zaz e6 ?_;refine⟨_,rfl,a,fm,c,ss,rfl,Form.kt hF k4.tk,hD.n64,res,hSt.mono k4.tk,hD.s,by lia,fun _ H5 s5=>⟨true,rfl,Za8 ?_⟩,fun hn=>?_⟩
  ·have e5':=s5 _ _ (sn _ _ e3');show u7 _ _ _;refine Zaz e7 ?_;refine⟨_,rfl,e,oe,X_TooBig,X_TooBig,true,rfl,e5',hc,.inl ⟨rfl,rfl⟩,_,rfl,Zdb ?_⟩;refine⟨_,rfl,(show(2:Nat)<=sizeLine from by decide),fun t2 ht2=>?_⟩;have st:=Zi.new (o:=.tup [.ref X_TooMany,.ref X_NoneFits]) ht2;exact⟨e,oe,X_TooBig,X_TooMany,X_NoneFits,t2,"place",rfl,st _ _ e5',hc,hdd,hf,Zb,xc.f_TooBig_place,⟨xc.nn_TooBig_TooMany,xc.c_TooMany.cl,xc.m_TooBig_TooMany,xc.not_TooBig_TooMany⟩,⟨xc.nn_TooBig_NoneFits,xc.c_NoneFits.cl,xc.m_TooBig_NoneFits,xc.not_TooBig_NoneFits⟩,_,rfl,q _ (k4.trans (KE.of (KT.of (s5.trans st)))) (((T1.same sn).same s5).same st)⟩
  ·obtain⟨s,hs,hx⟩:=hx;exact absurd (hn s hs) hx
theorem WsV.monoX{H H':Hp}{vs:List V}{G:List (Option (Gr Str))}{fl:Addr}(h:WsV H vs G)(hn:∀b,V.ref b∈vs->b≠fl)(k:∀b xs,b≠fl->H b=some (.lst xs)->H' b=some (.lst xs)):WsV H' vs G:=⟨h.1,fun i v e=>by
 have hv:=h.2 i v e;cases ho:gO G i with
 | none=>rw[ho] at hv;exact hv
 | some g =>
  rw[ho] at hv;obtain⟨b,rfl,hb⟩:=hv;exact⟨b,rfl,k _ _ (hn b (List.mem_of_getElem? e)) hb⟩⟩
def dG:Option (Gr Str)->PyData
 | none=>.none
 | some g=>.list ((words SL g).map PyData.str)
theorem ZbF{K:PySem.W.Frag}{H:Hp}:∀ws:List Str,DpAll K H (ws.map V.str) (ws.map PyData.str)
 | []=>.nil
 | w::ws=>.cons (.str w) (ZbF ws)
theorem ZdZ{K:PySem.W.Frag}{H:Hp}:∀{vs:List V}{G:List (Option (Gr Str))},vs.length=G.length->(∀(k:Nat) v,vs[k]?= some v->wV H v (gO G k))->DpAll K H vs (G.map dG)
 | [],[],_,_=>.nil
 | [],_::_,h,_=>by simp at h
 | _::_,[],h,_=>by simp at h
 | v::vs,o::G,h,hw=>by
  have h0:wV H v o:=hw 0 v rfl;refine .cons ?_ (ZdZ (by simpa using h) fun k v e=>hw (k+1) v e);cases o with
  | none =>
   obtain rfl:v=.non:=h0;exact .non
  | some g =>
   obtain⟨b,rfl,hb⟩:=h0;exact .lst (SqL.of hb) (ZbF _)
theorem Zi1:∀{G:List (Option (Gr Str))},(∀o∈G,∀g,o=some g->OkW (words SL g))->PyData.canLayAll0 (G.map dG)=true
 | [],_=>rfl
 | o::G,h=>by
  show((dG o).canLay0&&PyData.canLayAll0 (G.map dG))=true;rw[Zi1 fun x hx=>h x (List.mem_cons_of_mem _ hx),Bool.and_true];cases o with
  | none=>rfl
  | some g=>exact ZbZ (h _ (List.mem_cons_self ..) g rfl)
theorem Zi0:∀G:List (Option (Gr Str)),PyData.depthAll (G.map dG)<=1
 | []=>Nat.zero_le _
 | o::G=>by
  show max (dG o).depth (PyData.depthAll (G.map dG))<=1;have h1:=Zi0 G;have h2:(dG o).depth<=1:=by
   cases o with
   | none=>exact Nat.zero_le _
   | some g =>
    show PyData.depthAll ((words SL g).map PyData.str)+1<=1;rw[Za4];exact Nat.le_refl _
  lia
theorem ZdJ{H:Hp}{r h1 h2 h3:Addr}{n:Nat}(e:H r=some (.tup [.int (n:Int),.ref h1,.ref h2,.ref h3]))(e1:H h1=some (.tup []))(e2:H h2=some (.tup []))(e3:H h3=some (.tup [])):Form H r ⟨n,[],[]⟩/\Sts H r [] :=
 ⟨⟨⟨fun _ h=>(nomatch h),fun _ h=>(nomatch h)⟩,h1,h2,h3,[],e,e2,e3,rfl,fun _ _ _ h=>(nomatch h)⟩,_,_,_,h1,e,e1⟩
theorem Zky{n:Nat}{c:Cs}{G:List (Option (Gr Str))}(h:LG ⟨n,[],[]⟩ c G)(k:Nat):gO G k=none:=by
 obtain⟨D,h1,_⟩:=h;cases e:gO G k with
 | none=>rfl
 | some g =>
  rcases h1.way k g e with z|⟨q,z,_⟩
  ·cases z
  ·cases z
set_option maxHeartbeats 4000000 in
theorem ZkM(B:∀x∈ZcI,mg x=none)(g_l_shape:Has P w K mg base "_law_shape" ["_law_script"] 2 (ZcL K)) (g_l_cell:Has P w K mg base "_law_cell" ["_law_script","_law_k"] 1 (ZcA K)) (g_l_with_bound:Has P w K mg base "_law_with_bound" ["_law_one","_law_number","_law_word"] 1 Zc1) (g_l_tag:Has P w K mg base "_law_tag" ["_law_seed","_law_v"] 1 ZfU) (g_least:Has P w K mg base "least" ["form"] 7 (Zj6 K Pt)) (g_l_lists:Has P w K mg base "_law_lists" ["_law_one","_law_found"] 2 ZcX) (g_l_start_good:Has P w K mg base "_law_start_good" ["_law_one","_law_lists_here"] 8 (Zc4 Pt)) (g_l_good:Has P w K mg base "_law_good" ["_law_one","_law_lists_here"] 1 ZdV) (g_least_of:HasX P w K mg base "least_of" ["form"] 7 (Zk4 K Pt X_TooBig)) (F:Fun K "law" "law" Zbe f fd):FnOk P w K mg base CX0 9 f fd ["_law_script"] (Fg.Zf1 K [Pt]):=by
 refine F.ok Zdm (fun vs H Q E h=>?_) (fun cdv A outer s H vs Q E hr h=>?_)
 ·obtain⟨a,ns,rfl,_⟩:=h;rfl
 obtain⟨a,ns,rfl,hS,h63,hT,q⟩:=h;have T0:ZbG H Pt Zn:=ZbG.new _ (hT Pt (List.mem_singleton.mpr rfl));have hu:=Zb4 hr;refine ZaM ((Zj Zbe).drop 9) (Zf (ZR (ZeA (ZaI (ZfN hu) (ZF g_least hr rfl (Za (ZK (Za Ze (Za (ZK Zd) (Za (ZK Zd) (Za (ZK Zd) Zd))))) Zd)) (Zax (Za ZZ Zd)) (Zt _)) (Zei (ZaI (ZfN hu) (ZF g_l_lists hr rfl (Za (pv 1) (Za (ZF g_least hr rfl (Za (pv 1) Zd)) Zd))) (pv 4) (Zt _)))))) (fun u9 h9 e9=>?_);refine ZaM ((Zj Zbe).drop 8) (Zc (Zas (PW.pt (Zdc (Zr (ZbL hu) (ZF g_least hr rfl (Za (ZK (Za Ze (Za (ZK Zd) (Za (ZK Zd) (Za (ZK Zd) Zd))))) Zd)) (Zax Zd) (Zt _)) (Zch (Zr Za9 (Zhb g_least_of ZiF hr rfl (Za (ZK (Za Ze (Za (ZK Zd) (Za (ZK Zd) (Za (ZK Zd) Zd))))) Zd)) ZZ (Zt _)))))
   (Zf (ZR ZcY))
   ZG) h9) (fun u8 h8 e8=>?_)
 refine ZaM ((Zj Zbe).drop 7) (Zc (Zc2 (ZK (Za (ZK (Za Zcl (Za (ZK Zd) Zd))) Zd)) (Zds (pv 3) Ze set_list)) h8) (fun u7 h7 e7=>?_);refine ZaM ((Zj Zbe).drop 6) (Zc (Zad (Zbn PySem.F.plainAttrs_list PySem.F.slot_list_append PySem.F.type_list_append ZJ (pv 3) (Za (ZK Zd) Zd))) h7) (fun u6 h6 e6=>?_);refine ZaM ((Zj Zbe).drop 5) (Zc (Zas (PW.pt (Zdc (Zr ZbP (pv 4) ZZ (Zt _)) (Zdc (ZbM (Z8 (ZF g_l_good hr rfl (Za (pv 1) (Za (pv 4) Zd))) (fun _=>rfl))) (Zch (ZbM (Z8 (ZF g_l_start_good hr rfl (Za (pv 1) (Za (pv 4) Zd))) (fun _=>rfl)))))))
   (Zf (ZR ZcY))
   ZG) h6) (fun u5 h5 e5=>?_)
 refine ZaM ((Zj Zbe).drop 4) (Zc (Zo (i:=4) Zdm.nd rfl (Or.inl rfl) (ZF g_l_lists hr rfl (Za (pv 1) (Za (pv 3) Zd)))) h5) (fun u4 h4 e4=>?_);refine ZaM ((Zj Zbe).drop 3) (Zc (Zo (i:=3) Zdm.nd rfl (Or.inl rfl) (ZF g_least hr rfl (Za (pv 1) Zd))) h4) (fun u3 h3 e3=>?_);refine ZaM ((Zj Zbe).drop 2) (Zc (Zas (PW.pt (ZcJ (Zr Zco (Zk ZX (pv 2) Ze) Ze (Zt _)) (ZbD (Zr ZjE (Zw ZP (pv 1) Ze (fun _ _=>rfl)) Ze (Zt _)))))
   (Zf (Zo (i:=1) Zdm.nd rfl (Or.inl rfl) (ZF g_l_with_bound hr rfl (Za (pv 1) (Za (Zk Z2 Ze (Zk ZX (Zk ZS (pv 2) Ze) Ze)) (Za (ZF g_l_tag hr rfl (Za (ZF g_l_cell hr rfl (Za (pv 0) (Za Ze Zd))) (Za Ze Zd))) Zd))))))
   ZG) h3) (fun u2 h2 e2=>?_)
 refine ZaM ((Zj Zbe).drop 1) (Zc (Zo (i:=2) Zdm.nd rfl (Or.inl rfl) (Zk ZS (ZF g_l_cell hr rfl (Za (pv 0) (Za Ze Zd))) Ze)) h2) (fun u1 h1 e1=>?_);refine ZaM ((Zj Zbe).drop 0) (Zc (Zo (i:=1) Zdm.nd rfl (Or.inl rfl) (ZF g_l_shape hr rfl (Za (ZiH Zjp (pv 0) Ze5 (Zht Ze)) Zd))) h1) (fun u0 h0 e0=>?_);refine⟨u0,h0,?_⟩;refine Zaz e0 ?_;have cut60:Zjk (ns.map V.int) none (some 60)=(ns.take 60).map V.int:=by
  rw[List.map_take];exact ZiS _ 60
 refine⟨_,rfl,_,rfl,a,_,rfl,hS,fun pc hpc=>?_⟩;have sc0:Zi H (upd H pc (.lst (Zjk (ns.map V.int) none (some 60)))):=Zi.new hpc;refine⟨pc,ns.take 60,rfl,SqL.of (by rw[Zb,cut60]),by rw[List.length_take];lia,fun r0 f0 ss0 H1 s1 hF0 hSt0 hD0 hb0=>?_⟩;have s01:=sc0.trans s1;have hS1:=s01.seq hS;show u1 _ _ _;refine Zaz e1 ?_;refine⟨_,rfl,a,ns,3,rfl,hS1,h63,by decide,by decide,fun c3 c30 c31=>?_⟩;refine⟨_,_,rfl,rfl,⟨by decide,by decide⟩,?_⟩;have tail:∀(r:Addr)(fm:Fm)(ss:List Nat)(cv:Int)(H1:Hp),Zi H H1->Form H1 r fm->Sts H1 r ss->Drw fm ss->u3 { nx:=fun _ H'=>Q .non H',rt:=Q } [some (.ref a),some (.ref r),some (.int cv),none,none] H1:=by
  intro r fm ss cv H1 s1 hF hSt hD;have ok:=hF.ok;have T1:=T0.same s1;refine Zaz e3 ?_;refine⟨_,rfl,r,fm,rfl,hF,hD.n64,hD.r,hD.t,T1,fun fl c us G H2 k2 T2 nfl efl hG res hL=>?_⟩;obtain⟨D,hLp,hLa⟩:=id hL;have hGl:=hLp.len;have hg3:∀k g,gO G k=some g->gsz g<=300:=fun k g e=>(hLp.sz k g e).2.2.1;show u4 _ _ _;refine Zaz e4 ?_;refine⟨_,rfl,_,rfl,r,fl,fm,us,G,rfl,Form.kt hF k2.tk,hD.n64,efl,hG,hGl,hg3,fun wl ws H3 s3 nwl ewl hW hnew=>?_⟩;have nfl:∀b,V.ref b∈ws->b≠fl:=fun b hb z=>by
   have:=hnew b hb;rw[z,efl] at this;cases this
  have nwf:wl≠fl:=fun z=>by rw[z,efl] at nwl;cases nwl
  have k3:KT H1 H3:=k2.trans (KT.of s3);have efl3:=s3 _ _ efl;show u5 _ _ _;refine Zaz e5 ?_;refine⟨_,rfl,rfl,_,rfl,Za8 ?_⟩;refine⟨_,rfl,_,rfl,r,wl,fm,c,ws,G,rfl,Form.kt hF k3.tk,hD.n64,res,hL,ewl,hW,hD.t,fun H4 s4=>⟨true,rfl,Za8 ?_⟩⟩;have k4:KT H1 H4:=k3.trans (KT.of s4);refine⟨_,rfl,_,rfl,r,wl,fm,ss,c,ws,G,rfl,Form.kt hF k4.tk,hSt.mono k4.tk,hD,res,hL,s4 _ _ ewl,hW.mono (Zi.lk s4),(T2.same s3).same s4,fun H5 k5 T5=>⟨true,rfl,Za8 ?_⟩⟩;have efl5:=k5.lst (s4 _ _ efl3);have ewl5:=k5.lst (s4 _ _ ewl);have hW5:=(hW.mono (Zi.lk s4)).mono k5.lk;have tk5:TK H1 H5:=fun b xs e=>k5.tk _ _ (k4.tk _ _ e);have hul:=hG.1;have hn64:=hD.n64;show u6 _ _ _;refine Zaz e6 ?_;refine⟨_,rfl,.inl ⟨rfl,_,SqL.of efl5⟩,by decide,fun t0 ht0=>⟨fl,_,_,rfl,rfl,(Zi.new ht0) _ _ efl5,Zz (by lia),?_⟩⟩;have k6:∀b o,b≠fl->H5 b=some o->(upd (upd H5 t0 (.tup [])) fl (.lst (us ++ [.ref t0]))) b=some o:=fun b o n e=>by
   rw[Zh n];exact(Zi.new ht0) _ _ e
  have efl6:(upd (upd H5 t0 (.tup [])) fl (.lst (us ++ [.ref t0]))) fl=some (.lst (us ++ [.ref t0])):=Zb;show u7 _ _ (upd (upd H5 t0 (.tup [])) fl (.lst (us ++ [.ref t0])));generalize upd (upd H5 t0 (.tup [])) fl (.lst (us ++ [.ref t0]))=H6 at k6 efl6 ⊢;refine Zaz e7 ?_;refine⟨by decide,fun t1 ht1=>⟨(show(2:Nat)<=sizeLine from by decide),fun t2 ht2=>⟨(show(1:Nat)<=sizeLine from by decide),fun t3 ht3=>?_⟩⟩⟩;have s7:=(Zi.new (o:=.tup []) ht1).trans ((Zi.new (o:=.tup [.str (Str.ofString "z"),.ref t1]) ht2).trans (Zi.new (o:=.tup [.ref t2]) ht3));refine⟨_,rfl,fl,_,_,_,rfl,rfl,s7 _ _ efl6,ZcH (k:=0) (by rw[List.length_append];show 0<us.length+1;lia),?_⟩;have k8:∀b o,b≠fl->H5 b=some o->(upd (upd (upd (upd H6 t1 (.tup [])) t2 (.tup [.str (Str.ofString "z"),.ref t1])) t3 (.tup [.ref t2])) fl (.lst ((us ++ [V.ref t0]).set 0 (V.ref t3)))) b=some o:=fun b o n e=>by
   rw[Zh n];exact s7 _ _ (k6 b o n e)
  show u8 _ _ (upd (upd (upd (upd H6 t1 (.tup [])) t2 (.tup [.str (Str.ofString "z"),.ref t1])) t3 (.tup [.ref t2])) fl (.lst ((us ++ [V.ref t0]).set 0 (V.ref t3))));generalize upd (upd (upd (upd H6 t1 (.tup [])) t2 (.tup [.str (Str.ofString "z"),.ref t1])) t3 (.tup [.ref t2])) fl (.lst ((us ++ [V.ref t0]).set 0 (V.ref t3)))=H8 at k8 ⊢;have nt:∀b o,H5 b=some o->(∀xs,o ≠ .lst xs)->b≠fl:=fun b o e n z=>by
   rw[z,efl5] at e;injection e with e;exact n _ e.symm
  have tk8:TK H5 H8:=fun b xs e=>k8 _ _ (nt _ _ e fun _ z=>nomatch z) e
  have T8:ZbG H8 Pt Zn:=T5.keep (fun ps e=>k8 _ _ (nt _ _ e fun _ z=>nomatch z) e) fun b o u e=>k8 _ _ (nt _ _ e fun _ z=>by cases z) e
  have ewl8:=k8 _ _ nwf ewl5;have hW8:=hW5.monoX nfl fun b xs n e=>k8 _ _ n e;have hF8:Form H8 r fm:=Form.kt (Form.kt hF tk5) tk8;refine Zaz e8 ?_;refine⟨by decide,fun a1 ha1=>⟨by decide,fun a2 ha2=>⟨by decide,fun a3 ha3=>⟨(show(4:Nat)<=sizeLine from by decide),fun a4 ha4=>?_⟩⟩⟩⟩;have p4:=Zi.new (o:=.tup [.int 0,.ref a1,.ref a2,.ref a3]) ha4;have p3:=(Zi.new (o:=.tup []) ha3).trans p4;have p2:=(Zi.new (o:=.tup []) ha2).trans p3;have p1:=(Zi.new (o:=.tup []) ha1).trans p2;obtain⟨z1,z2⟩:=ZdJ (n:=0) Zb (p2 _ _ Zb) (p3 _ _ Zb) (p4 _ _ Zb);generalize upd (upd (upd (upd H8 a1 (.tup [])) a2 (.tup [])) a3 (.tup [])) a4 (.tup [.int 0,.ref a1,.ref a2,.ref a3])=H9 at p1 z1 ⊢;refine⟨a4,_,rfl,z1,by decide,by decide,fun _ h=>(nomatch h),T8.same p1,fun r1 c1 us1 G1 H10 k10 T10 _ er1 hG1 _ hL1=>?_⟩
  have hl1:us1=[]:=by
   obtain⟨D1,hl,_⟩:=hL1;exact List.eq_nil_of_length_eq_zero (hG1.1.trans hl.len)
  subst hl1;refine⟨by decide,fun nl hnl=>⟨r1,nl,[],rfl,rfl,SqL.of ((Zi.new hnl) _ _ er1),SqL.of Zb,_,rfl,Za8 ?_⟩⟩;have k11:KT H8 (upd H10 nl (.lst [])):=(KT.of p1).trans (k10.trans (KT.of (Zi.new hnl)));have T11:=T10.same (Zi.new (o:=.lst []) hnl);generalize upd H10 nl (.lst [])=H11 at k11 T11 ⊢;refine⟨by decide,fun b1 hb1=>⟨by decide,fun b2 hb2=>⟨by decide,fun b3 hb3=>⟨(show(4:Nat)<=sizeLine from by decide),fun b4 hb4=>?_⟩⟩⟩⟩;have o4:=Zi.new (o:=.tup [.int 0,.ref b1,.ref b2,.ref b3]) hb4;have o3:=(Zi.new (o:=.tup []) hb3).trans o4;have o2:=(Zi.new (o:=.tup []) hb2).trans o3;have o1:=(Zi.new (o:=.tup []) hb1).trans o2;obtain⟨y1,y2⟩:=ZdJ (n:=0) Zb (o2 _ _ Zb) (o3 _ _ Zb) (o4 _ _ Zb);generalize upd (upd (upd (upd H11 b1 (.tup [])) b2 (.tup [])) b3 (.tup [])) b4 (.tup [.int 0,.ref b1,.ref b2,.ref b3])=H12 at o1 y1 y2 ⊢;refine⟨b4,_,[],rfl,y1,by decide,by decide,fun _ h=>(nomatch h),T11.same o1,y2,fun _ h=>(nomatch h),by decide,fun _ _ _ _ _ _ _ _ _ _ _ _ hin _=>?_,fun c' H13 _ _ k13 T13=>?_,fun _ _ _ hx _ _=>?_⟩
  ·obtain⟨s,hs,_⟩:=hin;cases hs
  rotate_left
  ·obtain⟨s,hs,_⟩:=hx;cases hs
  refine⟨rfl,_,rfl,Za8 ?_⟩;have k13':KT H8 H13:=k11.trans ((KT.of o1).trans k13);show u9 _ _ _;refine Zaz e9 ?_;refine⟨by decide,fun d1 hd1=>⟨by decide,fun d2 hd2=>⟨by decide,fun d3 hd3=>⟨(show(4:Nat)<=sizeLine from by decide),fun d4 hd4=>?_⟩⟩⟩⟩;have l4:=Zi.new (o:=.tup [.int 1,.ref d1,.ref d2,.ref d3]) hd4;have l3:=(Zi.new (o:=.tup []) hd3).trans l4;have l2:=(Zi.new (o:=.tup []) hd2).trans l3;have l1:=(Zi.new (o:=.tup []) hd1).trans l2;obtain⟨x1,x2⟩:=ZdJ (n:=1) Zb (l2 _ _ Zb) (l3 _ _ Zb) (l4 _ _ Zb);generalize upd (upd (upd (upd H13 d1 (.tup [])) d2 (.tup [])) d3 (.tup [])) d4 (.tup [.int 1,.ref d1,.ref d2,.ref d3])=H14 at l1 x1 ⊢;refine⟨d4,_,rfl,x1,by decide,by decide,fun _ h=>(nomatch h),T13.same l1,fun r2 c2 us2 G2 H15 k15 T15 _ er2 hG2 _ hL2=>?_⟩
  have hl2:us2=[.non]:=by
   obtain⟨D2,hl,_⟩:=id hL2;have e1:us2.length=1:=hG2.1.trans hl.len
   match us2,e1 with
   | [v],_ =>
    have:=hG2.2 0 v rfl;rw[Zky hL2 0] at this;rw[show v=.non from this]
  subst hl2;refine⟨(show(1:Nat)<=sizeLine from by decide),fun ml hml=>?_⟩;have sml:=Zi.new (o:=.lst [.non]) hml;refine eq_data (d:=.list [.none]) (.lst (SqL.of (sml _ _ er2)) (.cons .non .nil)) (.lst (SqL.of Zb) (.cons .non .nil)) rfl (by decide) ⟨_,rfl,Zdb ?_⟩;have k16:KT H8 (upd H15 ml (.lst [.non])):=k13'.trans ((KT.of l1).trans (k15.trans (KT.of sml)));have T16:=T15.same sml;generalize upd H15 ml (.lst [.non])=H16 at k16 T16 ⊢;refine⟨_,rfl,_,rfl,r,fm,rfl,Form.kt hF8 k16.tk,hD.n64,hD.r,hD.t,T16,fun fl2 c' us' G' H17 k17 T17 _ efl2 hG' res' hL'=>?_⟩;have ec:=res'.one res;subst ec;have eG:=LG.one res ok hL' hL;subst eG;refine⟨r,fl2,fm,us',G',rfl,Form.kt (Form.kt hF8 k16.tk) k17.tk,hD.n64,efl2,hG',hGl,hg3,fun wl2 ws2 H18 s18 _ ewl2 hW2 _=>?_⟩;have k18:KT H8 H18:=k16.trans (k17.trans (KT.of s18));have hW8':WsV H18 ws G':=hW8.mono fun b xs e=>KT.lst k18 e;refine⟨_,rfl,eq_data (d:=.list (G'.map dG)) (.lst (SqL.of ewl2) (ZdZ hW2.1 hW2.2)) (.lst (SqL.of (KT.lst k18 ewl8)) (ZdZ hW8'.1 hW8'.2)) ?_ ?_ (q _)⟩
  ·refine Zi1 fun o ho g eg=>?_;obtain⟨k,hk⟩:=List.getElem?_of_mem ho;have:gO G' k=some g:=by
    unfold gO;rw[List.getD_eq_getElem?_getD,hk,eg];rfl
   exact(hLp.sz k g this).2.2.2.2
  ·have:=Zi0 G';show PyData.depthAll (G'.map dG)+1<=200;lia
 show u2 _ _ _;refine Zaz e2 ?_;refine⟨_,rfl,_,_,rfl,rfl,(by show(0:Int)<4;decide),rfl,_,rfl,ZbI (fun _=>?_) (fun _=>Za8 (tail r0 f0 ss0 _ H1 s01 hF0 hSt0 hD0))⟩;obtain⟨h1',h2',h3',qs',ea',e2',hR'⟩:=hF0.ex;refine⟨_,rfl,r0,_,0,_,rfl,rfl,SqT.of ea',rfl,_,_,rfl,rfl,_,rfl,ZbI (fun d=>?_) (fun _=>tail r0 f0 ss0 _ H1 s01 hF0 hSt0 hD0)⟩;have d:=of_decide_eq_true d;obtain⟨k,ek,hk⟩:=ZeN (c3 / 16 / 4) (n:=6) (by decide);refine⟨_,rfl,_,rfl,_,_,rfl,rfl,⟨by decide,by decide⟩,_,_,rfl,rfl,(by show(0:Int)<6;decide),_,_,rfl,rfl,_,rfl,a,ns,1,rfl,hS1,h63,by decide,by decide,fun sd _ _=>?_⟩;refine⟨_,_,rfl,fun tg htl _=>?_⟩;refine⟨r0,298+k,tg,f0,?_,by lia,by lia,htl,hF0,by lia,hb0.1,hD0.t,hb0.2,fun r' f' ss' H2 s2 hF' hSt' hD'=>tail r' f' ss' _ H2 (s01.trans s2) hF' hSt' hD'⟩;show [V.ref r0,V.int (298+c3 / 16 / 4 % ((6:Nat):Int)),V.str tg]=_;rw[ek,show(298:Int)+(k:Int)=((298+k:Nat):Int) by lia]
end
theorem ZkU{l:PySem.W.OpenLaw}{w:World}{K:PySem.W.Frag}{h:Heap}{mg:Str->Option Value}{fa f1 f2 f3 f4 f5 f6 f7 f8 f9 f10 f11 f12 f13 f14 f15 f16 f17 f18 f19 f20 f21 f22:Addr}(X:K.In h)(G:h.Ns mainGlobals mg)(hfa:mg "law" = some (.ref fa))
  {od1 an1 od2 an2 od3 an3 od4 an4 od5 an5 od6 an6 od7 an7 od8 an8 od9 an9 od10 an10 od11 an11 od12 an12 od13 an13 od14 an14 od15 an15 od16 an16 od17 an17 od18 an18 od19 an19 od20 an20 od21 an21 od22 an22:Option Addr} {sl1 sl2 sl3 sl4 sl5 sl6 sl7 sl8 sl9 sl10 sl11 sl12 sl13 sl14 sl15 sl16 sl17 sl18 sl19 sl20 sl21 sl22:Array (Option Value)} {oc1 kV1 dc1 pm1 cd1 ct1 oc2 kV2 dc2 pm2 cd2 ct2 oc3 kV3 dc3 pm3 cd3 ct3 oc4 kV4 dc4 pm4 cd4 ct4 oc5 kV5 dc5 pm5 cd5 ct5 oc6 kV6 dc6 pm6 cd6 ct6 oc7 kV7 dc7 pm7 cd7 ct7 oc8 kV8 dc8 pm8 cd8 ct8 oc9 kV9 dc9 pm9 cd9 ct9 oc10 kV10 dc10 pm10 cd10 ct10 oc11 kV11 dc11 pm11 cd11 ct11 oc12 kV12 dc12 pm12 cd12 ct12 oc13 kV13 dc13 pm13 cd13 ct13 oc14 kV14 dc14 pm14 cd14 ct14 oc15 kV15 dc15 pm15 cd15 ct15 oc16 kV16 dc16 pm16 cd16 ct16 oc17 kV17 dc17 pm17 cd17 ct17 oc18 kV18 dc18 pm18 cd18 ct18 oc19 kV19 dc19 pm19 cd19 ct19 oc20 kV20 dc20 pm20 cd20 ct20 oc21 kV21 dc21 pm21 cd21 ct21 oc22 kV22 dc22 pm22 cd22 ct22:Value}
  {X_GroveError X_TooMany X_TooBig X_NoneFits:Addr}
  (xn_GroveError:PySem.W.nsIn K mainGlobals "GroveError" = some (some (.ref X_GroveError)))
  (xn_TooMany:PySem.W.nsIn K mainGlobals "TooMany" = some (some (.ref X_TooMany)))
  (xn_TooBig:PySem.W.nsIn K mainGlobals "TooBig" = some (some (.ref X_TooBig)))
  (xn_NoneFits:PySem.W.nsIn K mainGlobals "NoneFits" = some (some (.ref X_NoneFits)))
  {g0 goc:Value} {gdd god:Option Addr} {gcd:ClassData} {gsl gsl':Array (Option Value)} {ges:Array DictEntry} {gep:Nat} (xg1:K.lookup X_GroveError=some ⟨g0,gdd,.cls gcd,gsl⟩) (xg2:K.lookup gcd.ns=some ⟨goc,god,.dict ges gep,gsl'⟩) (xg3:keysOk ges=true) (xg4:PySem.W.nsIn K gcd.ns "__init__" = some none)
  (xb1:PySem.W.specialIn K (.ref X_GroveError) "__getattribute__" = some (some (.builtin "type.__getattribute__"))) (xb2:PySem.W.readsIn K X_GroveError (.type "type")=true) (xb3:PySem.W.findCls K (.ref X_GroveError) (.type "type") "__init__" = some (.val (.builtin "ValueError.__init__"))) (xb4:PySem.W.isClsIn K X_GroveError=true) (xb5:PySem.W.typeIn K (.ref X_GroveError)=some (.type "type"))
  (d1_GroveError:PySem.W.isClsIn K X_GroveError=true) (d2_GroveError:PySem.W.mroIn K X_GroveError (.type "BaseException")=some true) (d3_GroveError:PySem.W.instIn K (.ref X_GroveError) (.type "tuple")=some false)
  (d1_TooMany:PySem.W.isClsIn K X_TooMany=true) (d2_TooMany:PySem.W.mroIn K X_TooMany (.type "BaseException")=some true) (d3_TooMany:PySem.W.instIn K (.ref X_TooMany) (.type "tuple")=some false)
  (d1_TooBig:PySem.W.isClsIn K X_TooBig=true) (d2_TooBig:PySem.W.mroIn K X_TooBig (.type "BaseException")=some true) (d3_TooBig:PySem.W.instIn K (.ref X_TooBig) (.type "tuple")=some false)
  (d1_NoneFits:PySem.W.isClsIn K X_NoneFits=true) (d2_NoneFits:PySem.W.mroIn K X_NoneFits (.type "BaseException")=some true) (d3_NoneFits:PySem.W.instIn K (.ref X_NoneFits) (.type "tuple")=some false)
  {nm_TooBig q_TooBig:Str} {N_TooBig:Addr} {bs_TooBig:List Value} {hdct_TooBig:Bool} {sn_TooBig:List Str} {sub_TooBig:List Value} {ab_TooBig:Bool} {col_TooBig:Option Bool} {dd_TooBig:Option Addr} {k0_TooBig k1_TooBig k2_TooBig k3_TooBig k5_TooBig:Option Value}
  (xl_TooBig:K.lookup X_TooBig=some (excClassObj nm_TooBig q_TooBig X_TooBig N_TooBig bs_TooBig (.ref X_GroveError::bmV) hdct_TooBig sn_TooBig sub_TooBig ab_TooBig col_TooBig dd_TooBig k0_TooBig k1_TooBig k2_TooBig k3_TooBig k5_TooBig "ValueError.__new__"))
  (xc_TooBig:PySem.W.specialIn K (.ref X_TooBig) "__call__" = some (some (.builtin "type.__call__"))) (xt_TooBig:PySem.W.instIn K (.ref X_TooBig) (.type "type")=some true) (xk_TooBig:PySem.W.keepIn K (.ref X_TooBig)=true) (xv_TooBig:PySem.W.mroIn K X_TooBig (.type "ValueError")=some true)
  (xe_TooBig:X_TooBig≠X_GroveError)
  (o1_TooBig_TooMany:PySem.W.findIn K (.ref X_TooBig) "__class__" = some (some (.builtin "object.__class__"))) (o2_TooBig_TooMany:PySem.W.specialIn K (.builtin "object.__class__") "__get__" = some (some (.builtin "getset_descriptor.__get__"))) (o3_TooBig_TooMany:PySem.W.takesIn K (.builtin "object.__class__")=some true) (o4_TooBig_TooMany:PySem.W.mroIn K X_TooBig (.type "object")=some true) (o5_TooBig_TooMany:PySem.W.typeIn K (.ref X_TooMany)=some (.type "type")) (o6_TooBig_TooMany:X_TooBig≠X_TooMany)
  (o1_TooBig_NoneFits:PySem.W.findIn K (.ref X_TooBig) "__class__" = some (some (.builtin "object.__class__"))) (o2_TooBig_NoneFits:PySem.W.specialIn K (.builtin "object.__class__") "__get__" = some (some (.builtin "getset_descriptor.__get__"))) (o3_TooBig_NoneFits:PySem.W.takesIn K (.builtin "object.__class__")=some true) (o4_TooBig_NoneFits:PySem.W.mroIn K X_TooBig (.type "object")=some true) (o5_TooBig_NoneFits:PySem.W.typeIn K (.ref X_NoneFits)=some (.type "type")) (o6_TooBig_NoneFits:X_TooBig≠X_NoneFits)
  (xi_TooBig:PySem.W.findIn K (.ref X_TooBig) "__init__" = some (some (.builtin "ValueError.__init__")))
  (f1_TooBig_place:PySem.W.findIn K (.ref X_TooBig) "__setattr__" = some (some (.builtin "object.__setattr__"))) (f2_TooBig_place:PySem.W.findIn K (.ref X_TooBig) "place" = some none) (f3_TooBig_place:PySem.W.hasDictIn K X_TooBig=true) (f4_TooBig_place:PySem.W.findIn K (.ref X_TooBig) "__getattribute__" = some (some (.builtin "BaseException.__getattribute__"))) (f5_TooBig_place:PySem.W.findIn K (.ref X_TooBig) "__getattr__" = some none)
  (m_TooBig_GroveError:PySem.W.mroIn K X_TooBig (.ref X_GroveError)=some true)
  (m_TooBig_TooMany:PySem.W.mroIn K X_TooBig (.ref X_TooMany)=some false)
  (m_TooBig_TooBig:PySem.W.mroIn K X_TooBig (.ref X_TooBig)=some true)
  (m_TooBig_NoneFits:PySem.W.mroIn K X_TooBig (.ref X_NoneFits)=some false)
  (a1:PySem.W.nsIn K mainGlobals "_law_cell" = some (some (.ref f1))) (l1:K.lookup f1=some ⟨oc1,od1,.func (PySem.W.fnOf "_law_cell" "_law_cell" (ZL Zbr) (Zj Zbr) (Zg Zbr) .none kV1 dc1 pm1 an1 cd1 ct1),sl1⟩) (c1:PySem.W.codeIn K cd1 "_law_cell" = true) (k1:PySem.W.keepIn K (.ref f1)=true)
  (a2:PySem.W.nsIn K mainGlobals "_law_tag" = some (some (.ref f2))) (l2:K.lookup f2=some ⟨oc2,od2,.func (PySem.W.fnOf "_law_tag" "_law_tag" (ZL Zb3) (Zj Zb3) (Zg Zb3) .none kV2 dc2 pm2 an2 cd2 ct2),sl2⟩) (c2:PySem.W.codeIn K cd2 "_law_tag" = true) (k2:PySem.W.keepIn K (.ref f2)=true)
  (a3:PySem.W.nsIn K mainGlobals "_law_shape" = some (some (.ref f3))) (l3:K.lookup f3=some ⟨oc3,od3,.func (PySem.W.fnOf "_law_shape" "_law_shape" (ZL Za6) (Zj Za6) (Zg Za6) .none kV3 dc3 pm3 an3 cd3 ct3),sl3⟩) (c3:PySem.W.codeIn K cd3 "_law_shape" = true) (k3:PySem.W.keepIn K (.ref f3)=true)
  (a4:PySem.W.nsIn K mainGlobals "_law_with_bound" = some (some (.ref f4))) (l4:K.lookup f4=some ⟨oc4,od4,.func (PySem.W.fnOf "_law_with_bound" "_law_with_bound" (ZL Zac) (Zj Zac) (Zg Zac) .none kV4 dc4 pm4 an4 cd4 ct4),sl4⟩) (c4:PySem.W.codeIn K cd4 "_law_with_bound" = true) (k4:PySem.W.keepIn K (.ref f4)=true)
  (a5:PySem.W.nsIn K mainGlobals "is_small" = some (some (.ref f5))) (l5:K.lookup f5=some ⟨oc5,od5,.func (PySem.W.fnOf "is_small" "is_small" (ZL ZaR) (Zj ZaR) (Zg ZaR) .none kV5 dc5 pm5 an5 cd5 ct5),sl5⟩) (c5:PySem.W.codeIn K cd5 "is_small" = true) (k5:PySem.W.keepIn K (.ref f5)=true)
  (a6:PySem.W.nsIn K mainGlobals "count_above" = some (some (.ref f6))) (l6:K.lookup f6=some ⟨oc6,od6,.func (PySem.W.fnOf "count_above" "count_above" (ZL Zak) (Zj Zak) (Zg Zak) .none kV6 dc6 pm6 an6 cd6 ct6),sl6⟩) (c6:PySem.W.codeIn K cd6 "count_above" = true) (k6:PySem.W.keepIn K (.ref f6)=true)
  (a7:PySem.W.nsIn K mainGlobals "rank_of_words" = some (some (.ref f7))) (l7:K.lookup f7=some ⟨oc7,od7,.func (PySem.W.fnOf "rank_of_words" "rank_of_words" (ZL Z5) (Zj Z5) (Zg Z5) .none kV7 dc7 pm7 an7 cd7 ct7),sl7⟩) (c7:PySem.W.codeIn K cd7 "rank_of_words" = true) (k7:PySem.W.keepIn K (.ref f7)=true)
  (a8:PySem.W.nsIn K mainGlobals "words_of" = some (some (.ref f8))) (l8:K.lookup f8=some ⟨oc8,od8,.func (PySem.W.fnOf "words_of" "words_of" (ZL ZaQ) (Zj ZaQ) (Zg ZaQ) .none kV8 dc8 pm8 an8 cd8 ct8),sl8⟩) (c8:PySem.W.codeIn K cd8 "words_of" = true) (k8:PySem.W.keepIn K (.ref f8)=true)
  (a9:PySem.W.nsIn K mainGlobals "rank" = some (some (.ref f9))) (l9:K.lookup f9=some ⟨oc9,od9,.func (PySem.W.fnOf "rank" "rank" (ZL Zdj) (Zj Zdj) (Zg Zdj) .none kV9 dc9 pm9 an9 cd9 ct9),sl9⟩) (c9:PySem.W.codeIn K cd9 "rank" = true) (k9:PySem.W.keepIn K (.ref f9)=true)
  (a10:PySem.W.nsIn K mainGlobals "least_among" = some (some (.ref f10))) (l10:K.lookup f10=some ⟨oc10,od10,.func (PySem.W.fnOf "least_among" "least_among" (ZL Zam) (Zj Zam) (Zg Zam) .none kV10 dc10 pm10 an10 cd10 ct10),sl10⟩) (c10:PySem.W.codeIn K cd10 "least_among" = true) (k10:PySem.W.keepIn K (.ref f10)=true)
  (a11:PySem.W.nsIn K mainGlobals "least_by_rules" = some (some (.ref f11))) (l11:K.lookup f11=some ⟨oc11,od11,.func (PySem.W.fnOf "least_by_rules" "least_by_rules" (ZL Z0) (Zj Z0) (Zg Z0) .none kV11 dc11 pm11 an11 cd11 ct11),sl11⟩) (c11:PySem.W.codeIn K cd11 "least_by_rules" = true) (k11:PySem.W.keepIn K (.ref f11)=true)
  (a12:PySem.W.nsIn K mainGlobals "least_groves" = some (some (.ref f12))) (l12:K.lookup f12=some ⟨oc12,od12,.func (PySem.W.fnOf "least_groves" "least_groves" (ZL Zab) (Zj Zab) (Zg Zab) .none kV12 dc12 pm12 an12 cd12 ct12),sl12⟩) (c12:PySem.W.codeIn K cd12 "least_groves" = true) (k12:PySem.W.keepIn K (.ref f12)=true)
  {cc12 pp12:Addr} {lo12:Value} {ld12:Option Addr} {lv12:Array Value} {ls12:Array (Option Value)} (le12:cd12=.ref cc12) (lj12:K.lookup cc12=some ⟨lo12,ld12,.fields lv12,ls12⟩) (lp12:lv12[11]?= some (.ref pp12)) (lw12:PySem.W.codeHdIn K cc12 pp12=true) (lt12:K.lookup pp12=none)
  (a13:PySem.W.nsIn K mainGlobals "lower" = some (some (.ref f13))) (l13:K.lookup f13=some ⟨oc13,od13,.func (PySem.W.fnOf "lower" "lower" (ZL Zb5) (Zj Zb5) (Zg Zb5) .none kV13 dc13 pm13 an13 cd13 ct13),sl13⟩) (c13:PySem.W.codeIn K cd13 "lower" = true) (k13:PySem.W.keepIn K (.ref f13)=true)
  (a14:PySem.W.nsIn K mainGlobals "fewest" = some (some (.ref f14))) (l14:K.lookup f14=some ⟨oc14,od14,.func (PySem.W.fnOf "fewest" "fewest" (ZL Zbw) (Zj Zbw) (Zg Zbw) .none kV14 dc14 pm14 an14 cd14 ct14),sl14⟩) (c14:PySem.W.codeIn K cd14 "fewest" = true) (k14:PySem.W.keepIn K (.ref f14)=true)
  (a15:PySem.W.nsIn K mainGlobals "least" = some (some (.ref f15))) (l15:K.lookup f15=some ⟨oc15,od15,.func (PySem.W.fnOf "least" "least" (ZL Zb8) (Zj Zb8) (Zg Zb8) .none kV15 dc15 pm15 an15 cd15 ct15),sl15⟩) (c15:PySem.W.codeIn K cd15 "least" = true) (k15:PySem.W.keepIn K (.ref f15)=true)
  (a16:PySem.W.nsIn K mainGlobals "_law_list" = some (some (.ref f16))) (l16:K.lookup f16=some ⟨oc16,od16,.func (PySem.W.fnOf "_law_list" "_law_list" (ZL Zbu) (Zj Zbu) (Zg Zbu) .none kV16 dc16 pm16 an16 cd16 ct16),sl16⟩) (c16:PySem.W.codeIn K cd16 "_law_list" = true) (k16:PySem.W.keepIn K (.ref f16)=true)
  (a17:PySem.W.nsIn K mainGlobals "_law_lists" = some (some (.ref f17))) (l17:K.lookup f17=some ⟨oc17,od17,.func (PySem.W.fnOf "_law_lists" "_law_lists" (ZL Za7) (Zj Za7) (Zg Za7) .none kV17 dc17 pm17 an17 cd17 ct17),sl17⟩) (c17:PySem.W.codeIn K cd17 "_law_lists" = true) (k17:PySem.W.keepIn K (.ref f17)=true)
  (a18:PySem.W.nsIn K mainGlobals "least_of" = some (some (.ref f18))) (l18:K.lookup f18=some ⟨oc18,od18,.func (PySem.W.fnOf "least_of" "least_of" (ZL Z1) (Zj Z1) (Zg Z1) .none kV18 dc18 pm18 an18 cd18 ct18),sl18⟩) (c18:PySem.W.codeIn K cd18 "least_of" = true) (k18:PySem.W.keepIn K (.ref f18)=true)
  (a19:PySem.W.nsIn K mainGlobals "_law_some_live" = some (some (.ref f19))) (l19:K.lookup f19=some ⟨oc19,od19,.func (PySem.W.fnOf "_law_some_live" "_law_some_live" (ZL Zai) (Zj Zai) (Zg Zai) .none kV19 dc19 pm19 an19 cd19 ct19),sl19⟩) (c19:PySem.W.codeIn K cd19 "_law_some_live" = true) (k19:PySem.W.keepIn K (.ref f19)=true)
  (a20:PySem.W.nsIn K mainGlobals "_law_start_good" = some (some (.ref f20))) (l20:K.lookup f20=some ⟨oc20,od20,.func (PySem.W.fnOf "_law_start_good" "_law_start_good" (ZL Zq) (Zj Zq) (Zg Zq) .none kV20 dc20 pm20 an20 cd20 ct20),sl20⟩) (c20:PySem.W.codeIn K cd20 "_law_start_good" = true) (k20:PySem.W.keepIn K (.ref f20)=true)
  (a21:PySem.W.nsIn K mainGlobals "_law_good" = some (some (.ref f21))) (l21:K.lookup f21=some ⟨oc21,od21,.func (PySem.W.fnOf "_law_good" "_law_good" (ZL Zbt) (Zj Zbt) (Zg Zbt) .none kV21 dc21 pm21 an21 cd21 ct21),sl21⟩) (c21:PySem.W.codeIn K cd21 "_law_good" = true) (k21:PySem.W.keepIn K (.ref f21)=true)
  (a22:PySem.W.nsIn K mainGlobals "law" = some (some (.ref f22))) (l22:K.lookup f22=some ⟨oc22,od22,.func (PySem.W.fnOf "law" "law" (ZL Zbe) (Zj Zbe) (Zg Zbe) .none kV22 dc22 pm22 an22 cd22 ct22),sl22⟩) (c22:PySem.W.codeIn K cd22 "law" = true) (k22:PySem.W.keepIn K (.ref f22)=true)
  {tk0:Tok} (y0:PySem.W.nsIn K mainGlobals "MOST_TAGS" = some (some (.int 300 tk0)))
  (z0:PySem.W.nsIn K mainGlobals "int" = some none) (z1:PySem.W.nsIn K mainGlobals "isinstance" = some none) (z2:PySem.W.nsIn K mainGlobals "len" = some none) (z3:PySem.W.nsIn K mainGlobals "list" = some none) (z4:PySem.W.nsIn K mainGlobals "min" = some none) (z5:PySem.W.nsIn K mainGlobals "range" = some none) (z6:PySem.W.nsIn K mainGlobals "set" = some none) (z7:PySem.W.nsIn K mainGlobals "sorted" = some none) (z8:PySem.W.nsIn K mainGlobals "str" = some none) (z9:PySem.W.nsIn K mainGlobals "tuple" = some none) :
  ∃fd:FuncData,(∀(s:Shared)(v:Value),BindsTo s fd ⟨[v],[]⟩ [("_law_script",v)])/\(∀p ∈ [pp12],K.lookup p=none/\∃c,PySem.W.codeHdIn K c p=true)/\∀base:Heap,K.In base->base.Ns mainGlobals mg->Zja base mg->FnOk l.prog w K mg base CX0 9 fa fd ["_law_script"] (Fg.Zf1 K [pp12]):=by
 have e:=hfa.symm.trans (PySem.W.mg_of X G a22);cases e;have B:∀x∈ZcI,mg x=none:=List.forall_mem_cons.mpr ⟨PySem.W.mg_none_of X G z0,List.forall_mem_cons.mpr ⟨PySem.W.mg_none_of X G z1,List.forall_mem_cons.mpr ⟨PySem.W.mg_none_of X G z2,List.forall_mem_cons.mpr ⟨PySem.W.mg_none_of X G z3,List.forall_mem_cons.mpr ⟨PySem.W.mg_none_of X G z4,List.forall_mem_cons.mpr ⟨PySem.W.mg_none_of X G z5,List.forall_mem_cons.mpr ⟨PySem.W.mg_none_of X G z6,List.forall_mem_cons.mpr ⟨PySem.W.mg_none_of X G z7,List.forall_mem_cons.mpr ⟨PySem.W.mg_none_of X G z8,List.forall_mem_cons.mpr ⟨PySem.W.mg_none_of X G z9,List.forall_mem_nil _⟩⟩⟩⟩⟩⟩⟩⟩⟩⟩;have Cc_MOST_TAGS:∃t:Tok,mg "MOST_TAGS" = some (.int 300 t):=⟨_,PySem.W.mg_of X G y0⟩;have F1:=Zao (st:=Zbr) l1 c1 k1;have b1:=F1.binds (ps:=["_law_script","_law_k"]) fun _ _ _ _ _ _ us hl=>by obtain⟨_,_,rfl⟩:=Zjg hl;rfl
 have F2:=Zao (st:=Zb3) l2 c2 k2;have b2:=F2.binds (ps:=["_law_seed","_law_v"]) fun _ _ _ _ _ _ us hl=>by obtain⟨_,_,rfl⟩:=Zjg hl;rfl
 have F3:=Zao (st:=Za6) l3 c3 k3;have b3:=F3.binds (ps:=["_law_script"]) fun _ _ _ _ _ _ us hl=>by obtain⟨_,rfl⟩:=ZgI hl;rfl
 have F4:=Zao (st:=Zac) l4 c4 k4;have b4:=F4.binds (ps:=["_law_one","_law_number","_law_word"]) fun _ _ _ _ _ _ us hl=>by obtain⟨_,_,_,rfl⟩:=Zlq hl;rfl
 have F5:=Zao (st:=ZaR) l5 c5 k5;have b5:=F5.binds (ps:=["count"]) fun _ _ _ _ _ _ us hl=>by obtain⟨_,rfl⟩:=ZgI hl;rfl
 have F6:=Zao (st:=Zak) l6 c6 k6;have b6:=F6.binds (ps:=["inner","rest"]) fun _ _ _ _ _ _ us hl=>by obtain⟨_,_,rfl⟩:=Zjg hl;rfl
 have F7:=Zao (st:=Z5) l7 c7 k7;have b7:=F7.binds (ps:=["words"]) fun _ _ _ _ _ _ us hl=>by obtain⟨_,rfl⟩:=ZgI hl;rfl
 have F8:=Zao (st:=ZaQ) l8 c8 k8;have b8:=F8.binds (ps:=["grove"]) fun _ _ _ _ _ _ us hl=>by obtain⟨_,rfl⟩:=ZgI hl;rfl
 have F9:=Zao (st:=Zdj) l9 c9 k9;have b9:=F9.binds (ps:=["grove"]) fun _ _ _ _ _ _ us hl=>by obtain⟨_,rfl⟩:=ZgI hl;rfl
 have F10:=Zao (st:=Zam) l10 c10 k10;have b10:=F10.binds (ps:=["groves"]) fun _ _ _ _ _ _ us hl=>by obtain⟨_,rfl⟩:=ZgI hl;rfl
 have F11:=Zao (st:=Z0) l11 c11 k11;have b11:=F11.binds (ps:=["form","kind","counts","groves"]) fun _ _ _ _ _ _ us hl=>by obtain⟨_,_,_,_,rfl⟩:=Zl3 hl;rfl
 have F12:=Zao (st:=Zab) l12 c12 k12;have b12:=F12.binds (ps:=["form","counts"]) fun _ _ _ _ _ _ us hl=>by obtain⟨_,_,rfl⟩:=Zjg hl;rfl
 have F13:=Zao (st:=Zb5) l13 c13 k13;have b13:=F13.binds (ps:=["rules","inners","counts"]) fun _ _ _ _ _ _ us hl=>by obtain⟨_,_,_,rfl⟩:=Zlq hl;rfl
 have F14:=Zao (st:=Zbw) l14 c14 k14;have b14:=F14.binds (ps:=["form"]) fun _ _ _ _ _ _ us hl=>by obtain⟨_,rfl⟩:=ZgI hl;rfl
 have F15:=Zao (st:=Zb8) l15 c15 k15;have b15:=F15.binds (ps:=["form"]) fun _ _ _ _ _ _ us hl=>by obtain⟨_,rfl⟩:=ZgI hl;rfl
 have F16:=Zao (st:=Zbu) l16 c16 k16;have b16:=F16.binds (ps:=["_law_found"]) fun _ _ _ _ _ _ us hl=>by obtain⟨_,rfl⟩:=ZgI hl;rfl
 have F17:=Zao (st:=Za7) l17 c17 k17;have b17:=F17.binds (ps:=["_law_one","_law_found"]) fun _ _ _ _ _ _ us hl=>by obtain⟨_,_,rfl⟩:=Zjg hl;rfl
 have F18:=Zao (st:=Z1) l18 c18 k18;have b18:=F18.binds (ps:=["form"]) fun _ _ _ _ _ _ us hl=>by obtain⟨_,rfl⟩:=ZgI hl;rfl
 have F19:=Zao (st:=Zai) l19 c19 k19;have b19:=F19.binds (ps:=["_law_one"]) fun _ _ _ _ _ _ us hl=>by obtain⟨_,rfl⟩:=ZgI hl;rfl
 have F20:=Zao (st:=Zq) l20 c20 k20;have b20:=F20.binds (ps:=["_law_one","_law_lists_here"]) fun _ _ _ _ _ _ us hl=>by obtain⟨_,_,rfl⟩:=Zjg hl;rfl
 have F21:=Zao (st:=Zbt) l21 c21 k21;have b21:=F21.binds (ps:=["_law_one","_law_lists_here"]) fun _ _ _ _ _ _ us hl=>by obtain⟨_,_,rfl⟩:=Zjg hl;rfl
 have F22:=Zao (st:=Zbe) l22 c22 k22;refine⟨PySem.W.fnOf "law" "law" (ZL Zbe) (Zj Zbe) (Zg Zbe) .none kV22 dc22 pm22 an22 cd22 ct22,fun s v=>.of_eq rfl,List.forall_mem_cons.mpr ⟨⟨lt12,cc12,lw12⟩,List.forall_mem_nil _⟩,fun base _ _ bm=>?_⟩;have xc:XC K mg X_GroveError X_TooMany X_TooBig X_NoneFits:=⟨PySem.W.mg_of X G xn_GroveError,PySem.W.mg_of X G xn_TooMany,PySem.W.mg_of X G xn_TooBig,PySem.W.mg_of X G xn_NoneFits,⟨xb1,xb2,xb3⟩,xb4,xb5,⟨d1_GroveError,d2_GroveError,d3_GroveError⟩,⟨d1_TooMany,d2_TooMany,d3_TooMany⟩,⟨d1_TooBig,d2_TooBig,d3_TooBig⟩,⟨d1_NoneFits,d2_NoneFits,d3_NoneFits⟩,⟨⟨_,_,_,_,_,_,_,_,_,_,_,_,_,_,_,xl_TooBig⟩,⟨⟨_,_,_,_,_,_,_,_,_,xg1,xg2,xg3,xg4⟩⟩,xc_TooBig,xt_TooBig,xk_TooBig⟩,xi_TooBig,⟨f1_TooBig_place,f2_TooBig_place,f3_TooBig_place,f4_TooBig_place,f5_TooBig_place,d2_TooBig⟩,xv_TooBig,xe_TooBig,⟨o1_TooBig_TooMany,o2_TooBig_TooMany,o3_TooBig_TooMany,o4_TooBig_TooMany,o5_TooBig_TooMany⟩,o6_TooBig_TooMany,⟨o1_TooBig_NoneFits,o2_TooBig_NoneFits,o3_TooBig_NoneFits,o4_TooBig_NoneFits,o5_TooBig_NoneFits⟩,o6_TooBig_NoneFits,m_TooBig_GroveError,m_TooBig_TooMany,m_TooBig_TooBig,m_TooBig_NoneFits⟩;have g_l_cell:Has l.prog w K mg base "_law_cell" ["_law_script","_law_k"] 1 (Fg.ZcA K):=⟨⟨f1,_,Zg8 B  F1,b1,k1,PySem.W.mg_of X G a1⟩⟩;have g_l_tag:Has l.prog w K mg base "_law_tag" ["_law_seed","_law_v"] 1 (Fg.ZfU):=⟨⟨f2,_,Zij B  F2,b2,k2,PySem.W.mg_of X G a2⟩⟩;have g_l_shape:Has l.prog w K mg base "_law_shape" ["_law_script"] 2 (K18.ZcL K):=⟨⟨f3,_,Zgo B g_l_cell g_l_tag F3,b3,k3,PySem.W.mg_of X G a3⟩⟩;have g_l_with_bound:Has l.prog w K mg base "_law_with_bound" ["_law_one","_law_number","_law_word"] 1 (K18.Zc1):=⟨⟨f4,_,ZcW B  F4,b4,k4,PySem.W.mg_of X G a4⟩⟩;have g_is_small:Has l.prog w K mg base "is_small" ["count"] 1 (K18.Zd7):=⟨⟨f5,_,Zfo B Cc_MOST_TAGS  F5,b5,k5,PySem.W.mg_of X G a5⟩⟩;have g_count_above:Has l.prog w K mg base "count_above" ["inner","rest"] 1 (K18.ZdL):=⟨⟨f6,_,Zdh B  F6,b6,k6,PySem.W.mg_of X G a6⟩⟩;have g_rank_of_words:Has l.prog w K mg base "rank_of_words" ["words"] 1 (K18.ZeZ):=⟨⟨f7,_,Zcn B  F7,b7,k7,PySem.W.mg_of X G a7⟩⟩;have g_words_of:Has l.prog w K mg base "words_of" ["grove"] 1 (Fg.Zfr K):=⟨⟨f8,_,Zft B  F8,b8,k8,PySem.W.mg_of X G a8⟩⟩;have g_rank:Has l.prog w K mg base "rank" ["grove"] 2 (Fg.Zh5 K):=⟨⟨f9,_,ZjL B g_rank_of_words g_words_of F9,b9,k9,PySem.W.mg_of X G a9⟩⟩;have g_least_among:Has l.prog w K mg base "least_among" ["groves"] 4 (Fg.Zd1 K):=⟨⟨f10,_,Zdf B g_rank F10,b10,k10,PySem.W.mg_of X G a10⟩⟩;have g_least_by_rules:Has l.prog w K mg base "least_by_rules" ["form","kind","counts","groves"] 5 (K18.Zjz K):=⟨⟨f11,_,Zcd B g_count_above g_least_among F11,b11,k11,PySem.W.mg_of X G a11⟩⟩;have g_least_groves:Has l.prog w K mg base "least_groves" ["form","counts"] 6 (K18.Zk1 K pp12):=⟨⟨f12,_,ZcT B bm le12 lw12 g_is_small g_least_by_rules F12,b12,k12,PySem.W.mg_of X G a12⟩⟩;have g_lower:Has l.prog w K mg base "lower" ["rules","inners","counts"] 2 (K18.Zfe K):=⟨⟨f13,_,Ziv B g_count_above F13,b13,k13,PySem.W.mg_of X G a13⟩⟩;have g_fewest:Has l.prog w K mg base "fewest" ["form"] 3 (K18.Zcw K):=⟨⟨f14,_,Zg5 B g_lower F14,b14,k14,PySem.W.mg_of X G a14⟩⟩;have g_least:Has l.prog w K mg base "least" ["form"] 7 (K18.Zj6 K pp12):=⟨⟨f15,_,Zil B g_least_groves g_fewest F15,b15,k15,PySem.W.mg_of X G a15⟩⟩;have g_l_list:Has l.prog w K mg base "_law_list" ["_law_found"] 1 (K18.Zcz):=⟨⟨f16,_,ZgX B  F16,b16,k16,PySem.W.mg_of X G a16⟩⟩;have g_l_lists:Has l.prog w K mg base "_law_lists" ["_law_one","_law_found"] 2 (K18.ZcX):=⟨⟨f17,_,Zgt B g_l_list F17,b17,k17,PySem.W.mg_of X G a17⟩⟩;have g_least_of:HasX l.prog w K mg base "least_of" ["form"] 7 (K18.Zk4 K pp12 X_TooBig):=⟨⟨f18,_,ZeV B xc g_fewest g_is_small g_least_groves g_least_among F18,b18,k18,PySem.W.mg_of X G a18⟩⟩;have g_l_some_live:Has l.prog w K mg base "_law_some_live" ["_law_one"] 1 (K18.ZdS):=⟨⟨f19,_,Zdd B  F19,b19,k19,PySem.W.mg_of X G a19⟩⟩;have g_l_start_good:Has l.prog w K mg base "_law_start_good" ["_law_one","_law_lists_here"] 8 (K18.Zc4 pp12):=⟨⟨f20,_,ZcR B xc g_least_of g_l_list g_l_some_live F20,b20,k20,PySem.W.mg_of X G a20⟩⟩;have g_l_good:Has l.prog w K mg base "_law_good" ["_law_one","_law_lists_here"] 1 (K18.ZdV):=⟨⟨f21,_,Zh8 B  F21,b21,k21,PySem.W.mg_of X G a21⟩⟩;exact ZkM B g_l_shape g_l_cell g_l_with_bound g_l_tag g_least g_l_lists g_l_start_good g_l_good g_least_of F22
theorem walk{l:PySem.W.OpenLaw}{q:Program}{loose:List Str}{XP:(Str->Option Value)->Heap->Prop}{YP:World->Heap->Prop}{d:DefRec}{K:Params->PySem.W.Frag}{ts:List Addr}(hn:l.most=some 63)(hdf:d.params.defaults=[])
  (hY:∀(w:World)(h:Heap),YP w h->(K w.params).In h/\∀p∈ts,h.get? p=some (PySem.W.tabObj #[]))
  (F:∀(w:World)(mg:Str->Option Value)(fa:Addr)(h:Heap),(K w.params).In h->h.Ns mainGlobals mg->mg d.name=some (.ref fa) ->
   ∃fd:FuncData,(∀(s:Shared)(u:Value),BindsTo s fd ⟨[u],[]⟩ [("_law_script",u)])/\(∀p∈ts,(K w.params).lookup p=none/\∃c,PySem.W.codeHdIn (K w.params) c p=true)/\∀base:Heap,(K w.params).In base->base.Ns mainGlobals mg->Zja base mg->FnOk l.prog w (K w.params) mg base CX0 9 fa fd ["_law_script"] (Fg.Zf1 (K w.params) ts)) :
  PySem.W.WalkO q loose XP YP l.row.toRowW d [] (fun f vs=>PySem.call f vs) :=
 L2.Ziw (n:=63) (k:=9) (x := "_law_script") (sp:=fun w=>Fg.Zf1 (K w.params) ts) hn (by decide) hdf ⟨rfl,by decide,by decide,rfl⟩ hY F fun _ _ a ns hl ht hS=>⟨a,ns,rfl,hS,hl,ht,fun _=>rfl⟩
end K18
namespace PySem.W.Fast
def tw6904162361498977549:=0
def tw8237819011134479327:=0
def tw5978305975166200087:=0
def tw11812168126827548392:=0
def tw1452498035801165260:=0
def tw11438508420095227099:=0
def tw945659340525597688:=0
def tw16386388097413742047:=0
def tw13631539317817354755:=0
def tw9812223925048882457:=0
def tw1643720166813531111:=0
def tw6315376273857454362:=0
def tw11604403139334332083:=0
def tw12237496805109708932:=0
def tw581297014627670727:=0
def tw5132228994445461496:=0
def tw4762772307615922946:=0
def tw1320101885276162655:=0
def tw14293251293937406130:=0
def tw16337373933229894068:=0
def tw1956722405312057247:=0
def tw10037200088220092413:=0
def tw14584414665726449349:=0
def tw2930691414950041220:=0
def tw6793849363935819094:=0
def tw9192805650237438874:=0
def tw14248919198442688339:=0
def tw17162437082615516465:=0
def tw566613485175223105:=0
def tw15001505173831062187:=0
def tw1761608069136751434:=0
def tw18049289567341858280:=0
def tw16567252814003636125:=0
def tw5621546129742469090:=0
def tw639526274433735940:=0
def tw8069442979169190126:=0
def tw11679079397848561273:=0
def tw4365643388592068447:=0
def tw9100575698945061380:=0
def tw1100301749406274715:=0
def tw11565042342283874006:=0
def tw11658654629203469780:=0
def tw16752655987458968441:=0
def tw12213243174180655175:=0
def tw6557605232280286190:=0
def tw17933783344237502195:=0
def tw14137688089044287010:=0
def tw4157550104169099914:=0
def tw11448018055696783428:=0
def tw12198095658871967323:=0
def tw15065914806787676059:=0
def tw14224298900647436841:=0
def tw14473431448071709395:=0
def tw6740237734262158706:=0
def tw555541183004135108:=0
def tw10580317781560862406:=0
def tw12020157242945708930:=0
def tw16362751722666025939:=0
def tw1484854055712552143:=0
def tw4431049575724887998:=0
def tw3927813322716161777:=0
def tw4519091170143277499:=0
def tw10484131836012720492:=0
def tw13389049034717346573:=0
def tw14185330106344315716:=0
def tw17850692902112605103:=0
def tw4446777636393726219:=0
def tw18227964510271417130:=0
def tw8735613580190917656:=0
def tw5853053712103808107:=0
def tw15148164054454939625:=0
def tw592045250443415516:=0
def tw14145706765724320819:=0
def tw7306298689839815395:=0
def tw9247664229917568015:=0
def tw3864210950629237816:=0
def tw3374755198325035217:=0
def tw1492972452921657543:=0
def tw4041705567651654994:=0
def tw7325361796850474395:=0
def tw15479559174930290090:=0
def tw7002442012889698658:=0
def tw9708041513567338260:=0
def tw13452937597314277186:=0
def tw17487890571121744311:=0
def tw8993362658801704964:=0
def tw15431093614613968178:=0
def tw903826117409526013:=0
def tw16406012171632120265:=0
def tw10620667459955844714:=0
def tw13297155754098307432:=0
def tw3106725016164395055:=0
def tw11260637869987431089:=0
def tw5837961192752609650:=0
def tw2993105691683235727:=0
def tw8094194088268797930:=0
def tw13637456069034528841:=0
def tw5357094334035002509:=0
def tw9845497666412742653:=0
def tw11332197532408108306:=0
def tw6306677699063277424:=0
def tw14179429794656490375:=0
def tw9827815217838495888:=0
def tw2270731234759579064:=0
def tw12712313507838450703:=0
def tw1831625355124785639:=0
def tw17972044182162221751:=0
def tw9900081410196774443:=0
def tw4129139502974099863:=0
def tw4644536719015485162:=0
def tw7141269660742718458:=0
def tw9636340610784091031:=0
def tw13843510385168441522:=0
def tw5922832061840492957:=0
def tw5096885447828021641:=0
def tw8762302731067612578:=0
def tw2449293570952118854:=0
def tw11496385311320484057:=0
def tw5715817406765273442:=0
def tw12935372028534474087:=0
def tw8614122182589123227:=0
def tw5946741593978677716:=0
def tw16759087935376172569:=0
def tw8289955190256050694:=0
def tw1897960967944560997:=0
def tw3698550558745631674:=0
def tw12723563112764351068:=0
def tw8560541493206694550:=0
def tw9910746624640173208:=0
def tw6100851370690665997:=0
def tw2856893700969948916:=0
def tw7666431460707605681:=0
def tw3518338927201605484:=0
def tw14562413585872294960:=0
def tw13285532528698583524:=0
def tw967577960733293102:=0
def tw7594412550894102031:=0
def tw14598057118758867020:=0
def tw16268400907139987198:=0
def tw14867778570449537229:=0
def tw6104662448702684657:=0
def tw11475573213647388141:=0
def tw328866875044061518:=0
def tw11594342645581343774:=0
def tw10178733972818051979:=0
def tw2917679210065123445:=0
def tw1354885296889725150:=0
def tw10263162592892091963:=0
def tw17335304195533505620:=0
def tw4020093955383936800:=0
def tw10122405792210740553:=0
def tw8506816655667018697:=0
def tw16117745309201809756:=0
def tw17824035299073354815:=0
def tw15632581525441638480:=0
def tw5366068923645699284:=0
def tw17260461870617156695:=0
def tw11219479895897122668:=0
def tw11568312421254386215:=0
def tw213838746663239102:=0
def tw14872976817731220546:=0
def tw3210855085392394942:=0
def tw5584802594204975808:=0
def tw4252084099494892488:=0
def tw17973873893195444393:=0
def tw18005578227920434545:=0
def tw13118232725946795753:=0
def tw7131929297431864636:=0
def tw15360170604447094531:=0
def tw15942510892965330322:=0
def tw13219903200226798911:=0
def tw11620933059908755478:=0
def tw3765129490496192552:=0
def tw11859677431224324628:=0
def tw7768579845224539949:=0
def tw10630206409333597557:=0
def tw8907745183340597276:=0
def tw10689903782908593338:=0
def tw9667554978957827572:=0
def tw16184606136845816664:=0
def tw18038841602478367717:=0
def tw15196666128262959634:=0
def tw7655007409125415941:=0
def tw12951259048967440467:=0
def tw3094653996567836565:=0
def tw533557046663656670:=0
def tw16891496397841606192:=0
def tw13351584796056757080:=0
def tw1865712884931181679:=0
def tw16479710197925797903:=0
def tw16374346643711891113:=0
def tw17899862345748231171:=0
def tw9230769074191238192:=0
def tw14919417847766125905:=0
def tw8338162984581786512:=0
def tw13093750838685318409:=0
def tw1519482632922049518:=0
def tw2907987635401237450:=0
def tw9543719897732189418:=0
def tw265092915034052877:=0
def tw15692709336850981643:=0
def tw8577066967750321112:=0
def tw16281013876040881736:=0
def tw15152025702707297555:=0
def tw9237335797958180971:=0
def tw6694071093597054971:=0
def tw12513804375010238157:=0
def tw15047532658817499978:=0
def tw8290100937475521061:=0
def tw15184842559083278177:=0
def tw8926066000224306955:=0
def tw9837562048255376641:=0
def tw10458781859193390025:=0
def tw13190307281328462823:=0
def tw3893506248699910558:=0
def tw1857429990566870607:=0
def tw9261559343362006236:=0
def tw5962223452524959830:=0
def tw6314110247680245189:=0
def tw2864888178108150848:=0
def tw8158218863093798101:=0
def tw13126576880785258976:=0
def tw14738196539869818846:=0
def tw13395303720770317732:=0
def tw12453627867064447397:=0
def tw14382202981094178975:=0
def tw8243856833202153485:=0
def tw12583214242345236474:=0
end PySem.W.Fast
open PySem PySem.W PyProof.Rows
set_option maxRecDepth 100000 in
set_option maxHeartbeats 0 in
theorem PySem.Challenge.cw_formgrove_k18_least_groves_holds : PySem.Challenge.rw_formgrove_k18_least_groves.Holds := by
 w_on;o_law;k_head;(case hw=>w_witness2)
 k_fill
 refine K18.walk (l:=PySem.Challenge.rw_formgrove_k18_least_groves) rfl rfl (fun w h Y=>⟨PySem.W.km_in_of Y,PySem.W.km_tabs_of Y⟩) ?F
 case F =>
  intro w mg fa h KX G hmg;refine' K18.ZkU KX G hmg ?xn_GroveError ?xn_TooMany ?xn_TooBig ?xn_NoneFits ?xg1 ?xg2 ?xg3 ?xg4 ?xb1 ?xb2 ?xb3 ?xb4 ?xb5 ?d1_GroveError ?d2_GroveError ?d3_GroveError ?d1_TooMany ?d2_TooMany ?d3_TooMany ?d1_TooBig ?d2_TooBig ?d3_TooBig ?d1_NoneFits ?d2_NoneFits ?d3_NoneFits ?xl_TooBig ?xc_TooBig ?xt_TooBig ?xk_TooBig ?xv_TooBig ?xe_TooBig ?o1_TooBig_TooMany ?o2_TooBig_TooMany ?o3_TooBig_TooMany ?o4_TooBig_TooMany ?o5_TooBig_TooMany ?o6_TooBig_TooMany ?o1_TooBig_NoneFits ?o2_TooBig_NoneFits ?o3_TooBig_NoneFits ?o4_TooBig_NoneFits ?o5_TooBig_NoneFits ?o6_TooBig_NoneFits ?xi_TooBig ?f1_TooBig_place ?f2_TooBig_place ?f3_TooBig_place ?f4_TooBig_place ?f5_TooBig_place ?m_TooBig_GroveError ?m_TooBig_TooMany ?m_TooBig_TooBig ?m_TooBig_NoneFits ?a1 ?l1 ?c1 ?k1 ?a2 ?l2 ?c2 ?k2 ?a3 ?l3 ?c3 ?k3 ?a4 ?l4 ?c4 ?k4 ?a5 ?l5 ?c5 ?k5 ?a6 ?l6 ?c6 ?k6 ?a7 ?l7 ?c7 ?k7 ?a8 ?l8 ?c8 ?k8 ?a9 ?l9 ?c9 ?k9 ?a10 ?l10 ?c10 ?k10 ?a11 ?l11 ?c11 ?k11 ?a12 ?l12 ?c12 ?k12 ?le12 ?lj12 ?lp12 ?lw12 ?lt12 ?a13 ?l13 ?c13 ?k13 ?a14 ?l14 ?c14 ?k14 ?a15 ?l15 ?c15 ?k15 ?a16 ?l16 ?c16 ?k16 ?a17 ?l17 ?c17 ?k17 ?a18 ?l18 ?c18 ?k18 ?a19 ?l19 ?c19 ?k19 ?a20 ?l20 ?c20 ?k20 ?a21 ?l21 ?c21 ?k21 ?a22 ?l22 ?c22 ?k22 ?y0 ?z0 ?z1 ?z2 ?z3 ?z4 ?z5 ?z6 ?z7 ?z8 ?z9
  (case xn_GroveError=>k_is)
  (case xn_TooMany=>k_is)
  (case xn_TooBig=>k_is)
  (case xn_NoneFits=>k_is)
  (case xg1=>k_is)
  (case xg2=>k_is)
  (case xg3=>rfl)
  (case xg4=>k_is)
  (case xb1=>k_is)
  (case xb2=>k_is)
  (case xb3=>k_is)
  (case xb4=>k_is)
  (case xb5=>k_is)
  (case d1_GroveError=>k_is)
  (case d2_GroveError=>k_is)
  (case d3_GroveError=>k_is)
  (case d1_TooMany=>k_is)
  (case d2_TooMany=>k_is)
  (case d3_TooMany=>k_is)
  (case d1_TooBig=>k_is)
  (case d2_TooBig=>k_is)
  (case d3_TooBig=>k_is)
  (case d1_NoneFits=>k_is)
  (case d2_NoneFits=>k_is)
  (case d3_NoneFits=>k_is)
  (case xl_TooBig=>k_is)
  (case xc_TooBig=>k_is)
  (case xt_TooBig=>k_is)
  (case xk_TooBig=>k_is)
  (case xv_TooBig=>k_is)
  (case xe_TooBig=>decide)
  (case o1_TooBig_TooMany=>k_is)
  (case o2_TooBig_TooMany=>k_is)
  (case o3_TooBig_TooMany=>k_is)
  (case o4_TooBig_TooMany=>k_is)
  (case o5_TooBig_TooMany=>k_is)
  (case o6_TooBig_TooMany=>decide)
  (case o1_TooBig_NoneFits=>k_is)
  (case o2_TooBig_NoneFits=>k_is)
  (case o3_TooBig_NoneFits=>k_is)
  (case o4_TooBig_NoneFits=>k_is)
  (case o5_TooBig_NoneFits=>k_is)
  (case o6_TooBig_NoneFits=>decide)
  (case xi_TooBig=>k_is)
  (case f1_TooBig_place=>k_is)
  (case f2_TooBig_place=>k_is)
  (case f3_TooBig_place=>k_is)
  (case f4_TooBig_place=>k_is)
  (case f5_TooBig_place=>k_is)
  (case m_TooBig_GroveError=>k_is)
  (case m_TooBig_TooMany=>k_is)
  (case m_TooBig_TooBig=>k_is)
  (case m_TooBig_NoneFits=>k_is)
  (case a1=>k_is)
  (case l1=>k_is)
  (case c1=>k_is)
  (case k1=>k_is)
  (case a2=>k_is)
  (case l2=>k_is)
  (case c2=>k_is)
  (case k2=>k_is)
  (case a3=>k_is)
  (case l3=>k_is)
  (case c3=>k_is)
  (case k3=>k_is)
  (case a4=>k_is)
  (case l4=>k_is)
  (case c4=>k_is)
  (case k4=>k_is)
  (case a5=>k_is)
  (case l5=>k_is)
  (case c5=>k_is)
  (case k5=>k_is)
  (case a6=>k_is)
  (case l6=>k_is)
  (case c6=>k_is)
  (case k6=>k_is)
  (case a7=>k_is)
  (case l7=>k_is)
  (case c7=>k_is)
  (case k7=>k_is)
  (case a8=>k_is)
  (case l8=>k_is)
  (case c8=>k_is)
  (case k8=>k_is)
  (case a9=>k_is)
  (case l9=>k_is)
  (case c9=>k_is)
  (case k9=>k_is)
  (case a10=>k_is)
  (case l10=>k_is)
  (case c10=>k_is)
  (case k10=>k_is)
  (case a11=>k_is)
  (case l11=>k_is)
  (case c11=>k_is)
  (case k11=>k_is)
  (case a12=>k_is)
  (case l12=>k_is)
  (case c12=>k_is)
  (case k12=>k_is)
  (case le12=>rfl)
  (case lj12=>k_is)
  (case lp12=>rfl)
  (case lw12=>first|kernel_rfl|decide +kernel|rfl)
  (case lt12=>first|kernel_rfl|decide +kernel|rfl)
  (case a13=>k_is)
  (case l13=>k_is)
  (case c13=>k_is)
  (case k13=>k_is)
  (case a14=>k_is)
  (case l14=>k_is)
  (case c14=>k_is)
  (case k14=>k_is)
  (case a15=>k_is)
  (case l15=>k_is)
  (case c15=>k_is)
  (case k15=>k_is)
  (case a16=>k_is)
  (case l16=>k_is)
  (case c16=>k_is)
  (case k16=>k_is)
  (case a17=>k_is)
  (case l17=>k_is)
  (case c17=>k_is)
  (case k17=>k_is)
  (case a18=>k_is)
  (case l18=>k_is)
  (case c18=>k_is)
  (case k18=>k_is)
  (case a19=>k_is)
  (case l19=>k_is)
  (case c19=>k_is)
  (case k19=>k_is)
  (case a20=>k_is)
  (case l20=>k_is)
  (case c20=>k_is)
  (case k20=>k_is)
  (case a21=>k_is)
  (case l21=>k_is)
  (case c21=>k_is)
  (case k21=>k_is)
  (case a22=>k_is)
  (case l22=>k_is)
  (case c22=>k_is)
  (case k22=>k_is)
  (case y0=>k_is)
  (case z0=>k_is)
  (case z1=>k_is)
  (case z2=>k_is)
  (case z3=>k_is)
  (case z4=>k_is)
  (case z5=>k_is)
  (case z6=>k_is)
  (case z7=>k_is)
  (case z8=>k_is)
  (case z9=>k_is)
