import PyProof.Rows.All
import Wide.All
import OpenK.AllK
import Wide.FinOn
import Lean
import PyProof.EqAt
import PyProof.EqKinds
import PyProof.TupleCall
import PySem.Challenge.RW_formgrove_k97_whole_two_streams
set_option Elab.async false
set_option linter.all false
set_option maxRecDepth 100000
namespace L2
open PySem PySem.Spec PyProof.Rows
abbrev Key:=Sum Int Str
def ZfE:Key->Value->Bool
 | .inl k,v=>Value.isInt k v
 | .inr x,v=>Value.isStrOf x v
def Znx(w:World):Key->Int
 | .inl k=>hashInt k
 | .inr x=>hashStr w x
theorem Z7:∀{k:Key}{v:Value},ZfE k v=true->(∃i t,k=Sum.inl i/\v=Value.int i t)\/(∃x t,k=Sum.inr x/\v=Value.str x t)
 | .inl i,v,h=>by
  obtain⟨t,e⟩:=Value.isInt_shape (k:=i) (v:=v) h;exact .inl ⟨i,t,rfl,e⟩
 | .inr x,v,h=>by
  obtain⟨t,e⟩:=Value.isStrOf_shape (x:=x) (v:=v) h;exact .inr ⟨x,t,rfl,e⟩
theorem ZjD(i:Int)(t:Tok):ZfE (.inl i) (.int i t)=true:=by simp[ZfE,Value.isInt]
theorem ZjI(x:Str)(t:Tok):ZfE (.inr x) (.str x t)=true:=by simp[ZfE,Value.isStrOf]
theorem Zmw(a b:Int):decide ((Sum.inl a:Key)=Sum.inl b)=(a == b):=by
 by_cases e:a=b
 ·subst e;simp
 ·have h : ¬ (Sum.inl a:Key)=Sum.inl b:=fun q=>e (Sum.inl.inj q);rw[decide_eq_false h];exact(beq_eq_false_iff_ne.mpr e).symm
theorem Zms(a b:Str):decide ((Sum.inr a:Key)=Sum.inr b)=decide (a=b):=by
 by_cases e:a=b
 ·subst e;simp
 ·have h : ¬ (Sum.inr a:Key)=Sum.inr b:=fun q=>e (Sum.inr.inj q);rw[decide_eq_false h,decide_eq_false e]
theorem Zmr(a:Int)(b:Str):decide ((Sum.inl a:Key)=Sum.inr b)=false:=decide_eq_false (fun q=>nomatch q)
theorem Zml(a:Str)(b:Int):decide ((Sum.inr a:Key)=Sum.inl b)=false:=decide_eq_false (fun q=>nomatch q)
def ZX(prog:Program)(w:World):PySem.KeyKind prog w Key where
 is:=ZfE
 hash:=Znx w
 inj:=fun v a b ha hb=>by
  rcases Z7 ha with⟨i,t,rfl,rfl⟩|⟨x,t,rfl,rfl⟩
  ·rcases Z7 hb with⟨j,u,rfl,e⟩|⟨y,u,rfl,e⟩
   ·injection e with e1 _;rw[e1]
   ·exact nomatch e
  ·rcases Z7 hb with⟨j,u,rfl,e⟩|⟨y,u,rfl,e⟩
   ·exact nomatch e
   ·injection e with e1 _;rw[e1]
 byValue:=fun k v h=>by
  rcases Z7 h with⟨i,t,rfl,rfl⟩|⟨x,t,rfl,rfl⟩ <;> rfl
 pyHash:=fun hv h=>by
  rcases Z7 hv with⟨i,t,rfl,rfl⟩|⟨x,t,rfl,rfl⟩
  ·exact wpAny_pyHash_int h
  ·exact wpAny_pyHash_str h
 eqBool:=fun hu hv h=>by
  rcases Z7 hu with⟨i,t,rfl,rfl⟩|⟨x,t,rfl,rfl⟩
  ·rcases Z7 hv with⟨j,u,rfl,rfl⟩|⟨y,u,rfl,rfl⟩
   ·rw[Zmw] at h;exact wpAny_eqBool_int h
   ·rw[Zmr] at h;exact SeqAt.EqAt.int_str i t y u _ _ _ _ h
  ·rcases Z7 hv with⟨j,u,rfl,rfl⟩|⟨y,u,rfl,rfl⟩
   ·rw[Zml] at h;exact SeqAt.EqAt.str_int x t j u _ _ _ _ h
   ·rw[Zms] at h;exact wpAny_eqBool_str h
 «strs» := fun k x t v h=>by
  rcases Z7 h with⟨i,u,rfl,e⟩|⟨y,u,rfl,e⟩
  ·exact nomatch e
  ·injection e with e1 _;subst e1;cases v <;> rfl
theorem Zgj(prog:Program)(w:World)(i:Int)(t:Tok):(ZX prog w).is (.inl i) (.int i t)=true:=ZjD i t
theorem Zf1(prog:Program)(w:World)(x:Str)(t:Tok):(ZX prog w).is (.inr x) (.str x t)=true:=ZjI x t
inductive V where
 | non|bl (b:Bool)|int (i:Int)|str (x:Str)|byt (b:Array UInt8)|flt (b:UInt64)|ref (a:Addr)|ty (n:String)
 deriving DecidableEq
def RelV:V->Value->Prop
 | .non,u=>u=Value.none
 | .bl b,u=>u=Value.bool b
 | .int i,u=>∃t,u=Value.int i t
 | .str x,u=>∃t,u=Value.str x t
 | .byt b,u=>∃t,u=Value.bytes b t
 | .flt b,u=>∃t,u=Value.float b t
 | .ref a,u=>u=Value.ref a
 | .ty n,u=>u=Value.type n
abbrev Vals:List V->List Value->Prop:=Paired RelV
theorem Vals.length{xs:List V}{us:List Value}(r:Vals xs us):xs.length=us.length:=Paired.length r
theorem Vals.get:∀{xs:List V}{us:List Value}{i:Nat}{x:V},Vals xs us->xs[i]?= some x->∃u,us[i]?= some u/\RelV x u
 | _,_,_,_,.nil,e=>by simp at e
 | _,_,0,_,.cons r _,e=>by simp at e;subst e;exact⟨_,rfl,r⟩
 | _,_,i+1,x,.cons _ t,e=>by
  obtain⟨u,h1,h2⟩:=Vals.get (i:=i) (x:=x) t (by simpa using e);exact⟨u,by simpa using h1,h2⟩
theorem Vals.set{x:V}{u:Value}(r:RelV x u):∀{xs:List V}{us:List Value}(i:Nat),Vals xs us->Vals (xs.set i x) (us.set i u)
 | _,_,_,.nil=>.nil
 | _,_,0,.cons _ t=>.cons r t
 | _,_,i+1,.cons q t=>.cons q (Vals.set r i t)
theorem Vals.append:∀{xs ys:List V}{us ws:List Value},Vals xs us->Vals ys ws->Vals (xs++ys) (us++ws)
 | _,_,_,_,.nil,s=>s
 | _,_,_,_,.cons r t,s=>.cons r (Vals.append t s)
theorem Vals.take:∀{xs:List V}{us:List Value}(n:Nat),Vals xs us->Vals (xs.take n) (us.take n)
 | _,_,0,_=>.nil
 | _,_,_+1,.nil=>.nil
 | _,_,n+1,.cons r t=>.cons r (Vals.take n t)
theorem Vals.drop:∀{xs:List V}{us:List Value}(n:Nat),Vals xs us->Vals (xs.drop n) (us.drop n)
 | _,_,0,r=>r
 | _,_,_+1,.nil=>.nil
 | _,_,n+1,.cons _ t=>Vals.drop n t
def Zfg:Option V->Option Value->Prop
 | some v,some u=>RelV v u
 | none,none=>True
 | _,_=>False
def KV{κ : Type}:List (κ × V)->List (κ × Value)->Prop:=Paired fun(p : κ × V)(q : κ × Value)=>p.1=q.1/\RelV p.2 q.2
def kV:Key->V
 | .inl i=>.int i
 | .inr x=>.str x
inductive HO where
 | lst (xs:List V)
 | tup (xs:List V)
 | dK (kvs:List (Key×V))|dT (kvs:List (List Key×V))
 | set (S:Int->Bool) (n:Nat)
 | ins (C dx:Addr) (fs:List (Str×V))
 | own (x:Addr)
 | xd (fs:List (Str×V))
 | met (f x:Addr)
 | rng (lo hi:Int)
 | frz (o:Obj) (u:HO)
 | tbl (ps:Array Value)
 | ext (φ : Heap->Prop)
abbrev Hp:=Addr->Option HO
def upd(H:Hp)(a:Addr)(o:HO):Hp:=fun b=>if b=a then some o else H b
theorem Zb{H:Hp}{a:Addr}{o:HO}:upd H a o a=some o:=by unfold upd;rw[if_pos rfl]
theorem Zc{H:Hp}{a b:Addr}{o:HO}(h:b≠a):upd H a o b=H b:=by unfold upd;rw[if_neg h]
theorem ZlF{H:Hp}{a:Addr}{o u:HO}:upd (upd H a o) a u=upd H a u:=by
 funext b;unfold upd;split <;> rfl
theorem ZgH{H:Hp}{a b:Addr}{o u:HO}(h:H a=some o)(h':H b=some u)(d:o≠u):a≠b:=by
 intro e;subst e;rw[h] at h';exact d (Option.some.inj h')
theorem Zi{H:Hp}{a b:Addr}{o:HO}(h:H a=some o)(h':H b=none):a≠b:=by
 intro e;subst e;rw[h] at h';cases h'
section
variable(P:Program)(w:World)
def Zaz(H:Hp)(h:Heap)(a:Addr):HO->Prop
 | .lst xs=>xs.length<=sizeLine/\∃(its:List Value)(n:Nat),Vals xs its/\h.get? a=some { cls:=.type "list",data:=.seq its.toArray n }
 | .tup xs=>xs.length<=sizeLine/\∃its:List Value,Vals xs its/\IsTup h a its.toArray
 | .dK kvs=>kvs.length<=sizeLine/\(a == sysModules)=false/\∃vs,KV kvs vs/\h.DictOf (ZX P w) a vs
 | .dT kvs=>kvs.length<=sizeLine/\(a == sysModules)=false/\∃xs:List (List Key×Addr×Value),
   Paired (fun(p:List Key×V)(q:List Key×Addr×Value)=>p.1=q.1/\H q.2.1=some (.tup (p.1.map kV))/\RelV p.2 q.2.2) kvs xs /\
   ∃o es ep,h.get? a=some o/\o.ExactDict/\o.data=.dict es ep/\es.toList=xs.map (entryOfKey (tupleKind (ZX P w)))/\(xs.map (·.1)).Nodup
 | .set S n=>h.SetOf (intKind P w) a S n
 | .ins C dx fs=>H dx=some (.own a)/\fs.length<=1000/\dx≠a/\h.get? a=some (PySem.W.instObj C dx) /\
   ∃mA,h.Ns1 dx mA/\(∀f,Zfg (fs.lookup f) (mA f))/\PySem.Within mA (fs.map (·.1))
 | .own _=>∃o,h.get? a=some o
 | .xd fs=>∃mA,h.Ns1 a mA/\∀f,Zfg (fs.lookup f) (mA f)
 | .rng lo hi=>∃t u v,h.get? a=some { cls:=.type "range",data:=.fields #[.int lo t,.int hi u,.int 1 v] }
 | .frz o u=>h.get? a=some o/\Zaz H h a u
 | .tbl ps=>h.get? a=some { cls:=.none,data:=.fields ps }
 | .met f x=>h.get? a=some (PySem.W.methodObj (.ref f) (.ref x))
 | .ext φ=>φ h/\(∃o,h.get? a=some o)/\∀h1 h2:Heap,φ h1->(∀o,h1.get? a=some o->h2.get? a=some o) -> φ h2
def HOk(H:Hp)(h:Heap):Prop := ∀a o,H a=some o->Zaz P w H h a o
end
section
variable{P:Program}{w:World}{H H':Hp}{h h':Heap}{a:Addr}{o:HO}
theorem Zaz.lt(x:Zaz P w H h a o):a<h.objs.size:=by
 cases o with
 | lst xs=>obtain⟨_,_,_,_,e⟩:=x;exact Heap.lt_size e
 | tup xs=>obtain⟨_,_,_,p⟩:=x;exact p.lt
 | dK kvs=>obtain⟨_,_,_,_,o,_,_,e,_⟩:=x;exact Heap.lt_size e
 | dT kvs=>obtain⟨_,_,_,_,o,_,_,e,_⟩:=x;exact Heap.lt_size e
 | set S n=>obtain⟨o,_,_,_,e,_⟩:=x;exact Heap.lt_size e
 | ins C dx fs=>obtain⟨_,_,_,e,_⟩:=x;exact Heap.lt_size e
 | own y=>obtain⟨_,e⟩:=x;exact Heap.lt_size e
 | xd fs=>obtain⟨_,⟨_,_,_,e,_⟩,_⟩:=x;exact Heap.lt_size e
 | rng lo hi=>obtain⟨_,_,_,e⟩:=x;exact Heap.lt_size e
 | frz ob u=>obtain⟨e,_⟩:=x;exact Heap.lt_size e
 | tbl ps=>exact Heap.lt_size (show h.get? a=some _ from x)
 | met f y=>exact Heap.lt_size (show h.get? a=some _ from x)
 | ext φ=>obtain⟨_,⟨_,e⟩,_⟩:=x;exact Heap.lt_size e
theorem Paired.mapP{α β : Type}{F G : α -> β -> Prop}:∀{l₁ : List α}{l₂ : List β},Paired F l₁ l₂ -> (∀a b,F a b->G a b)->Paired G l₁ l₂
 | _,_,.nil,_=>.nil
 | _,_,.cons r t,f=>.cons (f _ _ r) (Paired.mapP t f)
theorem Zaz.stay(x:Zaz P w H h a o)(k:∀b u,(b=a\/H b=some (.own a))->h.get? b=some u->h'.get? b=some u)
  (ho:∀b,H b=some (.own a)->H' b=some (.own a)) (ht:∀b xs,H b=some (.tup xs)->H' b=some (.tup xs)):Zaz P w H' h' a o:=by
 induction o with
 | lst xs=>obtain⟨z,its,n,r,e⟩:=x;exact⟨z,its,n,r,k _ _ (.inl rfl) e⟩
 | tup xs=>obtain⟨z,its,r,ob,e,c⟩:=x;exact⟨z,its,r,ob,k _ _ (.inl rfl) e,c⟩
 | dK kvs=>obtain⟨z,y,vs,r,ob,es,ep,e,c⟩:=x;exact⟨z,y,vs,r,ob,es,ep,k _ _ (.inl rfl) e,c⟩
 | dT kvs =>
  obtain⟨z,y,xs,r,ob,es,ep,e,c⟩:=x;exact⟨z,y,xs,Paired.mapP r fun p q z=>⟨z.1,ht _ _ z.2.1,z.2.2⟩,ob,es,ep,k _ _ (.inl rfl) e,c⟩
 | set S n=>obtain⟨ob,es,ep,t,e,c⟩:=x;exact⟨ob,es,ep,t,k _ _ (.inl rfl) e,c⟩
 | ins C dx fs =>
  obtain⟨d,z,ne,e,mA,⟨od,es,ep,e2,c⟩,r⟩:=x;exact⟨ho _ d,z,ne,k _ _ (.inl rfl) e,mA,⟨od,es,ep,k _ _ (.inr d) e2,c⟩,r⟩
 | own y=>obtain⟨ob,e⟩:=x;exact⟨ob,k _ _ (.inl rfl) e⟩
 | xd fs=>obtain⟨mA,⟨od,es,ep,e,c⟩,r⟩:=x;exact⟨mA,⟨od,es,ep,k _ _ (.inl rfl) e,c⟩,r⟩
 | rng lo hi=>obtain⟨t,u,v,e⟩:=x;exact⟨t,u,v,k _ _ (.inl rfl) e⟩
 | frz ob u ih=>obtain⟨e,q⟩:=x;exact⟨k _ _ (.inl rfl) e,ih q⟩
 | tbl ps =>
  have e:h.get? a=some { cls:=.none,data:=.fields ps }:=x;show h'.get? a=some { cls:=.none,data:=.fields ps };exact k a _ (.inl rfl) e
 | met f y =>
  have e:h.get? a=some (PySem.W.methodObj (.ref f) (.ref y)):=x;show h'.get? a=some (PySem.W.methodObj (.ref f) (.ref y));exact k a _ (.inl rfl) e
 | ext φ=>obtain⟨p,⟨o,e⟩,st⟩:=x;exact⟨st _ _ p fun o q=>k _ _ (.inl rfl) q,⟨o,k _ _ (.inl rfl) e⟩,st⟩
theorem HOk.lt(x:HOk P w H h)(e:H a=some o):a<h.objs.size:=(x a o e).lt
theorem HOk.fresh(x:HOk P w H h)(e:h.objs.size<=a):H a=none:=by
 cases q:H a with
 | none=>rfl
 | some u=>exact absurd (Nat.lt_of_lt_of_le (x.lt q) e) (Nat.lt_irrefl _)
theorem HOk.kept(x:HOk P w H h)(k:∀b u,h.get? b=some u->h'.get? b=some u):HOk P w H h':=fun a o e =>
 (x a o e).stay (fun b u _ q=>k b u q) (fun _ q=>q) fun _ _ q=>q
theorem HOk.laid(x:HOk P w H h)(k:∀b u,h.get? b=some u->h'.get? b=some u)(hp:h.objs.size<=a)(new:Zaz P w (upd H a o) h' a o):HOk P w (upd H a o) h':=fun b u e=>by
 have hn:=x.fresh hp;by_cases hb:b=a
 ·subst hb;rw[Zb] at e;cases e;exact new
 ·rw[Zc hb] at e;exact(x b u e).stay (fun c v _ q=>k c v q) (fun c q=>by rw[Zc (Zi q hn)];exact q) fun c xs q=>by rw[Zc (Zi q hn)];exact q
end
def Rd(H:Hp)(a:Addr)(u:HO):Prop:=H a=some u\/∃o,H a=some (.frz o u)
theorem Rd.ok{P:Program}{w:World}{H:Hp}{h:Heap}{a:Addr}{u:HO}(r:Rd H a u)(x:HOk P w H h):Zaz P w H h a u:=by
 rcases r with r|⟨o,r⟩
 ·exact x a u r
 ·obtain⟨_,q⟩:=x a _ r;exact q
def Mut:Option HO->Prop
 | some (.lst _)=>True
 | some (.dK _)=>True
 | some (.dT _)=>True
 | some (.set _ _)=>True
 | some (.ins _ _ _)=>True
 | some (.ext _)=>True
 | _=>False
section
variable{P:Program}{w:World}{H:Hp}{h h':Heap}{x e:Addr}{o':HO}
theorem HOk.write(ok:HOk P w H h)(mu:Mut (H x))(he:e=x\/H e=some (.own x))(k:∀b u,b≠e->h.get? b=some u->h'.get? b=some u)(heo:∃u,h'.get? e=some u)
  (new:Zaz P w (upd H x o') h' x o'):HOk P w (upd H x o') h':=fun b u q=>by
 have nown:∀c y,H c=some (.own y)->c≠x:=fun c y r z=>by subst z;rw[r] at mu;exact mu
 have ntup:∀c xs,H c=some (.tup xs)->c≠x:=fun c xs r z=>by subst z;rw[r] at mu;exact mu
 by_cases hb:b=x
 ·subst hb;rw[Zb] at q;cases q;exact new
 ·rw[Zc hb] at q;by_cases hbe:b=e
  ·have q':H b=some (.own x):=by
    rcases he with z|z
    ·exact absurd (hbe.trans z) hb
    ·rw[hbe];exact z
   rw[q] at q';cases q';obtain⟨v,hv⟩:=heo;exact⟨v,by rw[hbe];exact hv⟩
  ·refine(ok b u q).stay (fun c v hc r=>k c v ?_ r) (fun c r=>by rw[Zc (nown c b r)];exact r) fun c xs r=>by rw[Zc (ntup c xs r)];exact r
   rcases hc with rfl|hc
   ·exact hbe
   ·rintro rfl;rcases he with z|z
    ·exact nown c b hc z
    ·rw[hc] at z;cases z;exact hb rfl
end
structure Un(fs ex:List Addr)(H H':Hp)(h h':Heap):Prop where
 keep:∀b o,h.get? b=some o->H b=none->b∉fs->b∉ex->h'.get? b=some o
 slot:∀b o,h.get? b=some o->H b=none->b∈fs->b∉ex->∃sl,h'.get? b=some { o with slots:=sl }
 free:∀b o,h.get? b=some o->H b=none->b∉ex->H' b=none
 there:∀b o,h.get? b=some o->b∉ex->∃o',h'.get? b=some o'
 tups:∀b xs,H b=some (.tup xs)->H' b=some (.tup xs)
 frzs:∀b o u,H b=some (.frz o u)->H' b=some (.frz o u)
 tbls:∀b ps,H b=some (.tbl ps)->∃more,H' b=some (.tbl (ps++more))
section
variable{fs fs' ex ex':List Addr}{H H1 H2:Hp}{h h1 h2 h':Heap}{a x e:Addr}{o:HO}
theorem Un.any(u:Un fs ex H H1 h h1){b:Addr}{ob:Obj}(q:h.get? b=some ob)(n:H b=none)(hx:b∉ex):∃sl,h1.get? b=some { ob with slots:=sl }:=by
 by_cases hb:b∈fs
 ·exact u.slot b ob q n hb hx
 ·exact⟨ob.slots,u.keep b ob q n hb hx⟩
theorem Un.kept(k:∀b u,h.get? b=some u->h'.get? b=some u):Un fs ex H H h h' :=
 ⟨fun b ob q _ _ _=>k b ob q,fun b ob q _ _ _=>⟨ob.slots,k b ob q⟩,fun _ _ _ n _=>n,fun b ob q _=>⟨ob,k b ob q⟩,fun _ _ q=>q,fun _ _ _ q=>q,fun _ ps q=>⟨#[],by rw[q];simp⟩⟩
theorem Un.refl:Un fs ex H H h h:=Un.kept fun _ _ q=>q
theorem Un.laid(k:∀b u,h.get? b=some u->h'.get? b=some u)(hp:h.objs.size<=a)(hn:H a=none):Un fs ex H (upd H a o) h h' where
 keep:=fun b u q _ _ _=>k b u q
 slot:=fun b u q _ _ _=>⟨u.slots,k b u q⟩
 free:=fun b u q n _=>by rw[Zc (Nat.ne_of_lt (Nat.lt_of_lt_of_le (Heap.lt_size q) hp))];exact n
 there:=fun b u q _=>⟨u,k b u q⟩
 tups:=fun b xs q=>by rw[Zc (Zi q hn)];exact q
 frzs:=fun b u xs q=>by rw[Zc (Zi q hn)];exact q
 tbls:=fun b ps q=>⟨#[],by rw[Zc (Zi q hn),q];simp⟩
theorem Un.write(mu:Mut (H x))(he:e=x\/H e=some (.own x))(k:∀b u,b≠e->h.get? b=some u->h'.get? b=some u)(heo:∃u,h'.get? e=some u):Un fs ex H (upd H x o) h h':=by
 have hx:∀b,H b=none->b≠x:=fun b n z=>by subst z;rw[n] at mu;exact mu
 have hb:∀b,H b=none->b≠e:=fun b n z=>by
  subst z;rcases he with r|r
  ·exact hx b n r
  ·rw[n] at r;cases r
 have hm:∀b u,H b=some u -> ¬ Mut (some u)->b≠x:=fun b u q nm z=>by subst z;rw[q] at mu;exact nm mu
 refine⟨fun b u q n _ _=>k b u (hb b n) q,fun b u q n _ _=>⟨u.slots,k b u (hb b n) q⟩,fun b u q n _=>by rw[Zc (hx b n)];exact n,fun b u q _=>?_,
  fun b xs q=>by rw[Zc (hm b _ q fun z=>z)];exact q,fun b u xs q=>by rw[Zc (hm b _ q fun z=>z)];exact q,fun b ps q=>⟨#[],by rw[Zc (hm b _ q fun z=>z),q];simp⟩⟩
 by_cases hbe:b=e
 ·subst hbe;exact heo
 ·exact⟨u,k b u hbe q⟩
end
def trk(h:Heap)(H:Hp):List Addr:=(List.range h.objs.size).filter fun a=>(H a).isSome
def Zkx(h:Heap)(H:Hp):Heap:=PySem.W.hideAll h (trk h H)
theorem ZiB(h:Heap)(H:Hp):(Zkx h H).objs.size=h.objs.size:=PySem.W.hideAll_size _ _
theorem ZjP{h:Heap}{H:Hp}{b:Addr}{o:Obj}(e:h.get? b=some o)(n:H b=none):(Zkx h H).get? b=some o :=
 PySem.W.hideAll_get _ e fun hm=>by
  have q:(H b).isSome=true:=(List.mem_filter.mp hm).2;rw[n] at q;simp at q
theorem Zls{h:Heap}{H:Hp}{b:Addr}{o:Obj}(e:(Zkx h H).get? b=some o):h.get? b=some o/\H b=none:=by
 have e':h.get? b=some o:=PySem.W.of_hideAll (trk h H) e;refine⟨e',?_⟩;cases q:H b with
 | none=>rfl
 | some x =>
  have hm:b∈trk h H:=List.mem_filter.mpr ⟨List.mem_range.mpr (Heap.lt_size e'),by simp[q]⟩;have z:(Zkx h H).get? b=none:=PySem.W.hideAll_none (trk h H) hm;rw[z] at e;cases e
structure Mod(K:PySem.W.Frag)(mg:Str->Option Value)(base:Heap):Prop where
 kin:K.In base
 glob:base.Ns mainGlobals mg
 blt:∃mb,base.Ns builtinsNs mb/\∀x:Str,x ≠ "__name__" -> mb x=bootBuiltins x
 nolimit:base.NoLimit
/-- the context: a def's body (or a comprehension's block) running. base: fixed through the whole law;s₀,H₀: the entry;outer: the frames whose slots others may change (a def's callers);stack: all frames that run;
   ex: iterators that were made ahead of the entry and are walked here (a comprehension's);fn: the names whose cells were made at the entry (a def: all;a comprehension's block: its own);calm: not within an except suite;pn: pins that every state bears;xe: what is wanted of an exception that leaves the code -/
structure Cx where
 prog:Program
 w:World
 K:PySem.W.Frag
 mg:Str->Option Value
 base:Heap
 A:Around
 N:List Str
 s₀ : Shared
 H₀ : Hp
 env:Env
 outer:List Env
 stack:List Env
 ex:List Addr
 fn:Str->Bool
 calm:Bool
 pn:List (Addr×Obj)
 xe:Value->Shared->Prop
def frs(l:List Env):List Addr:=l.filterMap (·.frame)
abbrev Cx.fs(X:Cx):List Addr:=frs X.outer
def Vis(sc:Scope)(x:Str):Prop:=sc.names.lookup x=some .local\/sc.names.lookup x=some .cell\/sc.names.lookup x=some .free
def Loc(sc:Scope)(x:Str):Prop:=sc.names.lookup x=some .local\/sc.names.lookup x=some .cell
def Look(env:Env)(h:Heap)(m:Str->Option Value)(x:Str)(u:Value):Prop :=
 (env.kindOf x=some .local/\m x=some u)\/((env.kindOf x=some .cell\/env.kindOf x=some .free)/\∃c,env.cells.lookup x=some c/\h.IsCell c (some u))
structure Cx.Ok(X:Cx):Prop where
 mod:Mod X.K X.mg X.base
 kind:X.env.scope.kind=.function
 glob:X.env.globals=mainGlobals
 blt:X.env.builtins=builtinsNs
 above:X.s₀.heap.objs.size<=X.env.locals
 inj:∀x y c,X.env.cells.lookup x=some c->X.env.cells.lookup y=some c->x=y
 has:∀x,(X.env.kindOf x=some .cell\/X.env.kindOf x=some .free)->∃c,X.env.cells.lookup x=some c
 cab:∀x c,X.fn x=true->X.env.cells.lookup x=some c->X.s₀.heap.objs.size<=c
 hd:X.calm=true->X.A.handled=none
 frames:X.A.frames=some X.stack
 stk:X.stack=X.outer\/(X.stack=X.env::X.outer/\X.env.frame=some X.env.locals)
 exf:∀b∈X.ex,b≠X.env.locals/\∀x c,X.env.cells.lookup x=some c->c≠b
 bs:∀b o,X.base.get? b=some o->X.s₀.heap.get? b=some o/\X.H₀ b=none
 bsz:X.base.objs.size<=X.s₀.heap.objs.size
 noex:∀b o,X.base.get? b=some o->b∉X.ex
 exfs:∀b∈X.ex,b∉X.fs
 funs:X.s₀.heap.FunFrames X.base X.outer
 frf:∀b∈X.fs,X.H₀ b=none
structure Inv(X:Cx)(pins:List (Addr×Obj))(σ : List (Option V))(H:Hp)(s:Shared):Prop where
 ok:X.Ok
 os:s.os=X.s₀.os
 bare:AllBare s.gens
 base:Un X.fs X.ex X.H₀ H X.s₀.heap s.heap
 loc:∃m,s.heap.Ns X.env.locals m/\∀(i:Nat)(x:Str)(v:V),X.N[i]?= some x -> σ[i]?= some (some v)->Vis X.env.scope x->∃u,RelV v u/\Look X.env s.heap m x u
 cell:∀x c,X.env.cells.lookup x=some c->∃v,s.heap.IsCell c v
 free:H X.env.locals=none
 freeC:∀x c,X.env.cells.lookup x=some c->H c=none
 pin:∀p∈X.pn++pins,s.heap.get? p.1=some p.2/\H p.1=none/\p.1≠X.env.locals/\p.1∉X.fs/\∀v,p.2.data ≠ .cell v
 hok:HOk X.prog X.w H s.heap
 len : σ.length=X.N.length
section
variable{X:Cx}{pins:List (Addr×Obj)}{σ : List (Option V)}{H H':Hp}{s:Shared}{h':Heap}
theorem Cx.Ok.nofr(ok:X.Ok){b:Addr}{o:Obj}(e:X.base.get? b=some o):b∉X.fs:=fun hb=>by
 have:=(ok.funs.mem hb).1;rw[e] at this;cases this
theorem Inv.bs(I:Inv X pins σ H s):∀b o,X.base.get? b=some o->s.heap.get? b=some o/\H b=none:=fun b o e =>
 ⟨I.base.keep b o (I.ok.bs b o e).1 (I.ok.bs b o e).2 (I.ok.nofr e) (I.ok.noex b o e),I.base.free b o (I.ok.bs b o e).1 (I.ok.bs b o e).2 (I.ok.noex b o e)⟩
theorem Inv.bk(I:Inv X pins σ H s):∀b o,X.base.get? b=some o->s.heap.get? b=some o:=fun b o e=>(I.bs b o e).1
theorem Inv.mod(I:Inv X pins σ H s):Mod X.K X.mg X.base:=I.ok.mod
theorem Inv.kIn(I:Inv X pins σ H s):X.K.In s.heap:=I.ok.mod.kin.keeps I.bk
theorem Inv.lt(I:Inv X pins σ H s):X.env.locals<s.heap.objs.size:=let ⟨_,hn,_⟩:=I.loc;hn.lt
theorem Inv.sz(I:Inv X pins σ H s):X.s₀.heap.objs.size<=s.heap.objs.size:=Nat.le_trans I.ok.above (Nat.le_of_lt I.lt)
theorem Inv.nofs(I:Inv X pins σ H s){a:Addr}(h:s.heap.objs.size<=a):a∉X.fs:=fun hb=>by
 obtain⟨_,o,ho,_⟩:=I.ok.funs.mem hb;exact absurd (Nat.lt_of_lt_of_le (Heap.lt_size ho) (Nat.le_trans I.sz h)) (Nat.lt_irrefl _)
theorem Inv.cne(I:Inv X pins σ H s):∀x c,X.env.cells.lookup x=some c->c≠X.env.locals:=fun x c e z=>by
 obtain⟨v,o,ho,hd⟩:=I.cell x c e;obtain⟨m,⟨o',es,ep,ho',hd',_⟩,_⟩:=I.loc;rw[z,ho'] at ho;cases ho;rw[hd'] at hd;cases hd
theorem Inv.funs(I:Inv X pins σ H s):s.heap.FunFrames X.base X.outer:=by
 have all:∀(l:List Env),(∀b∈frs l,b∈X.fs)->X.s₀.heap.FunFrames X.base l->s.heap.FunFrames X.base l:=by
  intro l
  induction l with
  | nil=>intro _ _;trivial
  | cons env r ih =>
   intro hs hl;obtain⟨hk,⟨L,o,hf,hn,ho,hd⟩,hr⟩:=hl;have hL:L∈X.fs:=hs L (by unfold frs;rw[List.filterMap_cons,hf];exact List.mem_cons_self);obtain⟨sl,e⟩:=I.base.slot L o ho (I.ok.frf L hL) hL fun z=>I.ok.exfs L z hL;exact⟨hk,⟨L,_,hf,hn,e,hd⟩,ih (fun b hb=>hs b (by unfold frs;rw[List.filterMap_cons,hf];exact List.mem_cons_of_mem _ hb)) hr⟩
 exact all X.outer (fun _ hb=>hb) I.ok.funs
theorem Inv.stack(I:Inv X pins σ H s):s.heap.FunFrames X.base X.stack:=by
 rcases I.ok.stk with e|⟨e,hf⟩
 ·rw[e];exact I.funs
 ·rw[e];obtain⟨m,hn,_⟩:=I.loc;refine .cons (by rw[I.ok.kind];decide) hf hn ?_ I.funs;exact Heap.get?_none_of_le (Nat.le_trans I.ok.bsz I.ok.above)
theorem Inv.stkSub(I:Inv X pins σ H s):∀b∈frs X.stack,b∈X.env.locals::X.fs:=fun b hb=>by
 rcases I.ok.stk with e|⟨e,hf⟩
 ·rw[e] at hb;exact List.mem_cons_of_mem _ hb
 ·rw[e] at hb;unfold frs at hb;rw[List.filterMap_cons,hf] at hb;exact hb
theorem Inv.stkFree(I:Inv X pins σ H s):∀b∈frs X.stack,H b=none:=fun b hb=>by
 rcases List.mem_cons.mp (I.stkSub b hb) with e|hb
 ·rw[e];exact I.free
 ·obtain⟨_,o,ho,_⟩:=I.ok.funs.mem hb;exact I.base.free b o ho (I.ok.frf b hb) fun z=>I.ok.exfs b z hb
theorem Inv.step{g':Array GenState}{t':Nat}{d':Drawn}{ch:List Addr}(I:Inv X pins σ H s)
  (hch:∀b∈ch,(b∈X.ex\/X.s₀.heap.objs.size<=b)/\b≠X.env.locals/\(∀x c,X.env.cells.lookup x=some c->c≠b)/\∀p∈X.pn++pins,p.1≠b)
  (keep:∀b o,b≠X.env.locals->b∉X.fs->b∉ch->s.heap.get? b=some o->H b=none->h'.get? b=some o)
  (slot:∀b o,b≠X.env.locals->b∈X.fs->b∉ch->s.heap.get? b=some o->H b=none->∃sl,h'.get? b=some { o with slots:=sl }) (free:∀b o,b∉ch->s.heap.get? b=some o->H b=none->H' b=none)
  (there:∀b o,b∉ch->s.heap.get? b=some o->∃o',h'.get? b=some o')
  (tups:∀b xs,H b=some (.tup xs)->H' b=some (.tup xs)) (frzs:∀b o u,H b=some (.frz o u)->H' b=some (.frz o u)) (tbls:∀b ps,H b=some (.tbl ps)->∃more,H' b=some (.tbl (ps++more)))
  (ns:∀m,s.heap.Ns X.env.locals m->h'.Ns X.env.locals m) (hok:HOk X.prog X.w H' h') (hg:AllBare g') :
  Inv X pins σ H' { s with heap:=h',gens:=g',drawn:=d',toks:=t' }:=by
 have neL:∀b o,X.s₀.heap.get? b=some o->b≠X.env.locals:=fun b o e=>Nat.ne_of_lt (Nat.lt_of_lt_of_le (Heap.lt_size e) I.ok.above);have neC:∀b o,X.s₀.heap.get? b=some o->b∉X.ex->b∉ch:=fun b o e hx hb=>by
  rcases(hch b hb).1 with z|z
  ·exact hx z
  ·exact absurd (Nat.lt_of_lt_of_le (Heap.lt_size e) z) (Nat.lt_irrefl _)
 have cellK:∀x c,X.env.cells.lookup x=some c->∀v,s.heap.IsCell c v->h'.IsCell c v:=fun x c e v ⟨o,ho,hd⟩=>by
  have nch:c∉ch:=fun z=>(hch c z).2.2.1 x c e rfl;by_cases hc:c∈X.fs
  ·obtain⟨sl,q⟩:=slot c o (I.cne x c e) hc nch ho (I.freeC x c e);exact⟨_,q,hd⟩
  ·exact⟨o,keep c o (I.cne x c e) hc nch ho (I.freeC x c e),hd⟩
 refine⟨I.ok,I.os,hg,⟨fun b o e n hb hx=>?_,fun b o e n hb hx=>?_,fun b o e n hx=>?_,fun b o e hx=>?_,fun b xs e=>tups b xs (I.base.tups b xs e),fun b o xs e=>frzs b o xs (I.base.frzs b o xs e),fun b ps e=>?_⟩,?_,fun x c e=>?_,?_,fun x c e=>?_,fun p hp=>?_,hok,I.len⟩
 ·exact keep b o (neL b o e) hb (neC b o e hx) (I.base.keep b o e n hb hx) (I.base.free b o e n hx)
 ·obtain⟨sl,e1⟩:=I.base.slot b o e n hb hx;obtain⟨sl',e2⟩:=slot b _ (neL b o e) hb (neC b o e hx) e1 (I.base.free b o e n hx);exact⟨sl',e2⟩
 ·obtain⟨o',e1⟩:=I.base.there b o e hx;exact free b o' (neC b o e hx) e1 (I.base.free b o e n hx)
 ·obtain⟨o',e1⟩:=I.base.there b o e hx;exact there b o' (neC b o e hx) e1
 ·obtain⟨m1,e1⟩:=I.base.tbls b ps e;obtain⟨m2,e2⟩:=tbls b _ e1;exact⟨m1++m2,by rw[e2,Array.append_assoc]⟩
 ·obtain⟨m,hn,hl⟩:=I.loc;refine⟨m,ns m hn,fun i x v e1 e2 e3=>?_⟩;obtain⟨u,r,l⟩:=hl i x v e1 e2 e3;refine⟨u,r,?_⟩;rcases l with l|⟨k,c,e,z⟩
  ·exact .inl l
  ·exact .inr ⟨k,c,e,cellK x c e _ z⟩
 ·obtain⟨v,z⟩:=I.cell x c e;exact⟨v,cellK x c e v z⟩
 ·obtain⟨m,⟨o,_,_,ho,_⟩,_⟩:=I.loc;exact free _ o (fun z=>(hch _ z).2.1 rfl) ho I.free
 ·obtain⟨v,o,ho,hd⟩:=I.cell x c e;exact free c o (fun z=>(hch c z).2.2.1 x c e rfl) ho (I.freeC x c e)
 ·obtain⟨e,n,ne,nf,d⟩:=I.pin p hp;have nch:p.1∉ch:=fun z=>(hch p.1 z).2.2.2 p hp rfl;exact⟨keep p.1 p.2 ne nf nch e n,free p.1 p.2 nch e n,ne,nf,d⟩
theorem Inv.un{t':Nat}(I:Inv X pins σ H s)(u:Un X.fs [] H H' s.heap h')(hok:HOk X.prog X.w H' h'):Inv X pins σ H' { s with heap:=h',toks:=t' }:=by
 obtain⟨m,⟨o,es,ep,ho,r⟩,_⟩:=id I.loc;obtain⟨sl,hL⟩:=u.any ho I.free (by simp);exact I.step (g':=s.gens) (d':=s.drawn) (ch:=[]) (fun _ z=>nomatch z) (fun b o _ hb _ e n=>u.keep b o e n hb (by simp)) (fun b o _ hb _ e n=>u.slot b o e n hb (by simp)) (fun b o _ e n=>u.free b o e n (by simp)) (fun b o _ e=>u.there b o e (by simp)) u.tups u.frzs u.tbls (fun m' hm=>by
  obtain⟨o',es',ep',ho',r'⟩:=hm;rw[ho] at ho';cases ho';exact⟨_,es',ep',hL,r'⟩) hok I.bare
theorem Inv.call{g':Array GenState}{t':Nat}{d':Drawn}{ch:List Addr}(I:Inv X pins σ H s)(u:Un (frs X.stack) ch H H' s.heap h')(hok:HOk X.prog X.w H' h')(hg:AllBare g')
  (hch:∀b∈ch,(b∈X.ex\/X.s₀.heap.objs.size<=b)/\b≠X.env.locals/\(∀x c,X.env.cells.lookup x=some c->c≠b)/\∀p∈X.pn++pins,p.1≠b) :
  Inv X pins σ H' { s with heap:=h',gens:=g',drawn:=d',toks:=t' }:=by
 obtain⟨m,⟨o,es,ep,ho,r⟩,_⟩:=id I.loc;obtain⟨sl,hL⟩:=u.any ho I.free fun z=>(hch _ z).2.1 rfl;exact I.step (ch:=ch) hch (fun b o hL hb hc e n=>u.keep b o e n (fun z=>(List.mem_cons.mp (I.stkSub b z)).elim hL hb) hc) (fun b o _ _ hc e n=>u.any e n hc) (fun b o hc e n=>u.free b o e n hc) (fun b o hc e=>u.there b o e hc) u.tups u.frzs u.tbls (fun m' hm=>by
  obtain⟨o',es',ep',ho',r'⟩:=hm;rw[ho] at ho';cases ho';exact⟨_,es',ep',hL,r'⟩) hok hg
theorem Inv.turned{t':Nat}{it:Addr}(I:Inv X pins σ H s)(k:∀b o,b≠it->s.heap.get? b=some o->h'.get? b=some o)(hn:H it=none)(hL:it≠X.env.locals)
  (h1:it∈X.ex\/X.s₀.heap.objs.size<=it) (h2:∀x c,X.env.cells.lookup x=some c->c≠it) (h3:∀p∈X.pn++pins,p.1≠it):Inv X pins σ H { s with heap:=h',toks:=t' }:=by
 have nit:∀b u,H b=some u->b≠it:=fun b u e z=>by rw[z,hn] at e;cases e
 refine I.step (g':=s.gens) (d':=s.drawn) (ch:=[it]) (fun b hb=>?_) (fun b o _ _ hc e _=>k b o (fun z=>hc (by simp[z])) e) (fun b o _ _ hc e _=>⟨o.slots,k b o (fun z=>hc (by simp[z])) e⟩) (fun _ _ _ _ n=>n)
  (fun b o hc e=>⟨o,k b o (fun z=>hc (by simp[z])) e⟩) (fun _ _ e=>e) (fun _ _ _ e=>e) (fun b ps e=>⟨#[],by rw[e];simp⟩) (fun m hm=>?_) (fun b u e=>?_) I.bare
 ·have e:b=it:=by simpa using hb
  subst e;exact⟨h1,hL,h2,h3⟩
 ·obtain⟨o,es,ep,ho,r⟩:=hm;exact⟨o,es,ep,k _ o (Ne.symm hL) ho,r⟩
 ·refine(I.hok b u e).stay (fun c v hc q=>k c v ?_ q) (fun _ q=>q) fun _ _ q=>q;rcases hc with z|z
  ·rw[z];exact nit b u e
  ·exact nit c _ z
theorem Inv.tok(I:Inv X pins σ H s)(t:Nat):Inv X pins σ H { s with toks:=t }:=I.un (h':=s.heap) (t':=t) Un.refl I.hok
theorem Inv.kept{t':Nat}(I:Inv X pins σ H s)(k:∀b u,s.heap.get? b=some u->h'.get? b=some u):Inv X pins σ H { s with heap:=h',toks:=t' }:=I.un (Un.kept k) (I.hok.kept k)
theorem Inv.laid{a:Addr}{o:HO}{t':Nat}(I:Inv X pins σ H s)(k:∀b u,s.heap.get? b=some u->h'.get? b=some u)(hp:s.heap.objs.size<=a)(new:Zaz X.prog X.w (upd H a o) h' a o) :
  Inv X pins σ (upd H a o) { s with heap:=h',toks:=t' }:=I.un (Un.laid k hp (I.hok.fresh hp)) (I.hok.laid k hp new)
theorem Inv.write{x e:Addr}{o:HO}{t':Nat}(I:Inv X pins σ H s)(mu:Mut (H x))(he:e=x\/H e=some (.own x))(k:∀b u,b≠e->s.heap.get? b=some u->h'.get? b=some u)(heo:∃u,h'.get? e=some u)
  (new:Zaz X.prog X.w (upd H x o) h' x o):Inv X pins σ (upd H x o) { s with heap:=h',toks:=t' }:=I.un (Un.write mu he k heo) (I.hok.write mu he k heo new)
theorem Inv.pins_of{pins':List (Addr×Obj)}(I:Inv X pins σ H s)(h:∀p∈pins',s.heap.get? p.1=some p.2/\H p.1=none/\p.1≠X.env.locals/\p.1∉X.fs/\∀v,p.2.data ≠ .cell v):Inv X pins' σ H s :=
 ⟨I.ok,I.os,I.bare,I.base,I.loc,I.cell,I.free,I.freeC,fun p hp=>(List.mem_append.mp hp).elim (fun z=>I.pin p (List.mem_append_left _ z)) (h p),I.hok,I.len⟩
theorem Zhq{N:List Str}(hN:N.Nodup){i j:Nat}{x:Str}(a:N[i]?= some x)(b:N[j]?= some x):i=j:=by
 obtain⟨h1,e1⟩:=List.getElem?_eq_some_iff.mp a;obtain⟨h2,e2⟩:=List.getElem?_eq_some_iff.mp b;exact(List.getElem_inj hN).mp (e1.trans e2.symm)
theorem ZfY{M:Model}{A:Around}{E:Value->Shared->Prop}{i:Nat}{x:Str}{v:V}{u:Value}{Q:Unit->Shared->Prop}(I:Inv X pins σ H s)(hN:X.N.Nodup)(hi:X.N[i]?= some x)(hx:Loc X.env.scope x)(r:RelV v u)
  (h:∀s',Inv X pins (σ.set i (some v)) H s'->(∃a,Heap.SameBut a s.heap s'.heap/\(a=X.env.locals\/X.env.cells.lookup x=some a))->Q () s') (hf:X.fn x=true\/X.env.scope.names.lookup x=some .local:=by first|exact .inl rfl|exact .inr rfl|assumption):wpAny M A (storeName X.env x u) Q E s:=by
 obtain⟨m,hn,hl⟩:=id I.loc;have hcls:(X.env.scope.kind ==.class || (X.env.scope.kind ==.module&&X.env.locals != X.env.globals))=false:=by rw[I.ok.kind];rfl
 have hiσ : i < σ.length:=by rw[I.len];exact(List.getElem?_eq_some_iff.mp hi).1
 have cne:=I.cne;have tracked:∀{a:Addr}{h':Heap},(∃o,s.heap.get? a=some o/\H a=none)->Heap.SameBut a s.heap h'->HOk X.prog X.w H h':=fun{a h'} ha hs b ob e=>by
  obtain⟨_,_,hfree⟩:=ha;refine(I.hok b ob e).stay (fun c w' hc q=>(hs.2 c ?_).trans q) (fun _ q=>q) fun _ _ q=>q;rintro rfl;rcases hc with rfl|hc
  ·rw[hfree] at e;cases e
  ·rw[hfree] at hc;cases hc
 rcases hx with hk|hk
 ·refine wpAny_storeName_local hk hn (fun h' hn' hs=>?_) hcls;obtain⟨oL,_,_,hoL,_⟩:=id hn;refine h _ ⟨I.ok,I.os,I.bare,⟨fun b o e n hb hx=>?_,fun b o e n hb hx=>?_,I.base.free,fun b o e hx=>?_,I.base.tups,I.base.frzs,I.base.tbls⟩,⟨_,hn',fun j y v' e1 e2 e3=>?_⟩,fun y c e=>?_,I.free,I.freeC,fun p hp=>?_,tracked ⟨oL,hoL,I.free⟩ hs,by simpa using I.len⟩ ⟨_,hs,.inl rfl⟩
  ·exact(hs.2 b (Nat.ne_of_lt (Nat.lt_of_lt_of_le (Heap.lt_size e) I.ok.above))).trans (I.base.keep b o e n hb hx)
  ·obtain⟨sl,e1⟩:=I.base.slot b o e n hb hx;exact⟨sl,(hs.2 b (Nat.ne_of_lt (Nat.lt_of_lt_of_le (Heap.lt_size e) I.ok.above))).trans e1⟩
  ·obtain⟨o',e1⟩:=I.base.there b o e hx;exact⟨o',(hs.2 b (Nat.ne_of_lt (Nat.lt_of_lt_of_le (Heap.lt_size e) I.ok.above))).trans e1⟩
  ·by_cases hj:j=i
   ·subst hj;rw[hi] at e1;cases e1;rw[List.getElem?_set_self hiσ] at e2;cases e2;exact⟨u,r,.inl ⟨hk,by simp⟩⟩
   ·rw[List.getElem?_set_ne (Ne.symm hj)] at e2;obtain⟨u',r',q⟩:=hl j y v' e1 e2 e3;refine⟨u',r',?_⟩;rcases q with⟨k,e⟩|⟨k,c,e,z⟩
    ·refine .inl ⟨k,?_⟩;have:y≠x:=fun e=>hj (Zhq hN e1 (e ▸ hi));simp[this,e]
    ·exact .inr ⟨k,c,e,z.sameBut hs (cne y c e)⟩
  ·obtain⟨w',z⟩:=I.cell y c e;exact⟨w',z.sameBut hs (cne y c e)⟩
  ·obtain⟨e,n,ne,nf,d⟩:=I.pin p hp;exact⟨(hs.2 p.1 ne).trans e,n,ne,nf,d⟩
 ·have hfn:X.fn x=true:=by
   rcases hf with z|z
   ·exact z
   ·rw[z] at hk;cases hk
  obtain⟨c,hc⟩:=I.ok.has x (.inl hk);obtain⟨w',z⟩:=I.cell x c hc;refine wpAny_storeName_cell I.ok.kind hk hc z (fun h' hc' hs=>?_);obtain⟨oc,hoc,hocd⟩:=id z;refine h { s with heap:=h' } ⟨I.ok,I.os,I.bare,⟨fun b o e n hb hx=>?_,fun b o e n hb hx=>?_,I.base.free,fun b o e hx=>?_,I.base.tups,I.base.frzs,I.base.tbls⟩,⟨m,hn.sameBut hs (Ne.symm (cne x c hc)),fun j y v' e1 e2 e3=>?_⟩,fun y c' e=>?_,I.free,I.freeC,fun p hp=>?_,tracked ⟨oc,hoc,I.freeC x c hc⟩ hs,by simpa using I.len⟩ ⟨c,hs,.inr hc⟩
  ·exact(hs.2 b (Nat.ne_of_lt (Nat.lt_of_lt_of_le (Heap.lt_size e) (I.ok.cab x c hfn hc)))).trans (I.base.keep b o e n hb hx)
  ·obtain⟨sl,e1⟩:=I.base.slot b o e n hb hx;exact⟨sl,(hs.2 b (Nat.ne_of_lt (Nat.lt_of_lt_of_le (Heap.lt_size e) (I.ok.cab x c hfn hc)))).trans e1⟩
  ·obtain⟨o',e1⟩:=I.base.there b o e hx;exact⟨o',(hs.2 b (Nat.ne_of_lt (Nat.lt_of_lt_of_le (Heap.lt_size e) (I.ok.cab x c hfn hc)))).trans e1⟩
  ·by_cases hj:j=i
   ·subst hj;rw[hi] at e1;cases e1;rw[List.getElem?_set_self hiσ] at e2;cases e2;exact⟨u,r,.inr ⟨.inl hk,c,hc,hc'⟩⟩
   ·rw[List.getElem?_set_ne (Ne.symm hj)] at e2;obtain⟨u',r',q⟩:=hl j y v' e1 e2 e3;refine⟨u',r',?_⟩;rcases q with q|⟨k,c',e,z'⟩
    ·exact .inl q
    ·refine .inr ⟨k,c',e,z'.sameBut hs ?_⟩;rintro rfl;exact hj (Zhq hN e1 (I.ok.inj _ _ _ e hc ▸ hi))
  ·by_cases hcc:c'=c
   ·subst hcc;exact⟨_,hc'⟩
   ·obtain⟨w2,z2⟩:=I.cell y c' e;exact⟨w2,z2.sameBut hs hcc⟩
  ·obtain⟨e,n,ne,nf,d⟩:=I.pin p hp;refine⟨(hs.2 p.1 ?_).trans e,n,ne,nf,d⟩;intro q;rw[q,hoc] at e;have q':oc=p.2:=Option.some.inj e;exact d w' (by rw[<- q'];exact hocd)
theorem Zg8{M:Model}{A:Around}{E:Value->Shared->Prop}{i:Nat}{x:Str}{v:V}{u:Value}{Q:Unit->Shared->Prop}(I:Inv X pins σ H s)(hN:X.N.Nodup)(hi:X.N[i]?= some x)(hx:Loc X.env.scope x)(r:RelV v u)
  (h:∀s',Inv X pins (σ.set i (some v)) H s'->Q () s') (hf:X.fn x=true\/X.env.scope.names.lookup x=some .local:=by first|exact .inl rfl|exact .inr rfl|assumption):wpAny M A (storeName X.env x u) Q E s :=
 ZfY I hN hi hx r (fun s' I' _=>h s' I') hf
theorem Inv.call'{s':Shared}{ch:List Addr}(I:Inv X pins σ H s)(ho:s'.os=s.os)(u:Un (frs X.stack) ch H H' s.heap s'.heap)(hok:HOk X.prog X.w H' s'.heap)(hg:AllBare s'.gens)
  (hch:∀b∈ch,(b∈X.ex\/X.s₀.heap.objs.size<=b)/\b≠X.env.locals/\(∀x c,X.env.cells.lookup x=some c->c≠b)/\∀p∈X.pn++pins,p.1≠b):Inv X pins σ H' s':=by
 obtain⟨h',g',d',t',o'⟩:=s';have e:o'=s.os:=ho;subst e;exact I.call (g':=g') (t':=t') (d':=d') u hok hg hch
end
abbrev XK:=Value->Option Addr->Hp->Prop
abbrev St:=List (Option V)
abbrev VK:=V->Hp->Prop
abbrev TE:=St->Hp->VK->Prop
abbrev TT:=St->Hp->(Bool->Hp->Prop)->Prop
abbrev TA:=St->Hp->(List V->Hp->Prop)->Prop
structure Ends where
 nx:St->Hp->Prop
 rt:VK
 bk:St->Hp->Prop:=fun _ _=>False
 ct:St->Hp->Prop:=fun _ _=>False
abbrev TS:=Ends->St->Hp->Prop
def EP(X:Cx)(pins:List (Addr×Obj))(σ : St)(Q:VK)(u:Value)(s':Shared):Prop := ∃v H',Inv X pins σ H' s'/\RelV v u/\Q v H'
def TP(X:Cx)(pins:List (Addr×Obj))(σ : St)(Q:Bool->Hp->Prop)(b:Bool)(s':Shared):Prop := ∃H',Inv X pins σ H' s'/\Q b H'
def AP(X:Cx)(pins:List (Addr×Obj))(σ : St)(Q:List V->Hp->Prop)(us:List Value)(s':Shared):Prop := ∃vs H',Inv X pins σ H' s'/\Vals vs us/\Q vs H'
def SP(X:Cx)(pins:List (Addr×Obj))(D:Ends)(f:Flow)(s':Shared):Prop :=
 match f with
 | .next=>∃ σ' H',Inv X pins σ' H' s'/\D.nx σ' H'
 | .brk=>∃ σ' H',Inv X pins σ' H' s'/\D.bk σ' H'
 | .cont=>∃ σ' H',Inv X pins σ' H' s'/\D.ct σ' H'
 | .ret u=>∃v σ' H',Inv X pins σ' H' s'/\RelV v u/\D.rt v H'
def PE(X:Cx)(e:Expr)(t:TE):Prop :=
 ∀(pins:List (Addr×Obj))(s:Shared)(σ : St)(H:Hp)(Q:VK),Inv X pins σ H s->t σ H Q->wpAny (model X.prog X.w) X.A (eval e X.env) (EP X pins σ Q) X.xe s
def PT(X:Cx)(e:Expr)(t:TT):Prop :=
 ∀(pins:List (Addr×Obj))(s:Shared)(σ : St)(H:Hp)(Q:Bool->Hp->Prop),Inv X pins σ H s->t σ H Q->wpAny (model X.prog X.w) X.A (isTrue e X.env (eval e X.env)) (TP X pins σ Q) X.xe s
def PW(X:Cx)(e:Expr)(t:TT):Prop :=
 ∀(whole:Sem Value)(pins:List (Addr×Obj))(s:Shared)(σ : St)(H:Hp)(Q:Bool->Hp->Prop),Inv X pins σ H s->t σ H Q->wpAny (model X.prog X.w) X.A (isTrue e X.env whole) (TP X pins σ Q) X.xe s
theorem PW.pt{X:Cx}{e:Expr}{t:TT}(h:PW X e t):PT X e t:=h _
def PA(X:Cx)(es:List Expr)(t:TA):Prop :=
 ∀(pos:Pos)(pins:List (Addr×Obj))(s:Shared)(σ : St)(H:Hp)(Q:List V->Hp->Prop),Inv X pins σ H s->t σ H Q->wpAny (model X.prog X.w) X.A (spliced (backTo pos (starEach es X.env))) (AP X pins σ Q) X.xe s
def PS(X:Cx)(st:Stmt)(t:TS):Prop :=
 ∀(pins:List (Addr×Obj))(s:Shared)(σ : St)(H:Hp)(D:Ends),Inv X pins σ H s->t D σ H->wpAny (model X.prog X.w) X.A (exec st X.env) (SP X pins D) X.xe s
def PSs(X:Cx)(st:List Stmt)(t:TS):Prop :=
 ∀(pins:List (Addr×Obj))(s:Shared)(σ : St)(H:Hp)(D:Ends),Inv X pins σ H s->t D σ H->wpAny (model X.prog X.w) X.A (execs st X.env) (SP X pins D) X.xe s
theorem thn{α : Type}{t:Sem α}{Q Q' : α -> Shared->Prop}{M:Model}{A:Around}{E:Value->Shared->Prop}{s:Shared}(h:wpAny M A t Q E s)(hQ:∀a s,Q a s->Q' a s):wpAny M A t Q' E s:=wpAny_mono h hQ fun _ _ x=>x
section
variable{X:Cx}
def Znd(i:Nat):TE:=fun σ H Q=>∃v,σ[i]?= some (some v)/\Q v H
def tC(v:V):TE:=fun _ H Q=>Q v H
theorem Zmk{i:Nat}{x:Str}{pos:Pos}(hN:X.N[i]?= some x)(hv:Vis X.env.scope x)(hd:(x == ("__debug__" : Str))=false:=by decide) (hcd:(x == ("__classdict__" : Str))=false:=by decide):PE X (.Name x pos) (Znd i):=by
 intro pins s σ H Q I h;obtain⟨v,e,h⟩:=h;obtain⟨m,hn,hl⟩:=I.loc;obtain⟨u,r,l⟩:=hl i x v hN e hv;have fin:EP X pins σ Q u s:=⟨v,H,I,r,h⟩;rcases l with⟨hk,hm⟩|⟨hk,c,hc,hcell⟩
 ·exact wpAny_Name (wpAny_loadName_local I.ok.kind hk hn hm fin) hd
 ·rcases hk with hk|hk
  ·exact wpAny_Name (wpAny_loadName_cell I.ok.kind hk hc hcell fin) hd
  ·exact wpAny_Name (wpAny_loadName_free I.ok.kind hk hc hcell fin hcd) hd
theorem Zh{i j pos}:PE X (.Constant (.int i) j pos) (tC (.int i)):=fun _ _ _ H _ I h=>wpAny_Constant_int ⟨.int i,H,I.tok _,⟨_,rfl⟩,h⟩
theorem Zh4{b j pos}:PE X (.Constant (.bool b) j pos) (tC (.bl b)):=fun _ _ _ H _ I h=>Constant_bool ⟨.bl b,H,I,rfl,h⟩
theorem Zjb{j pos}:PE X (.Constant .none j pos) (tC .non):=fun _ _ _ H _ I h=>Constant_none ⟨.non,H,I,rfl,h⟩
theorem ZaJ{x j pos}:PE X (.Constant (.str x) j pos) (tC (.str x)):=fun _ _ _ H _ I h=>Calls.Constant_str ⟨.str x,H,I.tok _,⟨_,rfl⟩,h⟩
def Gl(X:Cx)(x:Str):Prop:=X.env.kindOf x=some .globalImplicit
theorem ZeY{E:Value->Shared->Prop}{pins:List (Addr×Obj)}{s:Shared}{σ : St}{H:Hp}{x:Str}{u:Value}{pos:Pos}{Q:Value->Shared->Prop}(I:Inv X pins σ H s)(hg:Gl X x)(hm:X.mg x=some u)(h:Q u s)
  (hd:(x == ("__debug__" : Str))=false:=by decide):wpAny (model X.prog X.w) X.A (eval (.Name x pos) X.env) Q E s :=
 Calls.Name_function_global I.ok.kind hg (Calls.loadGlobal_global (by rw[I.ok.glob];exact I.mod.glob.keeps I.bk) hm h) hd
theorem ZfF{E:Value->Shared->Prop}{pins:List (Addr×Obj)}{s:Shared}{σ : St}{H:Hp}{x:Str}{u:Value}{pos:Pos}{Q:Value->Shared->Prop}(I:Inv X pins σ H s)(hg:Gl X x)(hm:X.mg x=none)(hv:bootBuiltins x=some u)(h:Q u s)
  (hn:x ≠ "__name__" := by decide) (hd:(x == ("__debug__" : Str))=false:=by decide):wpAny (model X.prog X.w) X.A (eval (.Name x pos) X.env) Q E s:=by
 obtain⟨mb,h1,h2⟩:=I.mod.blt;exact Calls.Name_function_global I.ok.kind hg (Calls.loadGlobal_builtin (by rw[I.ok.glob];exact I.mod.glob.keeps I.bk) hm (by rw[I.ok.blt];exact h1.keeps I.bk) ((h2 x hn).trans hv) h) hd
theorem Zgu{x:Str}{v:V}{u:Value}{pos:Pos}(hg:Gl X x)(hm:X.mg x=some u)(r:RelV v u)(hd:(x == ("__debug__" : Str))=false:=by decide):PE X (.Name x pos) (tC v) :=
 fun _ _ _ H _ I h=>ZeY I hg hm ⟨v,H,I,r,h⟩ hd
variable{a b:Expr}{ta tb:TE}{pos:Pos}
def PC(X:Cx)(op:CmpOp)(a b:Expr)(t:TE):Prop :=
 ∀(pins:List (Addr×Obj))(s:Shared)(σ : St)(H:Hp)(Q:VK),Inv X pins σ H s->t σ H Q ->
  wpAny (model X.prog X.w) X.A (eval a X.env) (fun v s₁=>wpAny (model X.prog X.w) X.A (eval b X.env) (fun u s₂=>wpAny (model X.prog X.w) X.A (compareOp op v u) (EP X pins σ Q) X.xe s₂) X.xe s₁) X.xe s
def tB(t:TE):TT:=fun σ H Q=>t σ H fun x H1=>∃c,x=.bl c/\Q c H1
theorem Zmf{op:CmpOp}{t:TE}(h:PC X op a b t)(h1:behindInMarks op b=false:=by first|exact nobehind _ (by decide) (by decide)|rfl):PT X (.Compare a [op] [b] pos) (tB t):=by
 intro pins s σ H Q I hw;refine wpAny_isTrue_Compare1 (thn (h pins s σ H _ I hw) fun v s1 h1=>thn h1 fun u s2 h2=>thn h2 fun c s3 ⟨x,H1,I1,r1,q1⟩=>?_) h1;obtain⟨d,rfl,q⟩:=q1;cases r1;exact wpAny_truthy_bool ⟨H1,I1,q⟩
variable{tA tB':TT}{rest:List Expr}
def ZnR(t u:TT):TT:=fun σ H Q=>t σ H fun c H1=>if c=true then u σ H1 Q else Q false H1
def tOr(t u:TT):TT:=fun σ H Q=>t σ H fun c H1=>if c=true then Q true H1 else u σ H1 Q
def Znz(t:TT):TT:=fun σ H Q=>t σ H fun c H1=>Q (!c) H1
theorem ZeQ(ha:PT X a tA):PW X (.BoolOp .And [a] pos) tA:=by
 intro wh pins s σ H Q I h;refine isTrue_and (thn (ha pins s σ H Q I h) fun c s1 e=>?_);cases c with
 | true=>exact isTrue_and_nil e
 | false=>exact e
theorem ZkO(ha:PT X a tA):PW X (.BoolOp .Or [a] pos) tA:=by
 intro wh pins s σ H Q I h;refine isTrue_or (thn (ha pins s σ H Q I h) fun c s1 e=>?_);cases c with
 | false=>exact isTrue_or_nil e
 | true=>exact e
theorem ZgZ(ha:PT X a tA)(hb:PW X (.BoolOp .And (b::rest) pos) tB'):PW X (.BoolOp .And (a::b::rest) pos) (ZnR tA tB'):=by
 intro wh pins s σ H Q I h;refine isTrue_and (thn (ha pins s σ H _ I h) fun c s1 ⟨H1,I1,q1⟩=>?_);cases c with
 | true=>exact hb wh pins s1 σ H1 Q I1 q1
 | false=>exact⟨H1,I1,q1⟩
theorem Zla(ha:PT X a tA)(hb:PW X (.BoolOp .Or (b::rest) pos) tB'):PW X (.BoolOp .Or (a::b::rest) pos) (tOr tA tB'):=by
 intro wh pins s σ H Q I h;refine isTrue_or (thn (ha pins s σ H _ I h) fun c s1 ⟨H1,I1,q1⟩=>?_);cases c with
 | true=>exact⟨H1,I1,q1⟩
 | false=>exact hb wh pins s1 σ H1 Q I1 q1
theorem ZgX(ha:PT X a tA):PT X (.UnaryOp .Not a pos) (Znz tA):=by
 intro pins s σ H Q I h;exact isTrue_not (ha pins s σ H (fun c H1=>Q (!c) H1) I h)
def Zm3(ta tb:TE):TE:=fun σ H Q=>ta σ H fun x H1=>∃c,x=.bl c/\if c=true then tb σ H1 Q else Q (.bl false) H1
theorem ZlO{op}{t:TE}(h:PE X a t):PE X (.BoolOp op [a] pos) t:=fun pins s σ H Q I hw=>BoolOp_one (h pins s σ H Q I hw)
theorem Zmp(ha:PE X a ta)(hb:PE X (.BoolOp .And (b::rest) pos) tb):PE X (.BoolOp .And (a::b::rest) pos) (Zm3 ta tb):=by
 intro pins s σ H Q I h;refine BoolOp_and (thn (ha pins s σ H _ I h) fun v s1 ⟨x,H1,I1,r1,q1⟩=>?_);obtain⟨c,rfl,q1⟩:=q1;cases r1;refine wpAny_truthy_bool ?_;cases c with
 | true=>exact hb pins s1 σ H1 Q I1 q1
 | false=>exact⟨.bl false,H1,I1,rfl,q1⟩
def tIf(t:TT)(ta tb:TE):TE:=fun σ H Q=>t σ H fun c H1=>if c=true then ta σ H1 Q else tb σ H1 Q
theorem Zkm{c:Expr}(hc:PT X c tA)(ha:PE X a ta)(hb:PE X b tb):PE X (.IfExp c a b pos) (tIf tA ta tb):=by
 intro pins s σ H Q I h;refine wpAny_IfExp (thn (hc pins s σ H _ I h) fun d s1 ⟨H1,I1,q1⟩=>?_);cases d with
 | true=>exact ha pins s1 σ H1 Q I1 q1
 | false=>exact hb pins s1 σ H1 Q I1 q1
end
def SqL(K:PySem.W.Frag)(H:Hp)(a:Addr)(xs:List V):Prop :=
 Rd H a (.lst xs) \/
  ∃(o:Obj)(its:Array Value)(n:Nat),K.lookup a=some o/\o.cls=.type "list" /\ o.dict=none/\o.data=.seq its n/\its.size<=sizeLine/\Vals xs its.toList
def SqT(K:PySem.W.Frag)(H:Hp)(a:Addr)(xs:List V):Prop :=
 Rd H a (.tup xs) \/
  ∃(o:Obj)(its:Array Value)(n:Nat),K.lookup a=some o/\o.cls=.type "tuple" /\ o.data=.seq its n/\its.size<=sizeLine/\Vals xs its.toList
def ZnM:Value->Option V
 | .none=>some .non
 | .bool b=>some (.bl b)
 | .int i _=>some (.int i)
 | .str x _=>some (.str x)
 | .bytes b _=>some (.byt b)
 | .float b _=>some (.flt b)
 | .ref a=>some (.ref a)
 | .type n=>some (.ty n)
 | _=>none
theorem RelV.abs{x:V}{u:Value}(r:RelV x u):ZnM u=some x:=by
 cases x with
 | non=>cases r;rfl
 | bl _=>cases r;rfl
 | int _=>obtain⟨t,rfl⟩:=r;rfl
 | str _=>obtain⟨t,rfl⟩:=r;rfl
 | byt _=>obtain⟨t,rfl⟩:=r;rfl
 | flt _=>obtain⟨t,rfl⟩:=r;rfl
 | ref _=>cases r;rfl
 | ty _=>cases r;rfl
theorem RelV.inj{x y:V}{u:Value}(r:RelV x u)(q:RelV y u):x=y:=Option.some.inj (r.abs.symm.trans q.abs)
theorem Vals.inj:∀{xs ys:List V}{us:List Value},Vals xs us->Vals ys us->xs=ys
 | _,_,_,.nil,.nil=>rfl
 | _,_,_,.cons r t,.cons r' t'=>by rw[r.inj r',Vals.inj t t']
section
variable{X:Cx}{pins:List (Addr×Obj)}{σ : St}{H:Hp}{s:Shared}{a:Addr}{xs ys:List V}
theorem SqL.of{K:PySem.W.Frag}(h:H a=some (.lst xs)):SqL K H a xs:=.inl (.inl h)
theorem SqT.of{K:PySem.W.Frag}(h:H a=some (.tup xs)):SqT K H a xs:=.inl (.inl h)
theorem Inv.list(I:Inv X pins σ H s)(h:SqL X.K H a xs):∃its:List Value,Vals xs its/\PlainL s.heap a its.toArray/\xs.length<=sizeLine:=by
 rcases h with h|⟨o,its,n,hk,hc,hd,hs,hz,r⟩
 ·obtain⟨z,its,n,r,e⟩:=h.ok I.hok;exact⟨its,r,⟨_,n,e,rfl,rfl,rfl⟩,z⟩
 ·refine⟨its.toList,r,⟨o,n,I.kIn a o hk,hc,hd,by simpa using hs⟩,?_⟩;have e:=r.length;simp only[Array.length_toList] at e;lia
theorem Inv.tuple(I:Inv X pins σ H s)(h:SqT X.K H a xs):∃its:List Value,Vals xs its/\IsTup s.heap a its.toArray/\xs.length<=sizeLine:=by
 rcases h with h|⟨o,its,n,hk,hc,hs,hz,r⟩
 ·obtain⟨z,its,r,p⟩:=h.ok I.hok;exact⟨its,r,p,z⟩
 ·refine⟨its.toList,r,⟨o,I.kIn a o hk,hc,n,by simpa using hs⟩,?_⟩;have e:=r.length;simp only[Array.length_toList] at e;lia
theorem Inv.list_inj(I:Inv X pins σ H s)(h:SqL X.K H a xs)(h':SqL X.K H a ys):xs=ys:=by
 obtain⟨its,r,⟨o,n,e,_,_,d⟩,_⟩:=I.list h;obtain⟨its',r',⟨o',n',e',_,_,d'⟩,_⟩:=I.list h';rw[e] at e';cases e';rw[d] at d';injection d' with d1 _;have:its=its':=by simpa using congrArg Array.toList d1
 subst this;exact r.inj r'
theorem Inv.tuple_inj(I:Inv X pins σ H s)(h:SqT X.K H a xs)(h':SqT X.K H a ys):xs=ys:=by
 obtain⟨its,r,⟨o,e,_,n,d⟩,_⟩:=I.tuple h;obtain⟨its',r',⟨o',e',_,n',d'⟩,_⟩:=I.tuple h';rw[e] at e';cases e';rw[d] at d';injection d' with d1 _;have:its=its':=by simpa using congrArg Array.toList d1
 subst this;exact r.inj r'
end
abbrev Cx.wish(X:Cx)(E:Value->Shared->Prop):Cx:={ X with xe:=E }
abbrev Cx.nox(X:Cx):Cx:=X.wish fun _ _=>False
theorem Cx.Ok.wish{X:Cx}(ok:X.Ok)(E:Value->Shared->Prop):(X.wish E).Ok :=
 ⟨ok.mod,ok.kind,ok.glob,ok.blt,ok.above,ok.inj,ok.has,ok.cab,ok.hd,ok.frames,ok.stk,ok.exf,ok.bs,ok.bsz,ok.noex,ok.exfs,ok.funs,ok.frf⟩
theorem Cx.Ok.unwish{X:Cx}{E:Value->Shared->Prop}(ok:(X.wish E).Ok):X.Ok :=
 ⟨ok.mod,ok.kind,ok.glob,ok.blt,ok.above,ok.inj,ok.has,ok.cab,ok.hd,ok.frames,ok.stk,ok.exf,ok.bs,ok.bsz,ok.noex,ok.exfs,ok.funs,ok.frf⟩
section
variable{X:Cx}{pins:List (Addr×Obj)}{σ : St}{H:Hp}{s:Shared}{E:Value->Shared->Prop}
theorem Inv.wish(I:Inv X pins σ H s)(E:Value->Shared->Prop):Inv (X.wish E) pins σ H s:=⟨I.ok.wish E,I.os,I.bare,I.base,I.loc,I.cell,I.free,I.freeC,I.pin,I.hok,I.len⟩
theorem Inv.unwish(I:Inv (X.wish E) pins σ H s):Inv X pins σ H s:=⟨I.ok.unwish,I.os,I.bare,I.base,I.loc,I.cell,I.free,I.freeC,I.pin,I.hok,I.len⟩
theorem SP.unwish{D:Ends}{f:Flow}{s':Shared}(h:SP (X.wish E) pins D f s'):SP X pins D f s':=by
 cases f with
 | next=>obtain⟨σ',H',I,q⟩:=h;exact⟨σ',H',I.unwish,q⟩
 | brk=>obtain⟨σ',H',I,q⟩:=h;exact⟨σ',H',I.unwish,q⟩
 | cont=>obtain⟨σ',H',I,q⟩:=h;exact⟨σ',H',I.unwish,q⟩
 | ret u=>obtain⟨v,σ',H',I,r,q⟩:=h;exact⟨v,σ',H',I.unwish,r,q⟩
theorem PSs.nox{st:List Stmt}{t:TS}(h:PSs X.nox st t):PSs X st t:=fun pins s σ H D I hw =>
 wpAny_mono (h pins s σ H D (I.wish _) hw) (fun _ _ q=>q.unwish) fun _ _ z=>False.elim z
end
section
variable{X:Cx}{st:Stmt}{rest:List Stmt}{t u:TS}{e:Expr}{te:TE}{pos:Pos}
def Zna:TS:=fun D σ H=>D.nx σ H
def Znk(t u:TS):TS:=fun D σ H=>t { D with nx:=u D } σ H
theorem ZaH:PSs X [] Zna:=fun _ _ σ H _ I h=>wpAny_execs_nil ⟨σ,H,I,h⟩
theorem Zd(h1:PS X st t)(h2:PSs X rest u):PSs X (st::rest) (Znk t u):=by
 intro pins s σ H D I h;refine wpAny_execs_cons (thn (h1 pins s σ H { D with nx:=u D } I h) fun f s1 q=>?_);cases f with
 | next =>
  obtain⟨σ',H',I',q⟩:=q;exact h2 pins s1 σ' H' D I' q
 | ret v=>exact q
 | brk=>exact q
 | cont=>exact q
theorem Zj(h1:PS X st t):PSs X [st] t:=by
 intro pins s σ H D I h;refine wpAny_execs_cons (thn (h1 pins s σ H D I h) fun f s1 q=>?_);cases f with
 | next=>exact wpAny_execs_nil q
 | ret v=>exact q
 | brk=>exact q
 | cont=>exact q
theorem Inv.quiet{pins:List (Addr×Obj)}{σ : St}{H:Hp}{s:Shared}(I:Inv X pins σ H s):interactive X.env=false:=by simp[interactive,I.ok.kind]
def ZmQ(te:TE):TS:=fun D σ H=>te σ H fun _ H1=>D.nx σ H1
theorem ZQ(he:PE X e te)(hs:swapsWith e none pos.line X.env=pure false:=by rfl):PS X (.Expr e pos) (ZmQ te):=by
 intro pins s σ H D I h;exact wpAny_Expr_any (thn (he pins s σ H _ I h) fun v s1 ⟨x,H1,I1,r1,q1⟩=>⟨σ,H1,I1,q1⟩) I.quiet hs
def ZnI(te:TE):TS:=fun D σ H=>te σ H D.rt
theorem ZL(he:PE X e te):PS X (.Return (some e) pos) (ZnI te):=by
 intro pins s σ H D I h;exact wpAny_Return_some (thn (he pins s σ H _ I h) fun v s1 ⟨x,H1,I1,r1,q1⟩=>⟨x,σ,H1,I1,r1,q1⟩)
def Zno(c:TT)(t u:TS):TS:=fun D σ H=>c σ H fun b H1=>if b=true then t D σ H1 else u D σ H1
theorem Za8{c:Expr}{a b:List Stmt}{tc:TT}(hc:PT X c tc)(ha:PSs X a t)(hb:PSs X b u):PS X (.If c a b pos) (Zno tc t u):=by
 intro pins s σ H D I h;refine wpAny_If (thn (hc pins s σ H _ I h) fun d s1 ⟨H1,I1,q1⟩=>?_);cases d with
 | true=>exact ha pins s1 σ H1 D I1 q1
 | false=>exact hb pins s1 σ H1 D I1 q1
def Zl7:TS:=fun _ _ _=>False
theorem Zfc:PS X st Zl7:=fun _ _ _ _ _ _ h=>h.elim
end
abbrev TG:=V->St->Hp->(St->Hp->Prop)->Prop
abbrev TGs:=List V->St->Hp->(St->Hp->Prop)->Prop
def PG(X:Cx)(target:Expr)(t:TG):Prop :=
 ∀(pins:List (Addr×Obj))(s:Shared)(σ : St)(H:Hp)(v:V)(u:Value)(Q:St->Hp->Prop),Inv X pins σ H s->RelV v u->t v σ H Q ->
  wpAny (model X.prog X.w) X.A (assign target X.env u) (fun _ s'=>∃ σ' H',Inv X pins σ' H' s'/\Q σ' H') X.xe s
def PGs(X:Cx)(ts:List Expr)(t:TGs):Prop :=
 ∀(pins:List (Addr×Obj))(s:Shared)(σ : St)(H:Hp)(vs:List V)(us:List Value)(Q:St->Hp->Prop),Inv X pins σ H s->Vals vs us->t vs σ H Q ->
  wpAny (model X.prog X.w) X.A (assignInOrder ((assignEach ts X.env).map (·.2)) us) (fun _ s'=>∃ σ' H',Inv X pins σ' H' s'/\Q σ' H') X.xe s
abbrev Zm7:=V->V->V->Hp->(Hp->Prop)->Prop
def Znn(X:Cx)(t:Zm7):Prop :=
 ∀(pins:List (Addr×Obj))(s:Shared)(σ : St)(H:Hp)(o i v:V)(ov iv u:Value)(Q:Hp->Prop),Inv X pins σ H s->RelV o ov->RelV i iv->RelV v u->t o i v H Q ->
  wpAny (model X.prog X.w) X.A (setItem ov iv u) (fun _ s'=>∃H',Inv X pins σ H' s'/\Q H') X.xe s
section
variable{X:Cx}{pos:Pos}
def Zgy(i:Nat):TG:=fun v σ H Q=>Q (σ.set i (some v)) H
theorem ZD{i:Nat}{x:Str}(hN:X.N.Nodup)(hi:X.N[i]?= some x)(hx:Loc X.env.scope x)(hf:X.fn x=true\/X.env.scope.names.lookup x=some .local:=by first|exact .inl rfl|exact .inr rfl|assumption):PG X (.Name x pos) (Zgy i):=by
 intro pins s σ H v u Q I r h;exact wpAny_assign_Name (Zg8 I hN hi hx r (fun s' I'=>⟨_,H,I',h⟩) hf)
def ZnQ:TGs:=fun vs σ H Q=>vs=[]/\Q σ H
def Zm2(t:TG)(u:TGs):TGs:=fun vs σ H Q=>∃v r,vs=v::r/\t v σ H fun σ' H'=>u r σ' H' Q
theorem ZcJ:PGs X [] ZnQ:=by
 intro pins s σ H vs us Q I r h;obtain⟨e,h⟩:=h;subst e;cases r;exact assignInOrder_nil ⟨σ,H,I,h⟩
theorem Zas{e:Expr}{es:List Expr}{t:TG}{u:TGs}(h1:PG X e t)(h2:PGs X es u)
  (hs:(assignEach (e::es) X.env).map (·.2)=assign e X.env::(assignEach es X.env).map (·.2):=by rfl):PGs X (e::es) (Zm2 t u):=by
 intro pins s σ H vs us Q I r h;obtain⟨v,vr,e1,h⟩:=h;subst e1;cases r with
 | cons r rr =>
  rw[hs];refine assignInOrder_cons (thn (h1 pins s σ H _ _ _ I r h) fun _ s1 ⟨σ1,H1,I1,q1⟩=>?_);exact h2 pins s1 σ1 H1 _ _ Q I1 rr q1
def Znm(K:PySem.W.Frag)(n:Nat)(t:TGs):TG:=fun v σ H Q=>∃a xs,v=.ref a/\SqT K H a xs/\xs.length=n/\t xs σ H Q
theorem Zfn{es:List Expr}{k:Nat}{t:TGs}{n:Nat}(hc:X.calm=true)(h:PGs X es t)
  (hn:(assignEach es X.env).length=n:=by rfl) (hst:(assignEach es X.env).findIdx? (·.1)=none:=by rfl):PG X (.Tuple es k pos) (Znm X.K n t):=by
 intro pins s σ H v u Q I r hw;obtain⟨a,xs,e1,hq,hl,hw⟩:=hw;subst e1;cases r;obtain⟨its,rv,ht,hz⟩:=I.tuple hq;refine assign_Tuple_tuple (I.ok.hd hc) ht (by simp[hn,<- hl,rv.length]) hst fun h' hx=>?_;have I1:Inv X pins σ H { s with heap:=h' }:=I.kept (t':=s.toks) fun b o e=>hx b o (Nat.ne_of_lt (Heap.lt_size e)) e;exact h pins _ σ H xs _ Q I1 (by simpa using rv) hw
def Znw(to ti:TE)(t:Zm7):TG:=fun v σ H Q=>to σ H fun o H1=>ti σ H1 fun i H2=>t o i v H2 fun H3=>Q σ H3
theorem Zi7{o i:Expr}{to ti:TE}{t:Zm7}(ho:PE X o to)(hi:PE X i ti)(hs:Znn X t)
  (ha:∀v,assign (.Subscript o i pos) X.env v=(do
   let ov <- holding [v] (eval o X.env)
   let iv <- holding [v,ov] (eval i X.env)
   standAt pos
   holding [v,ov,iv] (setItem ov iv v)
   release [v,ov,iv] []):=by intro _;rfl):PG X (.Subscript o i pos) (Znw to ti t):=by
 intro pins s σ H v u Q I r h;rw[ha];refine wpAny_bind (wpAny_holding (thn (ho pins s σ H _ I h) fun ov s1 ⟨x,H1,I1,r1,q1⟩=>?_));refine wpAny_bind (wpAny_holding (thn (hi pins s1 σ H1 _ I1 q1) fun iv s2 ⟨y,H2,I2,r2,q2⟩=>?_));refine wpAny_bind (wpAny_standAt (wpAny_bind (wpAny_holding (thn (hs pins s2 σ H2 x y v ov iv u _ I2 r1 r2 r q2) fun _ s3 ⟨H3,I3,q3⟩=>?_))));exact wpAny_release ⟨σ,H3,I3,q3⟩
def ZmL(te:TE)(g:TG):TS:=fun D σ H=>te σ H fun x H1=>g x σ H1 D.nx
theorem ZjM{tg e:Expr}{te:TE}{g:TG}(he:PE X e te)(hg:PG X tg g)(hs:swapsWithSole [tg] e pos.line X.env=pure false:=by rfl)(hw:swappedStores [tg] e X.env=pure none:=by rfl)
  (h1:(assignEach [tg] X.env).map (·.2)=[assign tg X.env]:=by rfl):PS X (.Assign [tg] e pos) (ZmL te g):=by
 intro pins s σ H D I h;refine wpAny_Assign_stores (thn (he pins s σ H _ I h) fun v s1 ⟨x,H1,I1,r1,q1⟩=>?_) hs hw;rw[h1];exact thn (hg pins s1 σ H1 x v _ I1 r1 q1) fun _ s2 q=>q
theorem Zm{i:Nat}{x:Str}{e:Expr}{te:TE}{pos':Pos}(hN:X.N.Nodup)(hi:X.N[i]?= some x)(hx:Loc X.env.scope x)(he:PE X e te)(hs:swapsWith e (some (.Name x pos')) pos.line X.env=pure false:=by rfl)(hf:X.fn x=true\/X.env.scope.names.lookup x=some .local:=by first|exact .inl rfl|exact .inr rfl|assumption) :
  PS X (.Assign [.Name x pos'] e pos) (ZmL te (Zgy i)):=by
 intro pins s σ H D I h;refine wpAny_Assign_Name (thn (he pins s σ H _ I h) fun v s1 ⟨y,H1,I1,r1,q1⟩=>?_) hs;exact Zg8 I1 hN hi hx r1 (fun s2 I2=>⟨_,H1,I2,q1⟩) hf
def Zmo(c:TT)(tb:TS):TS:=fun D σ H=>∃W:Nat->St->Hp->Prop,(∃m,W m σ H)/\∀m σ H,W m σ H ->
 c σ H fun b H1=>if b=true then ∃N:St->Hp->Prop,(∀ σ' H',N σ' H'->∃m',m'<m/\W m' σ' H')/\tb { D with nx:=N,ct:=N,bk:=D.nx } σ H1 else D.nx σ H1
theorem Ze6{c:Expr}{body:List Stmt}{tc:TT}{tb:TS}(hp:PassesOwn (model X.prog X.w) X.A X.env X.xe)(hc:PT X c tc)(hb:PSs X body tb):PS X (.While c body [] pos) (Zmo tc tb):=by
 intro pins s σ H D I h;obtain⟨W,⟨m0,w0⟩,turn⟩:=h;refine wpAny_While (codeAny_whileLoop (fun n s'=>∃ σ' H',Inv X pins σ' H' s'/\W n σ' H') ?_ m0 ⟨σ,H,I,w0⟩);rintro n s1 ⟨σ1,H1,I1,w1⟩;refine wpAny_passesOwn hp (thn (hc pins s1 σ1 H1 _ I1 (turn n σ1 H1 w1)) fun b s2 ⟨H2,I2,q2⟩=>?_);cases b with
 | true =>
  obtain⟨N,hN,q2⟩:=q2;rw[if_pos rfl];refine wpAny_passesOwn hp (thn (hb pins s2 σ1 H2 _ I2 q2) fun f s3 q3=>?_);cases f with
  | next =>
   obtain⟨σ3,H3,I3,n3⟩:=q3;obtain⟨m',hm,w3⟩:=hN σ3 H3 n3;exact⟨m',hm,σ3,H3,I3,w3⟩
  | cont =>
   obtain⟨σ3,H3,I3,n3⟩:=q3;obtain⟨m',hm,w3⟩:=hN σ3 H3 n3;exact⟨m',hm,σ3,H3,I3,w3⟩
  | brk=>exact q3
  | ret v=>exact q3
 | false =>
  rw[if_neg Bool.false_ne_true];exact wpAny_execs_nil ⟨σ1,H2,I2,q2⟩
end
structure It where
 go:Nat->Hp->Prop
 yld:Nat->Hp->V->Hp->Prop
 stop:Nat->Hp->Prop
def Zfh(X:Cx)(pins:List (Addr×Obj))(H:Hp)(b:Addr):Prop :=
 H b=none/\b≠X.env.locals/\b∉X.fs/\(b∈X.ex\/X.s₀.heap.objs.size<=b)/\(∀x c,X.env.cells.lookup x=some c->c≠b)/\∀p∈X.pn++pins,p.1≠b
theorem Inv.fpOk{X:Cx}{pins:List (Addr×Obj)}{σ : St}{H H':Hp}{s:Shared}{b:Addr}(I:Inv X pins σ H s)(hb:s.heap.objs.size<=b)(hn:H' b=none):Zfh X pins H' b:=by
 refine⟨hn,Nat.ne_of_gt (Nat.lt_of_lt_of_le I.lt hb),I.nofs hb,.inr (Nat.le_trans I.sz hb),fun x c e z=>?_,fun p hp z=>?_⟩
 ·obtain⟨v,q⟩:=I.cell x c e;exact absurd (Nat.lt_of_lt_of_le q.lt (by rw[z];exact hb)) (Nat.lt_irrefl _)
 ·exact absurd (Nat.lt_of_lt_of_le (Heap.lt_size (I.pin p hp).1) (by rw[z];exact hb)) (Nat.lt_irrefl _)
structure Turn(P:Program)(w:World)(K:PySem.W.Frag)(tg:Expr)(J:It)(fp:List Addr)(it:Addr)(tn:Nat->Heap->Prop):Prop where
 mem:it∈fp
 obj:∀i h,tn i h->∀b∈fp,∃o,h.get? b=some o/\∀v,o.data ≠ .cell v
 keep:∀i h h',tn i h->(∀b∈fp,∀o,h.get? b=some o->h'.get? b=some o)->tn i h'
 item:∀(X:Cx),X.prog=P->X.w=w->X.K=K->X.calm=true->∀(i:Nat)(pins:List (Addr×Obj))(s:Shared)(σ : St)(H:Hp)(E:Value->Shared->Prop),Inv X pins σ H s->(∀b∈fp,Zfh X pins H b)->tn i s.heap->J.go i H ->
  wpAny (model P w) X.A (pyNext (.ref it)) (fun r s1=>∃u,r=some u /\
   wpAny (model P w) X.A (letOwnedTupleGo tg (.ref it) u) (fun _ s2=>∃x H',Inv X pins σ H' s2/\RelV x u/\J.yld i H x H'/\tn (i+1) s2.heap/\∀b∈fp,H' b=none) E s1) E s
 done:∀(X:Cx),X.prog=P->X.w=w->X.K=K->X.calm=true->∀(i:Nat)(pins:List (Addr×Obj))(s:Shared)(σ : St)(H:Hp)(E:Value->Shared->Prop),Inv X pins σ H s->(∀b∈fp,Zfh X pins H b)->tn i s.heap->J.stop i H ->
  wpAny (model P w) X.A (pyNext (.ref it)) (fun r s1=>r=none/\Inv X pins σ H s1) E s
 self:∀(A:Around)(i:Nat)(s:Shared)(Q:Value->Shared->Prop)(E:Value->Shared->Prop),tn i s.heap->Q (.ref it) s->wpAny (model P w) A (pyIter (.ref it)) Q E s
abbrev TI:=St->Hp->(It->Hp->Prop)->Prop
def PIE(X:Cx)(pins:List (Addr×Obj))(σ : St)(tg:Expr)(R:It->Hp->Prop)(itv:Value)(s2:Shared):Prop :=
 ∃(it:Addr)(fp:List Addr)(tn:Nat->Heap->Prop)(J:It)(H':Hp),itv=.ref it/\Inv X pins σ H' s2/\Turn X.prog X.w X.K tg J fp it tn/\tn 0 s2.heap/\(∀b∈fp,Zfh X pins H' b)/\R J H'
def PI(X:Cx)(tg iter:Expr)(wi:TI):Prop :=
 ∀(pins:List (Addr×Obj))(s:Shared)(σ : St)(H:Hp)(R:It->Hp->Prop),Inv X pins σ H s->wi σ H R ->
  wpAny (model X.prog X.w) X.A (eval iter X.env) (fun v s1=>wpAny (model X.prog X.w) X.A (pyIter v) (PIE X pins σ tg R) X.xe s1) X.xe s
theorem Zke{M:Model}{A:Around}{E:Value->Shared->Prop}{s:Shared}{tg:Expr}{it:Addr}{u:Value}{o:Obj}{n:String}{vs:Array Value}{Q:Unit->Shared->Prop}(ho:s.heap.get? it=some o)(hc:o.cls=.type n)(hd:o.data=.fields vs)
    (hn:["enumerate","zip","dict_itemiterator","dict_reverseitemiterator","odict_iterator","itertools.zip_longest","itertools.pairwise"].contains n=false) (hQ:Q () s):wpAny M A (letOwnedTupleGo tg (.ref it) u) Q E s:=by
  unfold letOwnedTupleGo;cases tg <;> first
    | exact wpAny_pure hQ
    | (cases u <;> first
        | exact wpAny_pure hQ
        | (refine wpAny_bind (wpAny_load ho ?_)
           rw[hc,hd];show wpAny M A (if(["enumerate","zip","dict_itemiterator","dict_reverseitemiterator","odict_iterator","itertools.zip_longest","itertools.pairwise"].contains n&&vs[0]? == some (rawInt _))=true then _ else _) Q E s
           rw[if_neg (by intro h;rw[hn,Bool.false_and] at h;cases h)];exact wpAny_pure hQ))
def Itl(K:PySem.W.Frag)(a:Addr):It :=
 ⟨fun i H=>∃xs x,SqL K H a xs/\xs[i]?= some x,fun i H x H'=>H'=H/\∀xs,SqL K H a xs->xs[i]?= some x,fun i H=>∃xs,SqL K H a xs/\xs.length<=i⟩
def Itt(K:PySem.W.Frag)(a:Addr):It :=
 ⟨fun i H=>∃xs x,SqT K H a xs/\xs[i]?= some x,fun i H x H'=>H'=H/\∀xs,SqT K H a xs->xs[i]?= some x,fun i H=>∃xs,SqT K H a xs/\xs.length<=i⟩
def Itr(lo:Int)(n:Nat):It:=⟨fun i _=>i<n,fun i H x H'=>H'=H/\x=.int (lo+i),fun i _=>n<=i⟩
theorem ZiW{P:Program}{w:World}{K:PySem.W.Frag}{tg:Expr}(a it:Addr):Turn P w K tg (Itl K a) [it] it (fun i h=>h.IsListIter it a i) where
 mem:=by simp
 obj:=fun i h st b hb=>by
  have e:b=it:=by simpa using hb
  subst e;obtain⟨o,e,c,d⟩:=st;exact⟨o,e,fun v z=>by rw[d] at z;cases z⟩
 keep:=fun i h h' st k=>st.at fun o e=>k it (by simp) o e
 item:=by
  intro X hP hw hK hc i pins s σ H E I hf st hg;subst hP hw hK;obtain⟨xs,x,hq,hx⟩:=hg;obtain⟨its,rv,p,hz⟩:=I.list hq;obtain⟨u,hu,ru⟩:=rv.get hx;obtain⟨f0,f1,f2,f3,f4,f5⟩:=hf it (by simp);refine wpAny_pyNext_list_item st p.isList (x:=u) (by simpa using hu) fun h' st' sb=>?_;have I1:Inv X pins σ H { s with heap:=h' }:=I.turned (t':=s.toks) (fun b o hb e=>(sb.2 b hb).trans e) f0 f1 f3 f4 f5;obtain⟨o,e,c,d⟩:=id st';exact⟨u,rfl,Zke (s:={ s with heap:=h' }) e c d (by decide) ⟨x,H,I1,ru,⟨rfl,fun ys hy=>by rw[I.list_inj hy hq];exact hx⟩,st',fun b hb=>(hf b hb).1⟩⟩
 done:=by
  intro X hP hw hK hc i pins s σ H E I hf st hg;subst hP hw hK;obtain⟨xs,hq,hx⟩:=hg;obtain⟨its,rv,p,hz⟩:=I.list hq;obtain⟨f0,f1,f2,f3,f4,f5⟩:=hf it (by simp);have hl:=rv.length;exact wpAny_pyNext_list_end (I.ok.hd hc) st p.isList (by simp;lia) fun h' eb=>⟨rfl,I.turned (t':=s.toks) (fun b o hb e=>eb b o hb e) f0 f1 f3 f4 f5⟩
 self:=fun _ _ _ _ _ st h=>wpAny_pyIter_listiter st h
theorem ZhC{P:Program}{w:World}{K:PySem.W.Frag}{tg:Expr}(a it:Addr):Turn P w K tg (Itt K a) [it] it (fun i h=>h.IsTupleIter it a i) where
 mem:=by simp
 obj:=fun i h st b hb=>by
  have e:b=it:=by simpa using hb
  subst e;obtain⟨o,e,c,d⟩:=st;exact⟨o,e,fun v z=>by rw[d] at z;cases z⟩
 keep:=fun i h h' st k=>st.at fun o e=>k it (by simp) o e
 item:=by
  intro X hP hw hK hc i pins s σ H E I hf st hg;subst hP hw hK;obtain⟨xs,x,hq,hx⟩:=hg;obtain⟨its,rv,p,hz⟩:=I.tuple hq;obtain⟨u,hu,ru⟩:=rv.get hx;obtain⟨f0,f1,f2,f3,f4,f5⟩:=hf it (by simp);refine wpAny_pyNext_tuple_item st (show s.heap.IsTuple a its.toArray from p) (x:=u) (by simpa using hu) fun h' st' sb=>?_;have I1:Inv X pins σ H { s with heap:=h' }:=I.turned (t':=s.toks) (fun b o hb e=>(sb.2 b hb).trans e) f0 f1 f3 f4 f5;obtain⟨o,e,c,d⟩:=id st';exact⟨u,rfl,Zke (s:={ s with heap:=h' }) e c d (by decide) ⟨x,H,I1,ru,⟨rfl,fun ys hy=>by rw[I.tuple_inj hy hq];exact hx⟩,st',fun b hb=>(hf b hb).1⟩⟩
 done:=by
  intro X hP hw hK hc i pins s σ H E I hf st hg;subst hP hw hK;obtain⟨xs,hq,hx⟩:=hg;obtain⟨its,rv,p,hz⟩:=I.tuple hq;obtain⟨f0,f1,f2,f3,f4,f5⟩:=hf it (by simp);have hl:=rv.length;exact wpAny_pyNext_tuple_end (I.ok.hd hc) st (show s.heap.IsTuple a its.toArray from p) (by simp;lia) fun h' eb=>⟨rfl,I.turned (t':=s.toks) (fun b o hb e=>eb b o hb e) f0 f1 f3 f4 f5⟩
 self:=fun _ _ _ _ _ st h=>wpAny_pyIter_tupleiter st h
theorem Zh8{P:Program}{w:World}{K:PySem.W.Frag}{tg:Expr}(it:Addr)(lo:Int)(n:Nat):Turn P w K tg (Itr lo n) [it] it (fun i h=>IsRangeIter h it (lo+(i:Nat)*1) ((n:Int)-(i:Nat)) 1) where
 mem:=by simp
 obj:=fun i h st b hb=>by
  have e:b=it:=by simpa using hb
  subst e;exact⟨_,st,fun v z=>by
   have z':Data.fields _=Data.cell v:=z;cases z'⟩
 keep:=fun i h h' st k=>k it (by simp) _ st
 item:=by
  intro X hP hw hK hc i pins s σ H E I hf st hg;subst hP hw hK;obtain⟨f0,f1,f2,f3,f4,f5⟩:=hf it (by simp);have W:=Walks.range (prog:=X.prog) (w:=X.w) (I.ok.hd hc) it lo 1 n;refine W.item i s _ _ hg st fun v h' tk hv st' kk=>?_;obtain⟨t,rfl⟩:=hv;have I1:Inv X pins σ H { s with heap:=h',toks:=tk }:=I.turned (fun b o hb e=>kk b o (by simpa using hb) e) f0 f1 f3 f4 f5;refine⟨_,rfl,Zke (s:={ s with heap:=h',toks:=tk }) (n := "range_iterator") st' rfl rfl (by decide) ⟨.int (lo+i),H,I1,⟨t,?_⟩,⟨rfl,rfl⟩,st',fun b hb=>(hf b hb).1⟩⟩;rw[Int.mul_one]
 done:=by
  intro X hP hw hK hc i pins s σ H E I hf st hg;subst hP hw hK;obtain⟨f0,f1,f2,f3,f4,f5⟩:=hf it (by simp);exact wpAny_pyNext_range_end (I.ok.hd hc) st (by have:n<=i:=hg;lia) fun h' eb=>⟨rfl,I.turned (t':=s.toks) (fun b o hb e=>eb b o hb e) f0 f1 f3 f4 f5⟩
 self:=fun _ _ _ _ _ st h=>wpAny_pyIter_rangeiter st h
section
variable{X:Cx}{tg:Expr}
def ZmM(K:PySem.W.Frag)(tl:TE):TI:=fun σ H R=>tl σ H fun x H1=>∃a,x=.ref a/\(∃xs,SqL K H1 a xs)/\R (Itl K a) H1
def Znq(K:PySem.W.Frag)(tl:TE):TI:=fun σ H R=>tl σ H fun x H1=>∃a,x=.ref a/\(∃xs,SqT K H1 a xs)/\R (Itt K a) H1
theorem ZbT{l:Expr}{tl:TE}(hl:PE X l tl):PI X tg l (ZmM X.K tl):=by
 intro pins s σ H R I h;refine thn (hl pins s σ H _ I h) fun v s1 ⟨x,H1,I1,r1,q1⟩=>?_;obtain⟨a,e,⟨xs,hq⟩,q⟩:=q1;subst e;cases r1;obtain⟨its,rv,p,hz⟩:=I1.list hq;refine wpAny_pyIter_list p.isList ?_;refine⟨s1.heap.objs.size,[s1.heap.objs.size],_,_,H1,rfl,I1.kept (t':=s1.toks) fun b o e=>Heap.get?_push_of_some _ e,ZiW a _,⟨_,Heap.get?_push_size _ rfl,rfl,rfl⟩,fun b hb=>?_,q⟩;have e:b=s1.heap.objs.size:=by simpa using hb
 subst e;exact I1.fpOk (Nat.le_refl _) (I1.hok.fresh (Nat.le_refl _))
theorem Zc0{l:Expr}{tl:TE}(hl:PE X l tl):PI X tg l (Znq X.K tl):=by
 intro pins s σ H R I h;refine thn (hl pins s σ H _ I h) fun v s1 ⟨x,H1,I1,r1,q1⟩=>?_;obtain⟨a,e,⟨xs,hq⟩,q⟩:=q1;subst e;cases r1;obtain⟨its,rv,p,hz⟩:=I1.tuple hq;refine wpAny_pyIter_tuple (show s1.heap.IsTuple a its.toArray from p) ?_;refine⟨s1.heap.objs.size,[s1.heap.objs.size],_,_,H1,rfl,I1.kept (t':=s1.toks) fun b o e=>Heap.get?_push_of_some _ e,ZhC a _,⟨_,Heap.get?_push_size _ rfl,rfl,rfl⟩,fun b hb=>?_,q⟩;have e:b=s1.heap.objs.size:=by simpa using hb
 subst e;exact I1.fpOk (Nat.le_refl _) (I1.hok.fresh (Nat.le_refl _))
theorem Zj6{pins:List (Addr×Obj)}{σ : St}{H:Hp}{s:Shared}{R:It->Hp->Prop}{E:Value->Shared->Prop}{lo hi:Int}{t u v:Tok}{tk:Nat}(I:Inv X pins σ H s)(h1 : -(2 ^ 62)<=lo)(h2:lo<2 ^ 62)(h3 : -(2 ^ 62)<=hi)(h4:hi<2 ^ 62)
  (q:R (Itr lo (hi-lo).toNat) H):wpAny (model X.prog X.w) X.A (pyIter (.ref s.heap.objs.size)) (PIE X pins σ tg R) E { s with heap:=s.heap.push { cls:=.type "range",data:=.fields #[.int lo t,.int hi u,.int 1 v] },toks:=tk }:=by
 refine wpAny_pyIter_range (IsRange.new ..) (small_one h1 h2 h3 h4) ?_;have I1:Inv X pins σ H { s with heap:=s.heap.push { cls:=.type "range",data:=.fields #[.int lo t,.int hi u,.int 1 v] },toks:=tk }:=I.kept fun b o e=>Heap.get?_push_of_some _ e;refine⟨(s.heap.push { cls:=.type "range",data:=.fields #[.int lo t,.int hi u,.int 1 v] }).objs.size,[(s.heap.push { cls:=.type "range",data:=.fields #[.int lo t,.int hi u,.int 1 v] }).objs.size],_,_,H,rfl,
  I1.kept (t':=tk) fun b o e=>Heap.get?_push_of_some _ e,Zh8 _ lo (hi-lo).toNat,?_,fun b hb=>?_,q⟩
 ·have e1:lo+((0:Nat):Int)*1=lo:=by simp
  have e2:(((hi-lo).toNat:Nat):Int)-((0:Nat):Int)=Builtin.Range.rangeSize lo hi 1:=by rw[rangeSize_one];split <;> lia
  show IsRangeIter _ _ (lo+((0:Nat):Int)*1) ((((hi-lo).toNat:Nat):Int)-((0:Nat):Int)) 1;rw[e1,e2];exact Heap.get?_push_size _ rfl
 ·have e:b=(s.heap.push { cls:=.type "range",data:=.fields #[.int lo t,.int hi u,.int 1 v] }).objs.size:=by simpa using hb
  subst e;exact I1.fpOk (Nat.le_refl _) (I1.hok.fresh (Nat.le_refl _))
def Znb(ta:TA):TI:=fun σ H R=>ta σ H fun vs H1=>∃j:Int,vs=[.int j] /\ -(2 ^ 62)<=j/\j<2 ^ 62/\R (Itr 0 j.toNat) H1
theorem Zbt{a:Expr}{ta:TA}{p pos:Pos}(hg:Gl X "range") (hm:X.mg "range" = none) (ha:PA X [a] ta) (hs:starEach [a] X.env=[(false,eval a X.env)]:=by rfl):PI X tg (.Call (.Name "range" p) [a] [] pos) (Znb ta):=by
 intro pins s σ H R I h;refine Call_ (ZfF I hg hm boot_range (PyProof.Rows.callWith_type1 (thn (ha pos pins s σ H _ I h) fun us s1 ⟨vs,H1,I1,r1,q1⟩=>?_) hs rfl));obtain⟨j,e,q1,q2,q⟩:=q1;subst e;cases r1 with
 | cons r rr =>
  cases rr;obtain⟨t,rfl⟩:=r;exact call_range_1 (Zj6 I1 (by lia) (by lia) q1 q2 (by simpa using q))
def ZnE(wi:TI)(g:TG)(tb:TS):TS:=fun D σ H=>wi σ H fun J H1=>∃W:Nat->Nat->St->Hp->Prop,(∃m,W 0 m σ H1)/\∀i m σ H,W i m σ H ->
 (J.stop i H/\D.nx σ H)\/(J.go i H/\∃N:St->Hp->Prop,(∀ σ' H',N σ' H'->∃m',m'<m/\W (i+1) m' σ' H')/\∀x H',J.yld i H x H'->g x σ H' fun σ2 H2=>tb { D with nx:=N,ct:=N,bk:=D.nx } σ2 H2)
def ZgY(fp:List Addr)(h:Heap):List (Addr×Obj):=fp.filterMap fun b=>(h.get? b).map fun o=>(b,o)
theorem ZaO{fp:List Addr}{h:Heap}{b:Addr}{o:Obj}(hb:b∈fp)(e:h.get? b=some o):(b,o)∈ZgY fp h:=List.mem_filterMap.mpr ⟨b,hb,by rw[e];rfl⟩
theorem Zi6{fp:List Addr}{h:Heap}{p:Addr×Obj}(hp:p∈ZgY fp h):p.1∈fp/\h.get? p.1=some p.2:=by
 obtain⟨b,hb,e⟩:=List.mem_filterMap.mp hp;cases q:h.get? b with
 | none=>rw[q] at e;cases e
 | some o =>
  rw[q] at e;have e':(b,o)=p:=Option.some.inj e;subst e';exact⟨hb,q⟩
theorem Inv.pinned{pins:List (Addr×Obj)}{σ : St}{H:Hp}{s:Shared}{fp:List Addr}(I:Inv X pins σ H s)(hf:∀b∈fp,Zfh X pins H b)(ho:∀b∈fp,∃o,s.heap.get? b=some o/\∀v,o.data ≠ .cell v):Inv X (pins++ZgY fp s.heap) σ H s :=
 I.pins_of fun p hp=>(List.mem_append.mp hp).elim (fun z=>I.pin p (List.mem_append_right _ z)) fun z=>by
  obtain⟨hb,e⟩:=Zi6 z;obtain⟨f0,f1,f2,_⟩:=hf p.1 hb;obtain⟨o,e',d⟩:=ho p.1 hb;rw[e] at e';cases e';exact⟨e,f0,f1,f2,d⟩
theorem Inv.unpinned{pins pl:List (Addr×Obj)}{σ : St}{H:Hp}{s:Shared}(I:Inv X (pins++pl) σ H s):Inv X pins σ H s:=I.pins_of fun p hp=>I.pin p (List.mem_append_right _ (List.mem_append_left _ hp))
theorem ZaP{iter:Expr}{body:List Stmt}{wi:TI}{g:TG}{tb:TS}{pos:Pos}(hp:PassesOwn (model X.prog X.w) X.A X.env X.xe)(hc:X.calm=true)(hi:PI X tg iter wi)(hg:PG X tg g)(hb:PSs X body tb)
  (hs:∀x,foldedSetIterable iter X.env x=pure x:=by intro _;rfl):PS X (.For tg iter body [] pos) (ZnE wi g tb):=by
 intro pins s σ H D I h;refine wpAny_For (thn (hi pins s σ H _ I h) fun v s1 h1=>thn h1 fun itv s2 h2=>?_) hs;obtain⟨it,fp,tn,J,H2,e,I2,T,st2,f2,W,⟨m0,w0⟩,turn⟩:=h2;subst e;have stat:∀{H':Hp},(∀b∈fp,H' b=none)->∀b∈fp,Zfh X pins H' b:=fun hn b hb=>⟨hn b hb,(f2 b hb).2⟩;refine codeAny_forLoop_any (fun n s'=>∃i σ' H',Inv X pins σ' H' s'/\tn i s'.heap/\(∀b∈fp,H' b=none)/\W i n σ' H') ?_ m0 ⟨0,σ,H2,I2,st2,fun b hb=>(f2 b hb).1,w0⟩;rintro n s3 ⟨i,σ3,H3,I3,st3,fr3,w3⟩;rcases turn i n σ3 H3 w3 with⟨stop,qn⟩|⟨go,N,hN,step⟩
 ·refine wpAny_passesOwn hp (thn (T.done X rfl rfl rfl hc i pins s3 σ3 H3 X.xe I3 (stat fr3) st3 stop) fun r s4 ⟨hr,I4⟩=>?_);subst hr;exact wpAny_execs_nil ⟨σ3,H3,I4,qn⟩
 ·refine wpAny_passesOwn hp (thn (T.item X rfl rfl rfl hc i pins s3 σ3 H3 X.xe I3 (stat fr3) st3 go) fun r s4 ⟨u,hr,h4⟩=>?_);subst hr;refine wpAny_passesOwn hp (thn h4 fun _ s5 ⟨x,H5,I5,r5,y5,st5,fr5⟩=>?_);have I5':=I5.pinned (stat fr5) (T.obj _ _ st5);refine wpAny_passesOwn hp (thn (hg _ s5 σ3 H5 x u _ I5' r5 (step x H5 y5)) fun _ s6 ⟨σ6,H6,I6,q6⟩=>?_);refine wpAny_passesOwn hp (thn (hb _ s6 σ6 H6 _ I6 q6) fun f s7 q7=>?_);have again:∀{σ7:St}{H7:Hp},Inv X (pins++ZgY fp s5.heap) σ7 H7 s7->N σ7 H7->∃m,m<n/\∃i σ' H',Inv X pins σ' H' s7/\tn i s7.heap/\(∀b∈fp,H' b=none)/\W i m σ' H':=fun{σ7 H7} I7 n7=>by
   obtain⟨m',hm,w7⟩:=hN σ7 H7 n7;refine⟨m',hm,i+1,σ7,H7,I7.unpinned,T.keep _ _ _ st5 fun b hb o e=>(I7.pin (b,o) (List.mem_append_right _ (List.mem_append_right _ (ZaO hb e)))).1,fun b hb=>?_,w7⟩;obtain⟨o,e,d⟩:=T.obj _ _ st5 b hb;exact(I7.pin (b,o) (List.mem_append_right _ (List.mem_append_right _ (ZaO hb e)))).2.1
  cases f with
  | next=>obtain⟨σ7,H7,I7,n7⟩:=q7;exact again I7 n7
  | cont=>obtain⟨σ7,H7,I7,n7⟩:=q7;exact again I7 n7
  | brk=>obtain⟨σ7,H7,I7,q7⟩:=q7;exact⟨σ7,H7,I7.unpinned,q7⟩
  | ret v=>obtain⟨x7,σ7,H7,I7,r7,q7⟩:=q7;exact⟨x7,σ7,H7,I7.unpinned,r7,q7⟩
end
theorem Zb0{K:PySem.W.Frag}{a:Addr}{xs:List V}{g:TG}{tb:TS}{D:Ends}{σ : St}{H:Hp}(Pv:Nat->St->Hp->Prop)(h0:Pv 0 σ H)(hl:∀i σ H,i<=xs.length->Pv i σ H->SqL K H a xs)
  (hs:∀i x σ H,xs[i]?= some x->Pv i σ H->g x σ H fun σ2 H2=>tb { D with nx:=Pv (i+1),ct:=Pv (i+1),bk:=D.nx } σ2 H2) (hd:∀ σ H,Pv xs.length σ H->D.nx σ H) :
  ∃W:Nat->Nat->St->Hp->Prop,(∃m,W 0 m σ H)/\∀i m σ H,W i m σ H ->
   ((Itl K a).stop i H/\D.nx σ H)\/((Itl K a).go i H/\∃N:St->Hp->Prop,(∀ σ' H',N σ' H'->∃m',m'<m/\W (i+1) m' σ' H')/\∀x H',(Itl K a).yld i H x H'->g x σ H' fun σ2 H2=>tb { D with nx:=N,ct:=N,bk:=D.nx } σ2 H2):=by
 refine⟨fun i m σ H=>m=xs.length-i/\i<=xs.length/\Pv i σ H,⟨xs.length,by simp,Nat.zero_le _,h0⟩,?_⟩;rintro i m σ H ⟨rfl,hi,p⟩;have q:=hl i σ H hi p;by_cases hlt:i<xs.length
 ·refine .inr ⟨⟨xs,xs[i],q,by simp[hlt]⟩,Pv (i+1),fun σ' H' p'=>⟨xs.length-(i+1),by lia,rfl,hlt,p'⟩,fun x H' y=>?_⟩;obtain⟨e,y⟩:=y;subst e;exact hs i x σ _ (y xs q) p
 ·have e:i=xs.length:=by lia
  subst e;exact .inl ⟨⟨xs,q,Nat.le_refl _⟩,hd σ H p⟩
theorem ZcB{K:PySem.W.Frag}{a:Addr}{xs:List V}{g:TG}{tb:TS}{D:Ends}{σ : St}{H:Hp}(Pv:Nat->St->Hp->Prop)(h0:Pv 0 σ H)(hl:∀i σ H,i<=xs.length->Pv i σ H->SqT K H a xs)
  (hs:∀i x σ H,xs[i]?= some x->Pv i σ H->g x σ H fun σ2 H2=>tb { D with nx:=Pv (i+1),ct:=Pv (i+1),bk:=D.nx } σ2 H2) (hd:∀ σ H,Pv xs.length σ H->D.nx σ H) :
  ∃W:Nat->Nat->St->Hp->Prop,(∃m,W 0 m σ H)/\∀i m σ H,W i m σ H ->
   ((Itt K a).stop i H/\D.nx σ H)\/((Itt K a).go i H/\∃N:St->Hp->Prop,(∀ σ' H',N σ' H'->∃m',m'<m/\W (i+1) m' σ' H')/\∀x H',(Itt K a).yld i H x H'->g x σ H' fun σ2 H2=>tb { D with nx:=N,ct:=N,bk:=D.nx } σ2 H2):=by
 refine⟨fun i m σ H=>m=xs.length-i/\i<=xs.length/\Pv i σ H,⟨xs.length,by simp,Nat.zero_le _,h0⟩,?_⟩;rintro i m σ H ⟨rfl,hi,p⟩;have q:=hl i σ H hi p;by_cases hlt:i<xs.length
 ·refine .inr ⟨⟨xs,xs[i],q,by simp[hlt]⟩,Pv (i+1),fun σ' H' p'=>⟨xs.length-(i+1),by lia,rfl,hlt,p'⟩,fun x H' y=>?_⟩;obtain⟨e,y⟩:=y;subst e;exact hs i x σ _ (y xs q) p
 ·have e:i=xs.length:=by lia
  subst e;exact .inl ⟨⟨xs,q,Nat.le_refl _⟩,hd σ H p⟩
theorem Zcn{lo:Int}{n:Nat}{g:TG}{tb:TS}{D:Ends}{σ : St}{H:Hp}(Pv:Nat->St->Hp->Prop)(h0:Pv 0 σ H)
  (hs:∀i σ H,i<n->Pv i σ H->g (.int (lo+i)) σ H fun σ2 H2=>tb { D with nx:=Pv (i+1),ct:=Pv (i+1),bk:=D.nx } σ2 H2) (hd:∀ σ H,Pv n σ H->D.nx σ H) :
  ∃W:Nat->Nat->St->Hp->Prop,(∃m,W 0 m σ H)/\∀i m σ H,W i m σ H ->
   ((Itr lo n).stop i H/\D.nx σ H)\/((Itr lo n).go i H/\∃N:St->Hp->Prop,(∀ σ' H',N σ' H'->∃m',m'<m/\W (i+1) m' σ' H')/\∀x H',(Itr lo n).yld i H x H'->g x σ H' fun σ2 H2=>tb { D with nx:=N,ct:=N,bk:=D.nx } σ2 H2):=by
 refine⟨fun i m σ H=>m=n-i/\i<=n/\Pv i σ H,⟨n,by simp,Nat.zero_le _,h0⟩,?_⟩;rintro i m σ H ⟨rfl,hi,p⟩;by_cases hlt:i<n
 ·refine .inr ⟨hlt,Pv (i+1),fun σ' H' p'=>⟨n-(i+1),by lia,rfl,hlt,p'⟩,fun x H' y=>?_⟩;obtain⟨e,y⟩:=y;subst e y;exact hs i σ _ hlt p
 ·have e:i=n:=by lia
  subst e;exact .inl ⟨Nat.le_refl _,hd σ H p⟩
abbrev R2:=V->V->Hp->VK->Prop
def OpR(X:Cx)(f:Value->Value->Sem Value)(r:R2):Prop :=
 ∀(pins:List (Addr×Obj))(s:Shared)(σ : St)(H:Hp)(x y:V)(v u:Value)(Q:VK),Inv X pins σ H s->RelV x v->RelV y u->r x y H Q ->
  wpAny (model X.prog X.w) X.A (f v u) (EP X pins σ Q) X.xe s
def UnR(X:Cx)(f:Value->Sem Value)(r:V->Hp->VK->Prop):Prop :=
 ∀(pins:List (Addr×Obj))(s:Shared)(σ : St)(H:Hp)(x:V)(v:Value)(Q:VK),Inv X pins σ H s->RelV x v->r x H Q ->
  wpAny (model X.prog X.w) X.A (f v) (EP X pins σ Q) X.xe s
def Zc6(X:Cx)(f:Value)(r:List V->Hp->VK->Prop):Prop :=
 ∀(pins:List (Addr×Obj))(s:Shared)(σ : St)(H:Hp)(xs:List V)(us:List Value)(Q:VK),Inv X pins σ H s->Vals xs us->r xs H Q ->
  wpAny (model X.prog X.w) X.A (call f us) (EP X pins σ Q) X.xe s
def ZnP(X:Cx)(r:V->Hp->(Bool->Hp->Prop)->Prop):Prop :=
 ∀(pins:List (Addr×Obj))(s:Shared)(σ : St)(H:Hp)(x:V)(v:Value)(Q:Bool->Hp->Prop),Inv X pins σ H s->RelV x v->r x H Q ->
  wpAny (model X.prog X.w) X.A (truthy v) (TP X pins σ Q) X.xe s
def tOp(r:R2)(ta tb:TE):TE:=fun σ H Q=>ta σ H fun x H1=>tb σ H1 fun y H2=>r x y H2 Q
def tUn(r:V->Hp->VK->Prop)(ta:TE):TE:=fun σ H Q=>ta σ H fun x H1=>r x H1 Q
def rI(C:Int->Int->Prop)(g:Int->Int->V):R2:=fun x y H Q=>∃i j,x=.int i/\y=.int j/\C i j/\Q (g i j) H
def rI0(g:Int->Int->V):R2:=fun x y H Q=>∃i j,x=.int i/\y=.int j/\Q (g i j) H
def rU(g:Int->V):V->Hp->VK->Prop:=fun x H Q=>∃i,x=.int i/\Q (g i) H
section
variable{X:Cx}{a b c:Expr}{ta tb tc:TE}{pos:Pos}
theorem Znc(ha:PE X a ta)(hb:PE X b tb){pins:List (Addr×Obj)}{s:Shared}{σ : St}{H:Hp}{R:V->V->Hp->Prop}(I:Inv X pins σ H s)
  (h:ta σ H fun x H1=>tb σ H1 fun y H2=>R x y H2) {Q:Value->Shared->Prop} {f:Value->Value->Sem Value}
  (hf:∀v u s2 x y H2,Inv X pins σ H2 s2->RelV x v->RelV y u->R x y H2->wpAny (model X.prog X.w) X.A (f v u) Q X.xe s2) :
  wpAny (model X.prog X.w) X.A (eval a X.env) (fun v s₁=>wpAny (model X.prog X.w) X.A (eval b X.env) (fun u s₂=>wpAny (model X.prog X.w) X.A (f v u) Q X.xe s₂) X.xe s₁) X.xe s:=by
 refine thn (ha pins s σ H _ I h) fun v s1 ⟨x,H1,I1,r1,q1⟩=>?_;refine thn (hb pins s1 σ H1 _ I1 q1) fun u s2 ⟨y,H2,I2,r2,q2⟩=>?_;exact hf v u s2 x y H2 I2 r1 r2 q2
theorem Zr{op:Operator}{r:R2}(ho:OpR X (binaryOp op) r)(ha:PE X a ta)(hb:PE X b tb):PE X (.BinOp a op b pos) (tOp r ta tb):=by
 intro pins s σ H Q I h;exact wpAny_BinOp (Znc ha hb I h fun v u s2 x y H2 I2 rx ry q=>ho pins s2 σ H2 x y v u Q I2 rx ry q)
theorem Zeh{op:UnaryOp}{r:V->Hp->VK->Prop}(ho:UnR X (unaryOp op) r)(ha:PE X a ta):PE X (.UnaryOp op a pos) (tUn r ta):=by
 intro pins s σ H Q I h;exact UnaryOp_ (thn (ha pins s σ H _ I h) fun v s1 ⟨x,H1,I1,r1,q1⟩=>ho pins s1 σ H1 x v Q I1 r1 q1)
theorem opI{f:Value->Value->Sem Value}{C:Int->Int->Prop}{g:Int->Int->Int}
  (rule:∀(i j:Int)(t u:Tok)(s:Shared)(Q:Value->Shared->Prop)(E:Value->Shared->Prop),C i j->Q (.int (g i j) s.toks) { s with toks:=s.toks+1 }->wpAny (model X.prog X.w) X.A (f (.int i t) (.int j u)) Q E s) :
  OpR X f (rI C fun i j=>.int (g i j)):=by
 intro pins s σ H x y v u Q I rx ry h;obtain⟨i,j,rfl,rfl,hc,q⟩:=h;obtain⟨t,rfl⟩:=rx;obtain⟨t',rfl⟩:=ry;exact rule i j t t' s _ _ hc ⟨.int (g i j),H,I.tok _,⟨_,rfl⟩,q⟩
theorem Znv{f:Value->Value->Sem Value}{g:Int->Int->Int}
  (rule:∀(i j:Int)(t u:Tok)(s:Shared)(Q:Value->Shared->Prop)(E:Value->Shared->Prop),Q (.int (g i j) s.toks) { s with toks:=s.toks+1 }->wpAny (model X.prog X.w) X.A (f (.int i t) (.int j u)) Q E s) :
  OpR X f (rI0 fun i j=>.int (g i j)):=by
 intro pins s σ H x y v u Q I rx ry h;obtain⟨i,j,rfl,rfl,q⟩:=h;obtain⟨t,rfl⟩:=rx;obtain⟨t',rfl⟩:=ry;exact rule i j t t' s _ _ ⟨.int (g i j),H,I.tok _,⟨_,rfl⟩,q⟩
theorem ZmI{f:Value->Value->Sem Value}{g:Int->Int->Bool}
  (rule:∀(i j:Int)(t u:Tok)(s:Shared)(Q:Value->Shared->Prop)(E:Value->Shared->Prop),Q (.bool (g i j)) s->wpAny (model X.prog X.w) X.A (f (.int i t) (.int j u)) Q E s) :
  OpR X f (rI0 fun i j=>.bl (g i j)):=by
 intro pins s σ H x y v u Q I rx ry h;obtain⟨i,j,rfl,rfl,q⟩:=h;obtain⟨t,rfl⟩:=rx;obtain⟨t',rfl⟩:=ry;exact rule i j t t' s _ _ ⟨.bl (g i j),H,I,rfl,q⟩
def Zns(i j:Int):Prop:=0<j/\j<1073741824
def ZnO(i j:Int):Prop:=0<=j/\j<=1000000/\i.natAbs<2 ^ 64
def ZmV(i j:Int):Prop:=(-(2 ^ 64)<i/\i<2 ^ 64)\/(-(2 ^ 64)<j/\j<2 ^ 64)
theorem ZmV.ok{i j:Int}(h:ZmV i j):IntMulOk i j:=by
 rcases h with⟨h1,h2⟩|⟨h1,h2⟩
 ·exact .of_left (intBits_le_64 h1 h2)
 ·exact .of_right (intBits_le_64 h1 h2)
theorem ZaN:OpR X (binaryOp .Add) (rI0 fun i j=>.int (i+j)):=Znv fun _ _ _ _ _ _ _ q=>add_int q
theorem ZdR:OpR X (binaryOp .Mult) (rI ZmV fun i j=>.int (i*j)):=opI fun _ _ _ _ _ _ _ hc q=>mul_int q hc.ok
theorem ZaW:OpR X (binaryOp .FloorDiv) (rI Zns fun i j=>.int (i / j)):=opI fun i j _ _ _ _ _ hc q=>by
 have h1:(0:Int)<j:=hc.1;have h2:j<1073741824:=hc.2;exact floordiv_int (by lia) (by rw[Int.fdiv_eq_ediv_of_nonneg i (by lia)];exact q) (.inl (PyProof.noPylong_small (by lia)))
theorem Zah:OpR X (binaryOp .Mod) (rI (fun _ j=>0<j) fun i j=>.int (i % j)):=opI fun i j _ _ _ _ _ hc q=>by
 have h1:(0:Int)<j:=hc;exact mod_int' (by lia) (by rw[Int.fmod_eq_emod_of_nonneg i (by lia)];exact q)
theorem Zik:OpR X (binaryOp .Pow) (rI ZnO fun i j=>.int (i ^ j.toNat)):=opI fun _ _ _ _ _ _ _ hc q=>pow_int_small hc.1 hc.2.1 hc.2.2 q
theorem unI{f:Value->Sem Value}{g:Int->Int}
  (rule:∀(i:Int)(t:Tok)(s:Shared)(Q:Value->Shared->Prop)(E:Value->Shared->Prop),Q (.int (g i) s.toks) { s with toks:=s.toks+1 }->wpAny (model X.prog X.w) X.A (f (.int i t)) Q E s) :
  UnR X f (rU fun i=>.int (g i)):=by
 intro pins s σ H x v Q I rx h;obtain⟨i,rfl,q⟩:=h;obtain⟨t,rfl⟩:=rx;exact rule i t s _ _ ⟨.int (g i),H,I.tok _,⟨_,rfl⟩,q⟩
theorem Zb9:UnR X (unaryOp .USub) (rU fun i=>.int (-i)):=unI fun _ _ _ _ _ q=>neg_int q
end
def ZnA:V->V->Bool
 | .non,.non=>true | .non,.int _=>true | .int _,.non=>true | .non,.bl _=>true | .bl _,.non=>true | .non,.str _=>true | .str _,.non=>true
 | .int _,.int _=>true | .bl _,.bl _=>true | .str _,.str _=>true | .byt _,.byt _=>true
 | .int _,.str _=>true | .str _,.int _=>true | .bl _,.str _=>true | .str _,.bl _=>true
 | _,_=>false
def rEq:R2:=fun x y H Q=>ZnA x y=true/\Q (.bl (decide (x=y))) H
theorem ZlI{i j:Int}:decide (V.int i=V.int j)=(i == j):=by
 rw[Bool.eq_iff_iff];simp
theorem ZlQ{i j:Bool}:decide (V.bl i=V.bl j)=(i == j):=by
 rw[Bool.eq_iff_iff];simp
theorem ZlH{i j:Str}:decide (V.str i=V.str j)=(i == j):=by
 rw[Bool.eq_iff_iff];simp
theorem Zln{i j:Array UInt8}:decide (V.byt i=V.byt j)=(i.toList == j.toList):=by
 rw[Bool.eq_iff_iff];cases i;cases j;simp
section
variable{X:Cx}{a b c:Expr}{ta tb tc:TE}{pos:Pos}
theorem Zba{pins:List (Addr×Obj)}{σ : St}{H:Hp}{s:Shared}{Q:VK}{k k':Bool}(I:Inv X pins σ H s)(q:Q (.bl k) H)(e:k=k'):EP X pins σ Q (.bool k') s:=by
 subst e;exact⟨.bl k,H,I,rfl,q⟩
theorem Zca:OpR X (compareOp .Eq) rEq:=by
 intro pins s σ H x y v u Q I rx ry h;obtain⟨hs,q⟩:=h;cases x with
 | non =>
  cases rx;cases y with
  | non=>cases ry;exact PySem.EqNone.eq_none_none (Zba I q (by simp))
  | bl j=>cases ry;exact PySem.EqNone.eq_none_bool (Zba I q (by simp))
  | int j=>obtain⟨t',rfl⟩:=ry;exact PySem.EqNone.eq_none_int (Zba I q (by simp))
  | str j=>obtain⟨t',rfl⟩:=ry;exact PySem.EqNone.eq_none_str (Zba I q (by simp))
  | _=>exact absurd (show false=true from hs) Bool.false_ne_true
 | bl i =>
  cases rx;cases y with
  | non=>cases ry;exact PySem.EqNone.eq_bool_none (Zba I q (by simp))
  | bl j=>cases ry;exact eq_bool (Zba I q ZlQ)
  | str j=>obtain⟨t',rfl⟩:=ry;exact PySem.EqMixed.eq_bool_str (Zba I q (by simp))
  | _=>exact absurd (show false=true from hs) Bool.false_ne_true
 | int i =>
  obtain⟨t,rfl⟩:=rx;cases y with
  | non=>cases ry;exact PySem.EqNone.eq_int_none (Zba I q (by simp))
  | int j=>obtain⟨t',rfl⟩:=ry;exact eq_int (Zba I q ZlI)
  | str j=>obtain⟨t',rfl⟩:=ry;exact PySem.EqMixed.eq_int_str (Zba I q (by simp))
  | _=>exact absurd (show false=true from hs) Bool.false_ne_true
 | str i =>
  obtain⟨t,rfl⟩:=rx;cases y with
  | non=>cases ry;exact PySem.EqNone.eq_str_none (Zba I q (by simp))
  | bl j=>cases ry;exact PySem.EqMixed.eq_str_bool (Zba I q (by simp))
  | int j=>obtain⟨t',rfl⟩:=ry;exact PySem.EqMixed.eq_str_int (Zba I q (by simp))
  | str j=>obtain⟨t',rfl⟩:=ry;exact eq_str (Zba I q ZlH)
  | _=>exact absurd (show false=true from hs) Bool.false_ne_true
 | byt i =>
  obtain⟨t,rfl⟩:=rx;cases y with
  | byt j=>obtain⟨t',rfl⟩:=ry;exact PySem.W.eq_bytes (Zba I q Zln)
  | _=>exact absurd (show false=true from hs) Bool.false_ne_true
 | _=>cases y <;> exact absurd (show false=true from hs) Bool.false_ne_true
theorem Zj3:OpR X (compareOp .Lt) (rI0 fun i j=>.bl (decide (i<j))):=ZmI fun _ _ _ _ _ _ _ q=>lt_int q
theorem ZlG:OpR X (compareOp .LtE) (rI0 fun i j=>.bl (decide (i<=j))):=ZmI fun _ _ _ _ _ _ _ q=>le_int q
theorem ZgO:OpR X (compareOp .Gt) (rI0 fun i j=>.bl (decide (j<i))):=ZmI fun _ _ _ _ _ _ _ q=>gt_int q
theorem Zmz:OpR X (compareOp .Is) (fun x y H Q=>y=.non/\Q (.bl (decide (x=.non))) H):=by
 intro pins s σ H x y v u Q I rx ry h;obtain⟨rfl,q⟩:=h;cases ry;refine is_none_gen (Zba I q ?_);cases x <;> first
  | (cases rx;rfl)
  | (obtain⟨t,rfl⟩:=rx;rfl)
theorem OpR.or{f:Value->Value->Sem Value}{r r':R2}(h:OpR X f r)(h':OpR X f r'):OpR X f (fun x y H Q=>r x y H Q\/r' x y H Q):=by
 intro pins s σ H x y v u Q I rx ry q;rcases q with q|q
 ·exact h pins s σ H x y v u Q I rx ry q
 ·exact h' pins s σ H x y v u Q I rx ry q
theorem Z0(b:Expr){op:CmpOp}(h:op ≠ .In:=by decide)(h2:op ≠ .NotIn:=by decide):behindInMarks op b=false:=by
 have e1:(op == CmpOp.In)=false:=by cases op <;> first|rfl|exact absurd rfl h
 have e2:(op == CmpOp.NotIn)=false:=by cases op <;> first|rfl|exact absurd rfl h2
 cases b <;> simp[behindInMarks,e1,e2]
theorem ZgQ{op:CmpOp}{r:R2}(ho:OpR X (compareOp op) r)(ha:PE X a ta)(hb:PE X b tb)(hm:behindInMarks op b=false):PE X (.Compare a [op] [b] pos) (tOp r ta tb):=by
 intro pins s σ H Q I h;exact wpAny_Compare1 (Znc ha hb I h fun v u s2 x y H2 I2 rx ry q=>ho pins s2 σ H2 x y v u Q I2 rx ry q) hm
def Zm1(t:TE):TT:=fun σ H Q=>t σ H fun x H'=>∃k,x=.bl k/\Q k H'
theorem ZK{op:CmpOp}{r:R2}(ho:OpR X (compareOp op) r)(ha:PE X a ta)(hb:PE X b tb)(hm:behindInMarks op b=false):PT X (.Compare a [op] [b] pos) (Zm1 (tOp r ta tb)):=by
 intro pins s σ H Q I h;refine wpAny_isTrue_Compare1 (thn (ha pins s σ H _ I h) fun v s1 ⟨x,H1,I1,r1,q1⟩=>thn (hb pins s1 σ H1 _ I1 q1) fun u s2 ⟨y,H2,I2,r2,q2⟩ =>
  thn (ho pins s2 σ H2 x y v u _ I2 r1 r2 q2) fun c s3 ⟨z,H3,I3,r3,k,e,q3⟩=>?_) hm
 subst e;cases r3;exact wpAny_truthy_bool ⟨H3,I3,q3⟩
def Zmj(r r':R2)(ta tb tc:TE):TE:=fun σ H Q=>ta σ H fun x H1=>tb σ H1 fun y H2=>r x y H2 fun z H3=>∃k,z=.bl k /\
 (if k=true then tc σ H3 fun w' H4=>r' y w' H4 Q else Q (.bl false) H3)
theorem Zj0{op op':CmpOp}{r r':R2}(ho:OpR X (compareOp op) r)(ho':OpR X (compareOp op') r')(ha:PE X a ta)(hb:PE X b tb)(hc:PE X c tc)
  (hm:lastMarks [op,op'] [b,c]=false:=by with_unfolding_all rfl):PE X (.Compare a [op,op'] [b,c] pos) (Zmj r r' ta tb tc):=by
 intro pins s σ H Q I h;refine Compare_chain (thn (ha pins s σ H _ I h) fun v s1 ⟨x,H1,I1,r1,q1⟩=>chain_link (thn (hb pins s1 σ H1 _ I1 q1) fun u s2 ⟨y,H2,I2,r2,q2⟩ =>
  thn (ho pins s2 σ H2 x y v u _ I2 r1 r2 q2) fun d s3 ⟨z,H3,I3,r3,k,e,q3⟩=>?_)) hm
 subst e;cases r3;refine wpAny_truthy_bool ?_;cases k with
 | false=>exact ite_ff ⟨.bl false,H3,I3,rfl,q3⟩
 | true=>exact ite_tt (chain_last (thn (hc pins s3 σ H3 _ I3 q3) fun w' s4 ⟨z',H4,I4,r4,q4⟩=>ho' pins s4 σ H4 y z' u w' Q I4 r2 r4 q4))
def Znf(K:PySem.W.Frag)(x:V)(H:Hp)(k:Bool):Prop :=
 match x with
 | .non=>k=false
 | .bl b=>k=b
 | .int i=>k=(i != 0)
 | .str y=>y.length<=sizeLine/\k=((y.length:Int) != 0)
 | .byt y=>y.size<=sizeLine/\k=((y.size:Int) != 0)
 | .ref p=>(∃xs,SqL K H p xs/\k= !xs.isEmpty)\/(∃xs,SqT K H p xs/\k= !xs.isEmpty)\/∃kvs,H p=some (.dK kvs)/\k= !kvs.isEmpty
 | _=>False
theorem Zia{κ : Type}{kvs:List (κ × V)}{vs:List (κ × Value)}(r:KV kvs vs):(!vs.isEmpty)= !kvs.isEmpty:=by
 cases r <;> rfl
theorem Zer{xs:List V}{its:List Value}(r:Vals xs its):(!its.toArray.isEmpty)= !xs.isEmpty:=by
 cases r <;> simp
theorem Zdy:(sizeLine:Nat)<2 ^ 63:=by rw[sizeLine_eq];decide
theorem Zme:ZnP X (fun x H Q=>∃k,Znf X.K x H k/\Q k H):=by
 intro pins s σ H x v Q I rx h;obtain⟨k,e,q⟩:=h;have hl:=Zdy;have hs:sizeLine=16777216:=sizeLine_eq;cases x with
 | non =>
  cases rx;have e':k=false:=e;subst e';exact truthy_none ⟨H,I,q⟩
 | bl b =>
  cases rx;have e':k=b:=e;subst e';exact wpAny_truthy_bool ⟨H,I,q⟩
 | int i =>
  obtain⟨t,rfl⟩:=rx;have e':k=(i != 0):=e;subst e';exact PySem.P.truthy_int ⟨H,I,q⟩
 | str y =>
  obtain⟨t,rfl⟩:=rx;obtain⟨hy,e'⟩:y.length<=sizeLine/\k=((y.length:Int) != 0):=e;subst e';exact PySem.P.truthy_str (by lia) ⟨H,I.tok _,q⟩
 | byt y =>
  obtain⟨t,rfl⟩:=rx;obtain⟨hy,e'⟩:y.size<=sizeLine/\k=((y.size:Int) != 0):=e;subst e';exact PySem.W.truthy_bytes (by lia) ⟨H,I.tok _,q⟩
 | ref p =>
  cases rx;have e':(∃xs,SqL X.K H p xs/\k= !xs.isEmpty)\/(∃xs,SqT X.K H p xs/\k= !xs.isEmpty)\/∃kvs,H p=some (.dK kvs)/\k= !kvs.isEmpty:=e;rcases e' with⟨xs,hx,e'⟩|⟨xs,hx,e'⟩|⟨kvs,hx,e'⟩
  ·subst e';obtain⟨its,r,pl,hz⟩:=I.list hx;have hlen:=r.length;exact wpAny_truthy_list pl.isList (by simp only[List.size_toArray];lia) ⟨H,I.tok _,by rw[Zer r];exact q⟩
  ·subst e';obtain⟨its,r,pl,hz⟩:=I.tuple hx;have hlen:=r.length;exact truthy_tuple pl (by simp only[List.size_toArray];lia) ⟨H,I.tok _,by rw[Zer r];exact q⟩
  ·subst e';obtain⟨hz,hS,vs,r,m⟩:kvs.length<=sizeLine/\(p == sysModules)=false/\∃vs,KV kvs vs/\s.heap.DictOf (ZX X.prog X.w) p vs:=I.hok p _ hx;have hlen:kvs.length=vs.length:=Paired.length r;exact wpAny_truthy_dict hS m (by lia) ⟨H,I.tok _,by rw[Zia r];exact q⟩
 | _=>exact(show False from e).elim
theorem ZbB(ha:PE X a ta)(he:∀whole,isTrue a X.env whole=(do let v <- whole;standAt a.pos;holding [v] (truthy v))) :
  PT X a (fun σ H Q=>ta σ H fun x H'=>∃k,Znf X.K x H' k/\Q k H'):=by
 intro pins s σ H Q I h;exact isTrue_plain (thn (ha pins s σ H _ I h) fun v s1 ⟨x,H1,I1,r1,q1⟩=>Zme pins s1 σ H1 x v Q I1 r1 q1) (he _)
theorem ZhD:OpR X (binaryOp .Add) (fun x y H Q=>∃i j,x=.str i/\y=.str j/\i.length+j.length<=sizeLine/\Q (.str (i++j)) H):=by
 intro pins s σ H x y v u Q I rx ry h;obtain⟨i,j,rfl,rfl,hz,q⟩:=h;obtain⟨t,rfl⟩:=rx;obtain⟨t',rfl⟩:=ry;exact add_str (fun t' tk=>⟨.str (i++j),H,I.tok _,⟨_,rfl⟩,q⟩) hz
theorem vals1{x:V}{us:List Value}(r:Vals [x] us):∃u,us=[u]/\RelV x u:=by
 cases r with
 | cons r1 r2=>cases r2;exact⟨_,rfl,r1⟩
theorem vals2{x y:V}{us:List Value}(r:Vals [x,y] us):∃u w',us=[u,w']/\RelV x u/\RelV y w':=by
 cases r with
 | cons r1 r2 =>
  cases r2 with
  | cons r3 r4=>cases r4;exact⟨_,_,rfl,r1,r3⟩
theorem Zjo(hc:X.calm=true):Zc6 X (.builtin "max") (fun xs H Q=>∃i j,xs=[.int i,.int j]/\Q (.int (if j > i then j else i)) H):=by
 intro pins s σ H xs us Q I r h;obtain⟨i,j,rfl,q⟩:=h;obtain⟨u,w',rfl,⟨t,rfl⟩,⟨t',rfl⟩⟩:=vals2 r;refine max_two_ints (I.ok.hd hc) fun h' tk k=>⟨_,H,I.kept k,?_,q⟩;by_cases hj:j > i
 ·rw[if_pos hj,if_pos hj];exact⟨_,rfl⟩
 ·rw[if_neg hj,if_neg hj];exact⟨_,rfl⟩
end
structure ObjM(h:Heap)(x dx C:Addr)(mA:Str->Option Value):Prop where
 obj:h.get? x=some (PySem.W.instObj C dx)
 ns:h.Ns1 dx mA
 ne:dx≠x
theorem ZjK{h:Heap}{dx:Addr}{mA:Str->Option Value}(n:h.Ns1 dx mA):∃od,h.get? dx=some od/\∀name,PySem.W.lookIn name od=some (mA name):=by
 obtain⟨o,es,ep,ho,hd,hk,_,hm⟩:=n;refine⟨o,ho,fun name=>?_⟩;have e:=hm name;unfold nsFind findBy at e;rw[<- Array.find?_toList] at e;unfold PySem.W.lookIn;rw[hd];dsimp only
 split
 ·rename_i y q
  rw[q] at e;exact congrArg some e
 ·rename_i q
  rw[q] at e;have a:es.toList.any (·.refKey)=false:=by
   rw[List.any_eq_false];intro y hy;obtain⟨z,t,hkey⟩:=hk y (Array.mem_toList_iff.mp hy);simp[DictEntry.refKey,hkey]
  have a' : ¬ es.toList.any (·.refKey)=true:=by rw[a];exact Bool.false_ne_true
  rw[if_neg a'];exact congrArg some e
theorem ObjM.look{h:Heap}{x dx C:Addr}{mA:Str->Option Value}(I:ObjM h x dx C mA):∃od,PySem.W.InstAt h x (PySem.W.instObj C dx) C (some od)/\∀name,PySem.W.lookIn name od=some (mA name) :=
 let ⟨od,ho,hl⟩:=ZjK I.ns
 ⟨od,⟨I.obj,rfl,rfl,ho⟩,hl⟩
section
variable{prog:Program}{w:World}{A:Around}{E:Value->Shared->Prop}{s:Shared}{K:PySem.W.Frag}{x dx C f:Addr}{mA:Str->Option Value}{name:Str}{v:Value}
theorem Zlv{expr:Bool}{Q:Value->Shared->Prop}(X:K.In s.heap)(I:ObjM s.heap x dx C mA)(hg:PySem.W.plainGet K C name=true)(hh:PySem.W.hasDictIn K C=true)
  (ha:PySem.W.findIn K (.ref C) name=some none) (hv:mA name=some v) (hv':PySem.W.handedIn v=true) (h:Q v { s with toks:=s.toks+1 }) :
  wpAny (model prog w) A (getAttr (.ref x) name expr) Q E s:=by
 obtain⟨od,J,hl⟩:=I.look;exact PySem.W.get_value X J (PySem.W.plainGet_of hg).1 (PySem.W.findObj_own hh ha rfl (by rw[hl,hv])) hv' h
theorem Zkt{pl:Sem Bool}{Q:Value×List Value->Shared->Prop}(X:K.In s.heap)(I:ObjM s.heap x dx C mA)(hg:PySem.W.plainGet K C name=true)
  (hf:PySem.W.findIn K (.ref C) name=some (some (.ref f))) (ht:PySem.W.isFn K (.ref f)=true) (hv:mA name=none) (h:Q (.ref f,[.ref x]) s) :
  wpAny (model prog w) A (getMethod (.ref x) name pl) Q E s:=by
 obtain⟨od,J,hl⟩:=I.look;exact PySem.W.method_fn X J (PySem.W.plainGet_of hg).1 (PySem.W.plainGet_of hg).2 hf (beq_iff_eq.mp ht) (by show(PySem.W.lookIn name od).map (·.isSome)=some false;rw[hl,hv];rfl) h
theorem Zlx{ns:List Str}{Q:Unit->Shared->Prop}(X:K.In s.heap)(I:ObjM s.heap x dx C mA)
  (hs:PySem.W.findIn K (.ref C) "__setattr__" = some (some (.builtin "object.__setattr__"))) (hp:PySem.W.plainOver K C=true) (ht:PySem.W.takerIn K C name=some none) (hh:PySem.W.hasDictIn K C=true)
  (hw:PySem.Within mA ns) (hsz:ns.length<=sizeLine)
  (h:∀h',ObjM h' x dx C (fun y=>if y=name then some v else mA y)->Heap.SameBut dx s.heap h'->Q () { s with heap:=h',toks:=s.toks+2 }) :
  wpAny (model prog w) A (setAttr (.ref x) name v) Q E s:=by
 obtain⟨od,J,hl⟩:=I.look;refine PySem.W.set_plain X J hs (PySem.W.osa_open (s:={ s with toks:=s.toks+1 }) (r:=none) X J hp ht fun b=>?_);obtain⟨cd,hc,hd'⟩:=PySem.W.any_some hh;have hx:s.heap.get? x=some ⟨.ref C,some dx,.plain,#[]⟩:=I.obj;refine wpAny_bind (wpAny_pure (wpAny_bind (wpAny_bind (wpAny_loadPart hx (wpAny_bind (PySem.W.Looks.here (s:={ s with toks:=s.toks+1 }) (PySem.W.looks_clsIn X hc) ?_))))));rw[hd'];refine wpAny_pure (a:=some dx) (wpAny_bind (wpAny_pure (wpAny_bind ?_)));refine wpAny_nsSet1 (s:={ s with toks:=s.toks+1 }) I.ns fun h' hn2 hs2=>?_;obtain⟨oD,esD,epD,hoD,hdD,hcD⟩:=hn2.count (PySem.Within.cons name v hw);refine wpAny_bind (wpAny_lookBehind hoD (by rw[hdD];exact pastItsLine_dict (Nat.le_trans hcD (by rw[List.length_cons];lia))) ?_);exact wpAny_pure (h _ ⟨(hs2.2 _ (Ne.symm I.ne)).trans I.obj,hn2,I.ne⟩ hs2)
theorem ZjT{R:Result->Shared->Prop}{vs:List Value}{kw:List (Str×Value)}(X:K.In s.heap)(hm:PySem.W.makesIn K C=true)
  (hi:PySem.W.findIn K (.ref C) "__init__" = some (some (.ref f))) (hf:PySem.W.typeIn K (.ref f)=some (.type "function"))
  (h:codeAny (model prog w) (A.under (.builtin "type.__call__" ⟨.ref C::vs,kw⟩)) (.call (.ref f) ⟨.ref (s.heap.objs.size+1)::vs,kw⟩) (PySem.W.InitBack (s.heap.objs.size+1) R)
   { s with heap:=(s.heap.push PySem.W.emptyDict).push (PySem.W.instObj C s.heap.objs.size) }) :
  codeAny (model prog w) A (.call (.ref C) ⟨vs,kw⟩) R s:=by
 obtain⟨hh,g,d,t,os⟩:=s;exact PySem.W.make_core (PySem.W.makes_of X hm) (PySem.W.looks_findIn X hi) (fun self=>PySem.W.bind_fn X self hf) (.inl rfl) h
theorem Zjv{R:Result->Shared->Prop}(X:K.In s.heap)(hm:PySem.W.makesIn K C=true)
  (hi:PySem.W.findIn K (.ref C) "__init__" = some (some (.builtin "object.__init__")))
  (hb:∀self,PySem.W.Looks (model prog w) s.heap (bindSpecial (.builtin "object.__init__") self) (.builtin "object.__init__",[self]))
  (h:codeAny (model prog w) (A.under (.builtin "type.__call__" ⟨[.ref C],[]⟩)) (.call (.builtin "object.__init__") ⟨[.ref (s.heap.objs.size+1)],[]⟩) (PySem.W.InitBack (s.heap.objs.size+1) R)
   { s with heap:=(s.heap.push PySem.W.emptyDict).push (PySem.W.instObj C s.heap.objs.size) }) :
  codeAny (model prog w) A (.call (.ref C) ⟨[],[]⟩) R s:=by
 obtain⟨hh,g,d,t,os⟩:=s;exact PySem.W.make_core (PySem.W.makes_of X hm) (PySem.W.looks_findIn X hi) hb (.inr ⟨rfl,rfl⟩) h
end
def ZaG(f:Str)(v:V):List (Str×V)->List (Str×V)
 | []=>[(f,v)]
 | (g,x)::r=>if g=f then(g,v)::r else(g,x)::ZaG f v r
theorem ZdP(f g:Str)(v:V):∀fs:List (Str×V),(ZaG f v fs).lookup g=if g=f then some v else fs.lookup g
 | []=>by
  show List.lookup g [(f,v)]=_;by_cases h:g=f
  ·have hb:(g == f)=true:=beq_iff_eq.mpr h;simp only[List.lookup,hb,if_pos h]
  ·have hb:(g == f)=false:=beq_eq_false_iff_ne.mpr h;simp only[List.lookup,hb,if_neg h]
 | (k,x)::r=>by
  have ih:=ZdP f g v r;rw[show ZaG f v ((k,x)::r)=(if k=f then(k,v)::r else(k,x)::ZaG f v r) from rfl]
  by_cases hk:k=f
  ·rw[if_pos hk];by_cases h:g=k
   ·have hb:(g == k)=true:=beq_iff_eq.mpr h;simp only[List.lookup,hb,if_pos (h.trans hk)]
   ·have hb:(g == k)=false:=beq_eq_false_iff_ne.mpr h;simp only[List.lookup,hb,if_neg (fun e:g=f=>h (e.trans hk.symm))]
  ·rw[if_neg hk];by_cases h:g=k
   ·have hb:(g == k)=true:=beq_iff_eq.mpr h;simp only[List.lookup,hb,if_neg (fun e:g=f=>hk (h.symm.trans e))]
   ·have hb:(g == k)=false:=beq_eq_false_iff_ne.mpr h;simp only[List.lookup,hb];exact ih
theorem ZdG(f:Str)(v:V):∀fs:List (Str×V),f∈(ZaG f v fs).map (·.1)/\∀g,g∈fs.map (·.1)->g∈(ZaG f v fs).map (·.1)
 | []=>⟨by simp[ZaG],fun g h=>by simp at h⟩
 | (k,x)::r=>by
  obtain⟨i1,i2⟩:=ZdG f v r;rw[show ZaG f v ((k,x)::r)=(if k=f then(k,v)::r else(k,x)::ZaG f v r) from rfl]
  by_cases hk:k=f
  ·rw[if_pos hk];subst hk;exact⟨by simp,fun g h=>by simpa using h⟩
  ·rw[if_neg hk];refine⟨?_,fun g h=>?_⟩
   ·rw[List.map_cons];exact List.mem_cons_of_mem _ i1
   ·rw[List.map_cons] at h ⊢;rcases List.mem_cons.mp h with e|e
    ·exact List.mem_cons.mpr (.inl e)
    ·exact List.mem_cons_of_mem _ (i2 g e)
theorem ZdB(f:Str)(v:V):∀fs:List (Str×V),(ZaG f v fs).length<=fs.length+1
 | []=>by simp[ZaG]
 | (k,x)::r=>by
  have ih:=ZdB f v r;rw[show ZaG f v ((k,x)::r)=(if k=f then(k,v)::r else(k,x)::ZaG f v r) from rfl]
  by_cases hk:k=f
  ·rw[if_pos hk,List.length_cons,List.length_cons];lia
  ·rw[if_neg hk,List.length_cons,List.length_cons];lia
theorem Zfg.some_of{v:V}{o:Option Value}(r:Zfg (some v) o):∃u,o=some u/\RelV v u:=by
 cases o with
 | none=>exact(show False from r).elim
 | some u=>exact⟨u,rfl,r⟩
theorem Zfg.none_of{o:Option Value}(r:Zfg none o):o=none:=by
 cases o with
 | none=>rfl
 | some u=>exact(show False from r).elim
theorem ZjH{v:V}{u:Value}(r:RelV v u):PySem.W.handedIn u=true:=by
 cases v with
 | non=>cases (show u=Value.none from r);rfl
 | bl b=>cases (show u=Value.bool b from r);rfl
 | int i=>obtain⟨t,e⟩:=(show ∃t,u=Value.int i t from r);cases e;rfl
 | str x=>obtain⟨t,e⟩:=(show ∃t,u=Value.str x t from r);cases e;rfl
 | byt b=>obtain⟨t,e⟩:=(show ∃t,u=Value.bytes b t from r);cases e;rfl
 | flt b=>obtain⟨t,e⟩:=(show ∃t,u=Value.float b t from r);cases e;rfl
 | ref a=>cases (show u=Value.ref a from r);rfl
 | ty n=>cases (show u=Value.type n from r);rfl
section
variable{P:Program}{w:World}{H H':Hp}{h h':Heap}{a C dx:Addr}{fs fs':List (Str×V)}
theorem ZgN(hok:HOk P w H h)(e:H a=some (.ins C dx fs)):∃mA,ObjM h a dx C mA/\(∀f,Zfg (fs.lookup f) (mA f))/\PySem.Within mA (fs.map (·.1))/\fs.length<=1000/\H dx=some (.own a):=by
 obtain⟨d,z,ne,ob,mA,n,r,q⟩:=(show Zaz P w H h a (.ins C dx fs) from hok a _ e);exact⟨mA,⟨ob,n,ne⟩,r,q,z,d⟩
end
structure Cls(K:PySem.W.Frag)(C:Addr):Prop where
 pg:PySem.W.plainGet K C Str.empty=true
 hd:PySem.W.hasDictIn K C=true
 po:PySem.W.plainOver K C=true
 sa:PySem.W.findIn K (.ref C) "__setattr__" = some (some (.builtin "object.__setattr__"))
theorem Cls.get{K:PySem.W.Frag}{C:Addr}(c:Cls K C)(f:Str):PySem.W.plainGet K C f=true:=c.pg
def Zb8(K:PySem.W.Frag)(C:Addr)(f:Str):Prop:=PySem.W.findIn K (.ref C) f=some none
theorem Zb8.taker{K:PySem.W.Frag}{C:Addr}{f:Str}(n:Zb8 K C f):PySem.W.takerIn K C f=some none:=by
 unfold PySem.W.takerIn;rw[show PySem.W.findIn K (.ref C) f=some none from n];rfl
structure Meth(K:PySem.W.Frag)(C:Addr)(m:Str)(f:Addr):Prop where
 at_:PySem.W.findIn K (.ref C) m=some (some (.ref f))
 fn:PySem.W.isFn K (.ref f)=true
 kp:PySem.W.keepIn K (.ref f)=true
section
variable{X:Cx}{pins:List (Addr×Obj)}{σ : St}{H:Hp}{s:Shared}{a C dx:Addr}{fs:List (Str×V)}{f:Str}{v:V}{A:Around}{E:Value->Shared->Prop}
theorem ZeI{b:Bool}{Q:Value->Shared->Prop}(I:Inv X pins σ H s)(e:H a=some (.ins C dx fs))(c:Cls X.K C)(n:Zb8 X.K C f)(l:fs.lookup f=some v)
  (h:∀u s',Inv X pins σ H s'->RelV v u->Q u s'):wpAny (model X.prog X.w) A (getAttr (.ref a) f b) Q E s:=by
 obtain⟨mA,O,r,_,_,_⟩:=ZgN I.hok e;obtain⟨u,hu,ru⟩:=Zfg.some_of (v:=v) (o:=mA f) (by rw[<- l];exact r f);exact Zlv I.kIn O (c.get f) c.hd n hu (ZjH ru) (h u _ (I.tok _) ru)
theorem Zen{m:Str}{g:Addr}{pl:Sem Bool}{Q:Value×List Value->Shared->Prop}(I:Inv X pins σ H s)(e:H a=some (.ins C dx fs))(c:Cls X.K C)(k:Meth X.K C m g)(l:fs.lookup m=none)
  (h:Q (.ref g,[.ref a]) s):wpAny (model X.prog X.w) A (getMethod (.ref a) m pl) Q E s:=by
 obtain⟨mA,O,r,_,_,_⟩:=ZgN I.hok e;have hn:mA m=none:=Zfg.none_of (by rw[<- l];exact r m);exact Zkt I.kIn O (c.get m) k.at_ k.fn hn h
theorem Zex{y:V}{u:Value}{Q:Unit->Shared->Prop}(I:Inv X pins σ H s)(e:H a=some (.ins C dx fs))(c:Cls X.K C)(n:Zb8 X.K C f)(hl:fs.length<1000)(ry:RelV y u)
  (h:∀s',Inv X pins σ (upd H a (.ins C dx (ZaG f y fs))) s'->Q () s'):wpAny (model X.prog X.w) A (setAttr (.ref a) f u) Q E s:=by
 obtain⟨mA,O,r,wi,_,ho⟩:=ZgN I.hok e;have hz:(fs.map (·.1)).length<=sizeLine:=by rw[List.length_map,sizeLine_eq];lia
 refine Zlx I.kIn O c.sa c.po n.taker c.hd wi hz fun h' O' sb=>h _ ?_;have hd:∃o,h'.get? dx=some o:=let ⟨o,_,_,e',_⟩:=O'.ns;⟨o,e'⟩;refine I.write (x:=a) (e:=dx) (by rw[e];exact True.intro) (.inr ho) (fun b q hb z=>(sb.2 b hb).trans z) hd ?_;refine⟨by rw[Zc O.ne];exact ho,?_,O.ne,O'.obj,_,O'.ns,fun g=>?_,fun g hg=>?_⟩
 ·have:=ZdB f y fs;lia
 ·show Zfg ((ZaG f y fs).lookup g) (if g=f then some u else mA g)
  rw[ZdP];by_cases q:g=f
  ·rw[if_pos q,if_pos q];exact ry
  ·rw[if_neg q,if_neg q];exact r g
 ·by_cases q:g=f
  ·rw[q];exact(ZdG f y fs).1
  ·refine(ZdG f y fs).2 g (wi g fun z=>hg ?_);show(if g=f then some u else mA g)=none
   rw[if_neg q];exact z
theorem Inv.made(I:Inv X pins σ H s):Inv X pins σ (upd (upd H s.heap.objs.size (.own (s.heap.objs.size+1))) (s.heap.objs.size+1) (.ins C s.heap.objs.size []))
  { s with heap:=(s.heap.push PySem.W.emptyDict).push (PySem.W.instObj C s.heap.objs.size) }:=by
 have e1:(s.heap.push PySem.W.emptyDict).get? s.heap.objs.size=some PySem.W.emptyDict:=Heap.get?_push_size s.heap rfl;have e2:((s.heap.push PySem.W.emptyDict).push (PySem.W.instObj C s.heap.objs.size)).get? (s.heap.objs.size+1)=some (PySem.W.instObj C s.heap.objs.size):=by
  have:=Heap.get?_push_size (s.heap.push PySem.W.emptyDict) (o:=PySem.W.instObj C s.heap.objs.size) rfl
  rwa [Heap.size_push] at this
 have e3:(s.heap.push PySem.W.emptyDict).Ns s.heap.objs.size (fun _=>none):=⟨PySem.W.emptyDict,#[],_,e1,rfl,(fun e he=>absurd he (by simp)),fun _=>rfl⟩;have I1:=I.laid (a:=s.heap.objs.size) (o:=.own (s.heap.objs.size+1)) (h':=s.heap.push PySem.W.emptyDict) (t':=s.toks) (fun b u q=>Heap.get?_push_of_some _ q) (Nat.le_refl _) ⟨_,e1⟩;refine I1.laid (a:=s.heap.objs.size+1) (o:=.ins C s.heap.objs.size []) (t':=s.toks) (fun b u q=>Heap.get?_push_of_some _ q) (Nat.le_of_eq (Heap.size_push _ _)) ?_;have ne:s.heap.objs.size≠s.heap.objs.size+1:=Nat.ne_of_lt (Nat.lt_succ_self _);refine⟨by rw[Zc ne,Zb],Nat.zero_le _,ne,e2,fun _=>none,(Heap.Ns1.of_empty e3).at fun o q=>Heap.get?_push_of_some _ q,fun _=>True.intro,fun y hy=>absurd rfl hy⟩
theorem Zlb{prog:Program}{w:World}{env:Env}{e:Expr}{f:Str}{pos:Pos}{s:Shared}{Q:Value->Shared->Prop}(hb:attributeBase e f env (eval e env)=eval e env)
  (h:wpAny (model prog w) A (eval e env) (fun o s₁=>wpAny (model prog w) A (getAttr o f true) Q E s₁) E s):wpAny (model prog w) A (eval (.Attribute e f pos) env) Q E s :=
 Attribute_any_ h (by rw[arm_eval_Attribute,hb])
end
def ZnC(K:PySem.W.Frag)(ta:TE)(f:Str):TE:=fun σ H Q=>ta σ H fun x H1=>∃a C dx fs v,x=.ref a/\H1 a=some (.ins C dx fs)/\Cls K C/\Zb8 K C f/\fs.lookup f=some v/\Q v H1
def ZnF(K:PySem.W.Frag)(ta tv:TE)(f:Str):TS:=fun D σ H=>tv σ H fun y H1=>ta σ H1 fun x H2=>∃a C dx fs,x=.ref a/\H2 a=some (.ins C dx fs)/\Cls K C/\Zb8 K C f/\fs.length<1000 /\
 D.nx σ (upd H2 a (.ins C dx (ZaG f y fs)))
def Zng(X:Cx)(op:Operator)(rd:V->V->Hp->VK->Prop):Prop :=
 ∀(pins:List (Addr×Obj))(s:Shared)(σ : St)(H:Hp)(x y:V)(u v:Value)(Q:VK),Inv X pins σ H s->RelV x u->RelV y v->rd x y H Q->wpAny (model X.prog X.w) X.A (inplaceOp op u v) (EP X pins σ Q) X.xe s
def Zlg(K:PySem.W.Frag)(ta tv:TE)(rd:V->V->Hp->VK->Prop)(f:Str):TS:=fun D σ H=>ta σ H fun x H1=>∃a C dx fs v,x=.ref a/\H1 a=some (.ins C dx fs)/\Cls K C/\Zb8 K C f/\fs.lookup f=some v /\
 tv σ H1 fun y H2=>rd v y H2 fun z H3=>∃dx' fs',H3 a=some (.ins C dx' fs')/\fs'.length<1000/\D.nx σ (upd H3 a (.ins C dx' (ZaG f z fs')))
section
variable{X:Cx}{o e value:Expr}{f:Str}{pos pos' tpos:Pos}{ta tv:TE}
theorem Zcv(he:PE X e ta)(hb:attributeBase e f X.env (eval e X.env)=eval e X.env):PE X (.Attribute e f pos) (ZnC X.K ta f):=by
 intro pins s σ H Q I h;refine Zlb hb (thn (he pins s σ H _ I h) fun u s1 ⟨x,H1,I1,rx,a,C,dx,fs,v,ex,ea,c,n,l,q⟩=>?_);subst ex;obtain rfl:u=Value.ref a:=rx;exact ZeI I1 ea c n l fun u' s2 I2 ru=>⟨v,H1,I2,ru,q⟩
theorem Ziv(ha:PE X o ta)(hv:PE X value tv)(hs:swapsWith value (some (.Attribute o f pos')) pos.line X.env=pure false):PS X (.Assign [.Attribute o f pos'] value pos) (ZnF X.K ta tv f):=by
 intro pins s σ H D I h;refine plainObj_wpAny_Assign_Attribute (thn (hv pins s σ H _ I h) fun u s1 ⟨y,H1,I1,ry,q⟩=>thn (ha pins s1 σ H1 _ I1 q) fun ov s2 ⟨x,H2,I2,rx,a,C,dx,fs,ex,ea,c,n,l,q2⟩=>?_) hs;subst ex;obtain rfl:ov=Value.ref a:=rx;exact Zex I2 ea c n l ry fun s3 I3=>⟨σ,_,I3,q2⟩
theorem Zfv{op:Operator}{rd:V->V->Hp->VK->Prop}(ha:PE X o ta)(hv:PE X value tv)(hop:Zng X op rd):PS X (.AugAssign (.Attribute o f tpos) op value pos) (Zlg X.K ta tv rd f):=by
 intro pins s σ H D I h;refine wpAny_AugAssign_AttributeAny (thn (ha pins s σ H _ I h) fun ov s1 ⟨x,H1,I1,rx,a,C,dx,fs,v,ex,ea,c,n,l,q⟩=>?_);subst ex;obtain rfl:ov=Value.ref a:=rx;refine ZeI I1 ea c n l fun u s2 I2 ru=>thn (hv pins s2 σ H1 _ I2 q) fun w3 s3 ⟨y,H2,I3,ry,q3⟩=>thn (hop pins s3 σ H2 v y u w3 _ I3 ru ry q3) fun w4 s4 ⟨z,H3,I4,rz,dx',fs',ea',l',q4⟩=>?_;exact Zex I4 ea' c n l' rz fun s5 I5=>⟨σ,_,I5,q4⟩
def ZnB:V->V->Hp->VK->Prop:=fun x y H Q=>∃i j,x=.int i/\y=.int j/\Q (.int (i+j)) H
theorem ZkT:Zng X .Add ZnB:=by
 rintro pins s σ H x y u v Q I rx ry ⟨i,j,rfl,rfl,q⟩;obtain⟨t,rfl⟩:=(show ∃t,u=Value.int i t from rx);obtain⟨t',rfl⟩:=(show ∃t',v=Value.int j t' from ry);exact PyProof.Rows.iadd_int ⟨.int (i+j),H,I.tok _,⟨_,rfl⟩,q⟩
end
structure Room(k:Nat)(A:Around):Prop where
 hd:A.handled=none
 dp:A.depth+2*k+5<recursionLimit
 un:A.units+16*k+200<cLine
theorem Room.mono{j k:Nat}{A:Around}(r:Room k A)(h:j<=k):Room j A:=⟨r.hd,by have:=r.dp;lia,by have:=r.un;lia⟩
theorem Room.deeper{k:Nat}{A:Around}(r:Room (k+1) A)(env:Env):Room k (A.deeper env) :=
 ⟨r.hd,by have:=r.dp;show A.depth+1+2*k+5<_;lia,by have:=r.un;show A.units+3+16*k+200<_;lia⟩
theorem ZhI{A:Around}{C:Addr}{us:List Value}{kw:List (Str×Value)}:(A.under (.builtin "type.__call__" ⟨.ref C::us,kw⟩)).depth=A.depth+1:=by
 first|rfl|simp[Around.under,Code.weight,Code.isCreation,Code.isGuard,Code.isCaller,Code.frames,Code.isFrame,guardIds]
theorem Zh9{A:Around}{C:Addr}{us:List Value}{kw:List (Str×Value)}:(A.under (.builtin "type.__call__" ⟨.ref C::us,kw⟩)).units=A.units+1:=by
 first|rfl|simp[Around.under,Code.cUnits,Code.frames,Code.isFrame]
theorem Room.make{k:Nat}{A:Around}(r:Room (k+1) A)(C:Addr)(us:List Value)(kw:List (Str×Value)):Room k (A.under (.builtin "type.__call__" ⟨.ref C::us,kw⟩)) :=
 ⟨r.hd,by have:=r.dp;rw[ZhI];lia,by have:=r.un;rw[Zh9];lia⟩
theorem Room.depth{k:Nat}{A:Around}(r:Room k A):A.depth<recursionLimit:=by have:=r.dp;lia
def ZmE:TA:=fun _ H Q=>Q [] H
def Zmg(ta:TE)(tr:TA):TA:=fun σ H Q=>ta σ H fun x H1=>tr σ H1 fun xs H2=>Q (x::xs) H2
section
variable{X:Cx}{e:Expr}{es:List Expr}{te:TE}{t:TA}{pos:Pos}
theorem Ze:PA X [] ZmE:=fun _ _ _ _ H Q I h=>Calls.spliced_nil ⟨[],H,I,.nil,h⟩
theorem Za(ha:PE X e te)(hr:PA X es t)(hs:starEach (e::es) X.env=(false,eval e X.env)::starEach es X.env:=by rfl):PA X (e::es) (Zmg te t):=by
 intro pos pins s σ H Q I h;rw[hs];show wpAny _ _ (spliced ((false,eval e X.env)::backTo pos (starEach es X.env))) _ _ s;refine Calls.spliced_cons (thn (ha pins s σ H _ I h) fun u s1 ⟨x,H1,I1,r1,q1⟩=>?_);exact thn (hr pos pins s1 σ H1 _ I1 q1) fun us s2 ⟨xs,H2,I2,r2,q2⟩=>⟨x::xs,H2,I2,.cons r1 r2,q2⟩
def Znu(t:TA):TE:=fun σ H Q=>t σ H fun xs H1=>xs.length<=sizeLine/\∀p,H1 p=none->Q (.ref p) (upd H1 p (.tup xs))
def ZnN(t:TA):TE:=fun σ H Q=>t σ H fun xs H1=>xs.length<=sizeLine/\∀p,H1 p=none->Q (.ref p) (upd H1 p (.lst xs))
theorem Z1{x1}(h:PA X es t):PE X (.Tuple es x1 pos) (Znu t):=by
 intro pins s σ H Q I hq;refine wpAny_Tuple_spliced (thn (h pos pins s σ H _ I hq) fun us s1 ⟨xs,H1,I1,r,z,q⟩=>⟨by rw[<- r.length];exact z,?_⟩);have hf:H1 s1.heap.objs.size=none:=I1.hok.fresh (Nat.le_refl _);refine⟨.ref s1.heap.objs.size,upd H1 s1.heap.objs.size (.tup xs),I1.laid (t':=s1.toks) (fun b u e=>Heap.get?_push_of_some _ e) (Nat.le_refl _) ?_,rfl,q _ hf⟩;exact⟨z,us,r,⟨_,Heap.get?_push_size _ rfl,rfl,_,rfl⟩⟩
theorem Zaa(h:PA X es t):PE X (.List es pos) (ZnN t):=by
 intro pins s σ H Q I hq;refine wpAny_List_spliced (thn (h pos pins s σ H _ I hq) fun us s1 ⟨xs,H1,I1,r,z,q⟩=>⟨by rw[<- r.length];exact z,?_⟩);have hf:H1 s1.heap.objs.size=none:=I1.hok.fresh (Nat.le_refl _);refine⟨.ref s1.heap.objs.size,upd H1 s1.heap.objs.size (.lst xs),I1.laid (t':=s1.toks) (fun b u e=>Heap.get?_push_of_some _ e) (Nat.le_refl _) ?_,rfl,q _ hf⟩;exact⟨z,us,0,r,Heap.get?_push_size _ rfl⟩
end
abbrev Sp:=List V->Hp->VK->XK->Prop
abbrev CXT:=List Env->Hp->Shared->XK->Value->Shared->Prop
structure Env0(P:Program)(w:World)(K:PySem.W.Frag)(mg:Str->Option Value)(base:Heap)(A:Around)(outer:List Env)(s:Shared)(H:Hp):Prop where
 frames:A.frames=some outer
 mod:Mod K mg base
 bs:∀b o,base.get? b=some o->s.heap.get? b=some o/\H b=none
 bsz:base.objs.size<=s.heap.objs.size
 funs:s.heap.FunFrames base outer
 frf:∀b∈frs outer,H b=none
 hok:HOk P w H s.heap
 bare:AllBare s.gens
def CE(outer:List Env)(P:Program)(w:World)(H:Hp)(s:Shared)(Q:VK)(u:Value)(s':Shared):Prop :=
 ∃v H',s'.os=s.os/\AllBare s'.gens/\Un (frs outer) [] H H' s.heap s'.heap/\HOk P w H' s'.heap/\RelV v u/\Q v H'
def CR(CX:CXT)(outer:List Env)(P:Program)(w:World)(H:Hp)(s:Shared)(Q:VK)(E:XK)(r:Result)(s':Shared):Prop :=
 match r with
 | .ok (.ret u)=>CE outer P w H s Q u s'
 | .ok _=>False
 | .error e=>CX outer H s E e s'
structure FnOk(P:Program)(w:World)(K:PySem.W.Frag)(mg:Str->Option Value)(base:Heap)(CX:CXT)(k:Nat)(f:Addr)(fd:FuncData)(ps:List Str)(sp:Sp):Prop where
 len:∀vs H Q E,sp vs H Q E->vs.length=ps.length
 run:∀(A:Around)(outer:List Env)(s:Shared)(H:Hp)(args:Args)(us:List Value)(vs:List V)(Q:VK)(E:XK),Room k A->Env0 P w K mg base A outer s H->BindsTo s fd args (ps.zip us)->Vals vs us->sp vs H Q E ->
  codeAny (model P w) A (.call (.ref f) args) (CR CX outer P w H s Q E) s
theorem Env0.make{P:Program}{w:World}{K:PySem.W.Frag}{mg:Str->Option Value}{base:Heap}{A:Around}{outer:List Env}{s:Shared}{H:Hp}(e:Env0 P w K mg base A outer s H)(C:Addr)(us:List Value)(kw:List (Str×Value)) :
  Env0 P w K mg base (A.under (.builtin "type.__call__" ⟨.ref C::us,kw⟩)) outer s H:=⟨by first|exact e.frames|(simpa[Around.under,Code.envs,Code.isFrame,pushEnvs] using e.frames),e.mod,e.bs,e.bsz,e.funs,e.frf,e.hok,e.bare⟩
section
variable{X:Cx}{pins:List (Addr×Obj)}{σ : St}{H:Hp}{s s':Shared}
theorem Inv.env0(I:Inv X pins σ H s):Env0 X.prog X.w X.K X.mg X.base X.A X.stack s H :=
 ⟨I.ok.frames,I.ok.mod,I.bs,Nat.le_trans I.ok.bsz I.sz,I.stack,I.stkFree,I.hok,I.bare⟩
theorem Inv.after{Q:VK}{u:Value}(I:Inv X pins σ H s)(h:CE X.stack X.prog X.w H s Q u s'):EP X pins σ Q u s':=by
 obtain⟨v,H',os,bare,un,hok,r,q⟩:=h;obtain⟨hh,g,d,t,os'⟩:=s';obtain rfl:os'=s.os:=os;exact⟨v,H',I.call (h':=hh) (g':=g) (d':=d) (t':=t) (ch:=[]) un hok bare (fun b z=>absurd z (by simp)),r,q⟩
end
def Zlp(sp:Sp)(dvs:List V)(E:XK)(t:TA):TE:=fun σ H Q=>t σ H fun vs H1=>sp (vs++dvs) H1 Q E
def Zkp(C:Addr)(m:Str)(sp:Sp)(dvs:List V)(E:XK)(ta:TE)(t:TA):TE:=fun σ H Q=>ta σ H fun x H1=>∃a dx fs,x=.ref a/\H1 a=some (.ins C dx fs)/\fs.lookup m=none /\
 t σ H1 fun vs H2=>sp (x::(vs++dvs)) H2 Q E
def ZmC(C:Addr)(sp:Sp)(dvs:List V)(E:XK)(t:TA):TE:=fun σ H Q=>t σ H fun vs H1=>∀x dx,H1 x=none->H1 dx=none->dx≠x ->
 sp (.ref x::(vs++dvs)) (upd (upd H1 dx (.own x)) x (.ins C dx [])) (fun v H2=>v=.non/\Q (.ref x) H2) E
def Binds(K:PySem.W.Frag)(fd:FuncData)(ps:List Str)(ds:List Value):Prop :=
 ∀(s:Shared)(us:List Value),K.In s.heap->(us++ds).length=ps.length->BindsTo s fd ⟨us,[]⟩ (ps.zip (us++ds))
theorem Binds.all{K:PySem.W.Frag}{fd:FuncData}{ps:List Str}(h:∀us:List Value,us.length=ps.length->bindArgs fd ⟨us,[]⟩=pure (ps.zip us)):Binds K fd ps []:=fun s us _ hl=>by
 rw[List.append_nil] at hl ⊢;exact .of_eq (h us hl)
def Zd9(CX:CXT)(X:Cx)(E:XK):Prop := ∀(pins:List (Addr×Obj))(σ : St)(H:Hp)(s:Shared)(e:Value)(s':Shared),Inv X pins σ H s->CX X.stack H s E e s'->X.xe e s'
section
variable{X:Cx}{CX:CXT}{k:Nat}{f C:Addr}{fd:FuncData}{ps:List Str}{sp:Sp}{dvs:List V}{ds:List Value}{E:XK}{x m:Str}{p pos apos:Pos}{e o:Expr}{es:List Expr}{ta:TE}{t:TA}
theorem Zio{pins:List (Addr×Obj)}{σ : St}{H:Hp}{s:Shared}{Q:VK}{us:List Value}{vs:List V}(F:FnOk X.prog X.w X.K X.mg X.base CX k f fd ps sp)(hr:Room k X.A)(hb:Binds X.K fd ps ds)(hd:Vals dvs ds)(hx:Zd9 CX X E)
  (I:Inv X pins σ H s) (r:Vals vs us) (h:sp (vs++dvs) H Q E):wpAny (model X.prog X.w) X.A (call (.ref f) us) (EP X pins σ Q) X.xe s:=by
 have r2:Vals (vs++dvs) (us++ds):=r.append hd;have hl:(us++ds).length=ps.length:=by rw[<- r2.length];exact F.len _ _ _ _ h
 refine wpAny_call (codeAny_mono (F.run X.A X.stack s H ⟨us,[]⟩ (us++ds) (vs++dvs) Q E hr I.env0 (hb s us I.kIn hl) r2 h) fun r s' hq=>?_);cases r with
 | error e=>exact hx pins σ H s e s' I hq
 | ok fl =>
  cases fl with
  | ret u=>exact I.after hq
  | next=>exact False.elim hq
  | brk=>exact False.elim hq
  | cont=>exact False.elim hq
theorem Zix(F:FnOk X.prog X.w X.K X.mg X.base CX k f fd ps sp)(hr:Room k X.A)(hg:Gl X x)(hm:X.mg x=some (.ref f))(hk:PySem.W.keepIn X.K (.ref f)=true)(hb:Binds X.K fd ps ds)(hd:Vals dvs ds)(hx:Zd9 CX X E)
  (ha:PA X (e::es) t) (hdb:(x == ("__debug__" : Str))=false:=by decide) (he:starEach (e::es) X.env=(false,eval e X.env)::starEach es X.env:=by rfl) (hpl:(backTo pos (starEach es X.env)).any (·.1)=false:=by rfl) :
  PE X (.Call (.Name x p) (e::es) [] pos) (Zlp sp dvs E t):=by
 intro pins s σ H Q I h;refine wpAny_Call_Name_kw (ZeY I hg hm ?_ hdb);refine PySem.W.callWith_K (h₀ := X.base) I.ok.mod.kin hk (thn (ha pos pins s σ H _ I h) fun us s1 ⟨vs,H1,I1,r,q⟩=>⟨I1.kIn,?_⟩) he hpl;exact Zio F hr hb hd hx I1 r q
theorem Zk9{pl:Sem Bool}(he:PE X o ta)(c:Cls X.K C)(hm:Meth X.K C m f)(F:FnOk X.prog X.w X.K X.mg X.base CX k f fd ps sp)(hr:Room k X.A)(hb:Binds X.K fd ps ds)(hd:Vals dvs ds)(hx:Zd9 CX X E)(ha:PA X (e::es) t)
  (hst:starEach (e::es) X.env=(false,eval e X.env)::starEach es X.env:=by rfl) (hpl:(backTo pos (starEach es X.env)).any (·.1)=false:=by rfl)
  (ht:eval (.Call (.Attribute o m apos) (e::es) [] pos) X.env=(do
   let ov <- eval o X.env
   standAt apos.atName
   let (f,first) <- holding [ov] (getMethod ov m pl)
   callWith pos f first (backTo pos (starEach (e::es) X.env)) (backToKw pos (keywordEach [] X.env))):=by rfl) :
  PE X (.Call (.Attribute o m apos) (e::es) [] pos) (Zkp C m sp dvs E ta t):=by
 intro pins s σ H Q I h;refine PySem.W.methodCall_KW (pl:=pl) (thn (he pins s σ H _ I h) fun u s1 ⟨x,H1,I1,rx,a,dx,fs,ex,ea,l,q⟩=>?_) ht;subst ex;obtain rfl:u=Value.ref a:=rx;refine Zen I1 ea c hm l ?_;refine PySem.W.callWith_K (first:=[.ref a]) (h₀ := X.base) I.ok.mod.kin hm.kp (thn (ha pos pins s1 σ H1 _ I1 q) fun us s2 ⟨vs,H2,I2,r,q2⟩=>⟨I2.kIn,?_⟩) hst hpl
 exact Zio (us:=.ref a::us) (vs:=.ref a::vs) F hr hb hd hx I2 (.cons rfl r) q2
theorem ZjQ{pl:Sem Bool}(he:PE X o ta)(c:Cls X.K C)(hm:Meth X.K C m f)(F:FnOk X.prog X.w X.K X.mg X.base CX k f fd ps sp)(hr:Room k X.A)(hb:Binds X.K fd ps ds)(hd:Vals dvs ds)(hx:Zd9 CX X E)
  (ht:eval (.Call (.Attribute o m apos) [] [] pos) X.env=(do
   let ov <- eval o X.env
   standAt apos.atName
   let (f,first) <- holding [ov] (getMethod ov m pl)
   callWith pos f first (backTo pos (starEach [] X.env)) (backToKw pos (keywordEach [] X.env))):=by rfl) :
  PE X (.Call (.Attribute o m apos) [] [] pos) (Zkp C m sp dvs E ta ZmE):=by
 intro pins s σ H Q I h;refine PySem.W.methodCall_KW (pl:=pl) (thn (he pins s σ H _ I h) fun u s1 ⟨x,H1,I1,rx,a,dx,fs,ex,ea,l,q⟩=>?_) ht;subst ex;obtain rfl:u=Value.ref a:=rx;refine Zen I1 ea c hm l ?_;exact PySem.W.callWith_K0 (first:=[.ref a]) I1.kIn hm.kp (Zio (us:=[.ref a]) (vs:=[.ref a]) F hr hb hd hx I1 (.cons rfl .nil) q)
structure Mk(K:PySem.W.Frag)(C f:Addr):Prop where
 makes:PySem.W.makesIn K C=true
 init:PySem.W.findIn K (.ref C) "__init__" = some (some (.ref f))
 fn:PySem.W.isFn K (.ref f)=true
 kp:PySem.W.keepIn K (.ref C)=true
theorem Zj2{pins:List (Addr×Obj)}{σ : St}{H:Hp}{s:Shared}{Q:VK}{us:List Value}{vs:List V}(M:Mk X.K C f)(F:FnOk X.prog X.w X.K X.mg X.base CX k f fd ps sp)(hr:Room (k+1) X.A)(hb:Binds X.K fd ps ds)(hd:Vals dvs ds)
  (hx:Zd9 CX X E) (I:Inv X pins σ H s) (r:Vals vs us)
  (h:∀x dx,H x=none->H dx=none->dx≠x->sp (.ref x::(vs++dvs)) (upd (upd H dx (.own x)) x (.ins C dx [])) (fun v H2=>v=.non/\Q (.ref x) H2) E) :
  wpAny (model X.prog X.w) X.A (call (.ref C) us) (EP X pins σ Q) X.xe s:=by
 have hq:=h (s.heap.objs.size+1) s.heap.objs.size (I.hok.fresh (Nat.le_succ _)) (I.hok.fresh (Nat.le_refl _)) (Nat.ne_of_lt (Nat.lt_succ_self _));have I2:=Inv.made (C:=C) I;have r2:Vals (V.ref (s.heap.objs.size+1)::(vs++dvs)) (Value.ref (s.heap.objs.size+1)::(us++ds)):=.cons rfl (r.append hd);have hl:(Value.ref (s.heap.objs.size+1)::us++ds).length=ps.length:=by
  have e:=r2.length;rw[F.len _ _ _ _ hq] at e;exact e.symm
 refine wpAny_call (ZjT (f:=f) I.kIn M.makes M.init (beq_iff_eq.mp M.fn) (codeAny_mono (F.run _ X.stack _ _ ⟨Value.ref (s.heap.objs.size+1)::us,[]⟩ (Value.ref (s.heap.objs.size+1)::(us++ds)) _ _ E (hr.make C us [])
  (I2.env0.make C us []) (hb _ (Value.ref (s.heap.objs.size+1)::us) I2.kIn hl) r2 hq) fun r s' hq'=>?_))
 cases r with
 | error e=>exact hx pins σ _ _ e s' I2 hq'
 | ok fl =>
  cases fl with
  | ret u =>
   obtain⟨v,H',I3,rv,ev,q3⟩:=I2.after hq';subst ev;exact⟨rv,⟨V.ref (s.heap.objs.size+1),H',I3,rfl,q3⟩⟩
  | next=>exact False.elim hq'
  | brk=>exact False.elim hq'
  | cont=>exact False.elim hq'
theorem ZlL(M:Mk X.K C f)(F:FnOk X.prog X.w X.K X.mg X.base CX k f fd ps sp)(hr:Room (k+1) X.A)(hg:Gl X x)(hm:X.mg x=some (.ref C))(hb:Binds X.K fd ps ds)(hd:Vals dvs ds)(hx:Zd9 CX X E)
  (ha:PA X (e::es) t) (hdb:(x == ("__debug__" : Str))=false:=by decide) (he:starEach (e::es) X.env=(false,eval e X.env)::starEach es X.env:=by rfl) (hpl:(backTo pos (starEach es X.env)).any (·.1)=false:=by rfl) :
  PE X (.Call (.Name x p) (e::es) [] pos) (ZmC C sp dvs E t):=by
 intro pins s σ H Q I h;refine wpAny_Call_Name_kw (ZeY I hg hm ?_ hdb);refine PySem.W.callWith_K (h₀ := X.base) I.ok.mod.kin M.kp (thn (ha pos pins s σ H _ I h) fun us s1 ⟨vs,H1,I1,r,q⟩=>⟨I1.kIn,?_⟩) he hpl;exact Zj2 M F hr hb hd hx I1 r q
end
structure FnScope(N P:List Str)(sc:Scope):Prop where
 kind:sc.kind=.function
 co:sc.isCoroutine=false
 gen:sc.isGenerator=false
 nd:N.Nodup
 pre:N.take P.length=P
 par:∀x∈P,sc.names.lookup x=some .local\/sc.names.lookup x=some .cell
 ZfC:∀y∈sc.names,y.2 ≠ .free
theorem Zfy{kindOf:Str->Option NameKind}{x:Str}:∀{binds:List (Str×Value)}{m:Str->Option Value},(∀v,(x,v)∉binds)->bindL kindOf binds m x=m x
 | [],_,_=>rfl
 | (n,v)::r,m,h=>by
  unfold bindL;rw[Zfy fun w hw=>h w (List.mem_cons_of_mem _ hw)]
  split
  ·have:x≠n:=by rintro rfl;exact h v List.mem_cons_self
   simp[this]
  ·rfl
theorem ZfM{kindOf:Str->Option NameKind}{x:Str}:∀{binds:List (Str×Value)}{m:Str->Option Value},(∀v,(x,v)∉binds)->bindC kindOf binds m x=m x
 | [],_,_=>rfl
 | (n,v)::r,m,h=>by
  unfold bindC;rw[ZfM fun w hw=>h w (List.mem_cons_of_mem _ hw)]
  split
  ·rfl
  ·have:x≠n:=by rintro rfl;exact h v List.mem_cons_self
   simp[this]
theorem ZfZ{kindOf:Str->Option NameKind}{x:Str}{v:Value}:∀{P:List Str}{vs:List Value}{i:Nat}{m:Str->Option Value},P.Nodup->P[i]?= some x->vs[i]?= some v->kindOf x=some .local ->
  bindL kindOf (P.zip vs) m x=some v
 | [],_,_,_,_,h,_,_=>by simp at h
 | _::_,[],_,_,_,_,h,_=>by simp at h
 | p::P,w::vs,0,m,nd,h1,h2,hk=>by
  simp at h1 h2;subst h1;subst h2;show bindL kindOf ((p,w)::P.zip vs) m p=_;unfold bindL;rw[Zfy fun v hv=>(List.nodup_cons.mp nd).1 (List.of_mem_zip hv).1,if_pos hk];simp
 | p::P,w::vs,i+1,m,nd,h1,h2,hk=>by
  show bindL kindOf ((p,w)::P.zip vs) m x=_;unfold bindL;exact ZfZ (i:=i) (List.nodup_cons.mp nd).2 (by simpa using h1) (by simpa using h2) hk
theorem Zfs{kindOf:Str->Option NameKind}{x:Str}{v:Value}:∀{P:List Str}{vs:List Value}{i:Nat}{m:Str->Option Value},P.Nodup->P[i]?= some x->vs[i]?= some v->kindOf x≠some .local ->
  bindC kindOf (P.zip vs) m x=some v
 | [],_,_,_,_,h,_,_=>by simp at h
 | _::_,[],_,_,_,_,h,_=>by simp at h
 | p::P,w::vs,0,m,nd,h1,h2,hk=>by
  simp at h1 h2;subst h1;subst h2;show bindC kindOf ((p,w)::P.zip vs) m p=_;unfold bindC;rw[ZfM fun v hv=>(List.nodup_cons.mp nd).1 (List.of_mem_zip hv).1,if_neg hk];simp
 | p::P,w::vs,i+1,m,nd,h1,h2,hk=>by
  show bindC kindOf ((p,w)::P.zip vs) m x=_;unfold bindC;exact Zfs (i:=i) (List.nodup_cons.mp nd).2 (by simpa using h1) (by simpa using h2) hk
def start(N:List Str)(vs:List V):St:=vs.map some++List.replicate (N.length-vs.length) none
def Zlw(CX:CXT)(P:Program)(w:World)(K:PySem.W.Frag)(mg:Str->Option Value)(base:Heap)(N:List Str)(qual:Str)(scope:Scope)(f:Addr)(cd:Value)(A:Around)(outer:List Env)(s:Shared)(H:Hp)(E:XK):Cx where
 prog:=P
 w:=w
 K:=K
 mg:=mg
 base:=base
 A:=A.deeper (envOfC qual scope s.heap.objs.size f cd)
 N:=N
 s₀ := s
 H₀ := H
 env:=envOfC qual scope s.heap.objs.size f cd
 outer:=outer
 stack:=envOfC qual scope s.heap.objs.size f cd::outer
 ex:=[]
 calm:=true
 fn:=fun _=>true
 pn:=[]
 xe:=fun e s'=>wpAny (model P w) (A.deeper (envOfC qual scope s.heap.objs.size f cd)) (leaving (envOfC qual scope s.heap.objs.size f cd) e) (fun _ s''=>CX outer H s E e s'') (fun e' s''=>CX outer H s E e' s'') s'
theorem Zho{sc:Scope}{n:Nat}{x:Str}(h:sc.names.lookup x=some .cell):∃c,(cellsFrom n sc.names []).lookup x=some c:=by
 have q:=PySem.W.cellsFrom_some sc.names n [] (.inl h);exact Option.isSome_iff_exists.mp q
theorem Zjf{CX:CXT}{P:Program}{w:World}{K:PySem.W.Frag}{mg:Str->Option Value}{base:Heap}{N ps:List Str}{qual:Str}{scope:Scope}{f:Addr}{cd:Value}{A:Around}{outer:List Env}{s s1:Shared}{H:Hp}{E:XK}{us:List Value}{vs:List V}
  (S:FnScope N ps scope) (hd:A.handled=none) (e0:Env0 P w K mg base A outer s H) (hl:vs.length=ps.length) (r:Vals vs us)
  (x:InCallC s s.heap.objs.size (bindL (envOfC qual scope s.heap.objs.size f cd).kindOf (ps.zip us) fun _=>none) (cellsFrom (s.heap.objs.size+1) scope.names []) (bindC (envOfC qual scope s.heap.objs.size f cd).kindOf (ps.zip us) fun _=>none) s1) :
  Inv (Zlw CX P w K mg base N qual scope f cd A outer s H E) [] (start N vs) H s1:=by
 have hpl:ps.length<=N.length:=by have:=congrArg List.length S.pre;rw[List.length_take] at this;lia
 obtain⟨h1,tk,rfl,hk⟩:=x.done;have noA:∀b:Addr,b∉(Zlw CX P w K mg base N qual scope f cd A outer s H E).ex:=fun b z=>absurd (show b∈([]:List Addr) from z) (by simp);refine⟨⟨e0.mod,S.kind,rfl,rfl,Nat.le_refl _,fun y z c h1 h2=>?_,fun y hy=>?_,fun y c _ h=>?_,fun _=>hd,Around.frames_deeper e0.frames,.inr ⟨rfl,rfl⟩,fun b z=>absurd z (noA b),e0.bs,e0.bsz,fun b _ _=>noA b,fun b z=>absurd z (noA b),e0.funs,e0.frf⟩,
  rfl,e0.bare,Un.kept hk,⟨_,x.toInCall.ns,fun i y v h1 h2 h3=>?_⟩,fun y c h=>⟨_,x.cell y c h⟩,e0.hok.fresh (Nat.le_refl _),fun y c h=>?_,fun p hp=>absurd (show p∈([]:List (Addr×Obj)) from hp) (by simp),e0.hok.kept hk,?_⟩
 ·exact name_of_addr x.apart (PySem.mem_of_lookup h1) (PySem.mem_of_lookup h2)
 ·have hy:scope.names.lookup y=some .cell\/scope.names.lookup y=some .free:=hy;rcases hy with hy|hy
  ·exact Zho hy
  ·exact absurd rfl (S.ZfC _ (PySem.mem_of_lookup hy))
 ·exact Nat.le_of_lt (x.above y c (PySem.mem_of_lookup h))
 ·have hi:i<vs.length:=by
   unfold start at h2;by_cases hi:i<vs.length
   ·exact hi
   ·rw[List.getElem?_append_right (by simpa using hi)] at h2;rw[List.getElem?_replicate] at h2
    split at h2 <;> cases h2
  have ha:vs[i]?= some v:=by
   unfold start at h2;rw[List.getElem?_append_left (by simpa using hi),List.getElem?_map] at h2;cases e:vs[i]? with
   | none=>rw[e] at h2;cases h2
   | some a=>rw[e] at h2;cases h2;rfl
  obtain⟨u,hu,rv⟩:=r.get ha;have hp:ps[i]?= some y:=by
   rw[<- S.pre,List.getElem?_take_of_lt (by lia)];exact h1
  have ndP:ps.Nodup:=by rw[<- S.pre];exact S.nd.sublist (List.take_sublist _ _)
  refine⟨u,rv,?_⟩;rcases S.par y (List.mem_of_getElem? hp) with k|k
  ·exact .inl ⟨k,ZfZ ndP hp hu k⟩
  ·obtain⟨c,e⟩:=Zho (n:=s.heap.objs.size+1) k;refine .inr ⟨.inl k,c,e,?_⟩;have q:=x.cell y c e;rw[Zfs ndP hp hu (by show scope.names.lookup y≠_;rw[k];decide)] at q;exact q
 ·exact e0.hok.fresh (Nat.le_of_lt (x.above y c (PySem.mem_of_lookup h)))
 ·unfold start;show _=N.length;rw[List.length_append,List.length_map,List.length_replicate];lia
theorem ZlZ{CX:CXT}{P:Program}{w:World}{K:PySem.W.Frag}{mg:Str->Option Value}{base:Heap}{k:Nat}{f:Addr}{name qual:Str}{params:Arguments}{body:List Stmt}{scope:Scope}{dV kV doc pm cdv ct oc:Value}{an od:Option Addr}
  {osl:Array (Option Value)} {N ps:List Str} {sp:Sp} (lk:K.lookup f=some ⟨oc,od,.func (PySem.W.fnOf name qual params body scope dV kV doc pm an cdv ct),osl⟩) (hcd:PySem.W.codeIn K cdv qual=true) (S:FnScope N ps scope)
  (len:∀vs H Q E,sp vs H Q E->vs.length=ps.length)
  (hbody:∀(A:Around)(outer:List Env)(s:Shared)(H:Hp)(vs:List V)(Q:VK)(E:XK),Room k (A.deeper (envOfC qual scope s.heap.objs.size f cdv))->sp vs H Q E ->
   ∃t,PSs (Zlw CX P w K mg base N qual scope f cdv A outer s H E) body t/\t { nx:=fun _ H'=>Q .non H',rt:=Q } (start N vs) H) :
  FnOk P w K mg base CX (k+1) f (PySem.W.fnOf name qual params body scope dV kV doc pm an cdv ct) ps sp:=by
 refine⟨len,fun A outer s H args us vs Q E hr e0 hb r hsp=>?_⟩;have hl:=len _ _ _ _ hsp;have KX:K.In s.heap:=e0.mod.kin.keeps fun b o e=>(e0.bs b o e).1;have lim:s.heap.NoLimit:=e0.mod.nolimit.keeps fun b o e=>(e0.bs b o e).1;have hkind:∀y∈ps.zip us,scope.names.lookup y.1=some .local\/(scope.names.lookup y.1=some .cell/\((cellsFrom (s.heap.objs.size+1) scope.names []).lookup y.1).isSome=true):=fun⟨n,v⟩ hy=>by
  rcases S.par n (List.of_mem_zip hy).1 with q|q
  ·exact .inl q
  ·exact .inr ⟨q,PySem.W.cellsFrom_some _ _ _ (.inl q)⟩
 refine codeAny_call_function hr.depth (KX _ _ lk) rfl S.co S.gen rfl (PySem.W.codeRec_of KX hcd) (hb _ _ _ _ ?_);refine wpAny_newFunctionEnv_cells S.kind hkind fun env he s1 x=>?_;subst he;refine⟨lim.keeps x.toInCall.keep,codeAny_func ?_⟩;obtain⟨t,ht,hq⟩:=hbody A outer s H vs Q E (hr.deeper _) hsp;have I:Inv (Zlw CX P w K mg base N qual scope f cdv A outer s H E) [] (start N vs) H s1:=Zjf S hr.hd e0 hl r x;refine wpAny_mono (ht [] s1 (start N vs) H _ I hq) (fun fl s' hs=>?_) fun e s' hs=>hs;have fin:∀{σ':St}{H':Hp}{v:V}{u:Value},Inv (Zlw CX P w K mg base N qual scope f cdv A outer s H E) [] σ' H' s'->RelV v u->Q v H'->CE outer P w H s Q u s' :=
  fun{σ' H' v u} J rv q=>⟨v,H',J.os,J.bare,J.base,J.hok,rv,q⟩
 cases fl with
 | ret u =>
  obtain⟨v,σ',H',J,rv,q⟩:=hs;exact fin J rv q
 | next =>
  obtain⟨σ',H',J,q⟩:=hs;exact fin (v:=V.non) (u:=Value.none) J rfl q
 | brk =>
  obtain⟨_,_,_,q⟩:=hs;exact False.elim q
 | cont =>
  obtain⟨_,_,_,q⟩:=hs;exact False.elim q
section
variable{X:Cx}{x:Str}{p pos:Pos}{e:Expr}{es:List Expr}{t:TA}{id T:String}{r:List V->Hp->VK->Prop}
def tCB(r:List V->Hp->VK->Prop)(t:TA):TE:=fun σ H Q=>t σ H fun vs H1=>r vs H1 Q
theorem Zaj(hc:Zc6 X (.builtin id) r)(hg:Gl X x)(hm:X.mg x=none)(hv:bootBuiltins x=some (.builtin id))(ha:PA X (e::es) t)(hn:x ≠ "__name__" := by decide) (hdb:(x == ("__debug__" : Str))=false:=by decide)
  (he:starEach (e::es) X.env=(false,eval e X.env)::starEach es X.env:=by rfl) (hpl:(backTo pos (starEach es X.env)).any (·.1)=false:=by rfl):PE X (.Call (.Name x p) (e::es) [] pos) (tCB r t):=by
 intro pins s σ H Q I h;refine wpAny_Call_Name_kw (ZfF I hg hm hv ?_ hn hdb);exact PyProof.Rows.callWith_builtin1 (thn (ha pos pins s σ H _ I h) fun us s1 ⟨vs,H1,I1,r1,q1⟩=>hc pins s1 σ H1 vs us Q I1 r1 q1) he hpl
theorem Zaw(hc:Zc6 X (.type T) r)(hg:Gl X x)(hm:X.mg x=none)(hv:bootBuiltins x=some (.type T))(ha:PA X (e::es) t)(hn:x ≠ "__name__" := by decide) (hdb:(x == ("__debug__" : Str))=false:=by decide)
  (he:starEach (e::es) X.env=(false,eval e X.env)::starEach es X.env:=by rfl) (hpl:(backTo pos (starEach es X.env)).any (·.1)=false:=by rfl):PE X (.Call (.Name x p) (e::es) [] pos) (tCB r t):=by
 intro pins s σ H Q I h;refine wpAny_Call_Name_kw (ZfF I hg hm hv ?_ hn hdb);exact PyProof.Rows.callWith_type1 (thn (ha pos pins s σ H _ I h) fun us s1 ⟨vs,H1,I1,r1,q1⟩=>hc pins s1 σ H1 vs us Q I1 r1 q1) he hpl
end
end L2
namespace HT
open PySem PyProof.Rows
section
variable{prog:Program}{w:World}{A:Around}{E:Value->Shared->Prop}{s:Shared}
def sIx(n d:Nat):Option Int->Nat
 | none=>d
 | some v=>if v<0 then(v+(n:Int)).toNat else min v.toNat n
theorem Zhn(n d:Nat):sIx n d none=d:=rfl
theorem Zis(n d k:Nat):sIx n d (some (k:Int))=min k n:=by
 show(if(k:Int)<0 then((k:Int)+(n:Int)).toNat else min (k:Int).toNat n)=min k n
 rw[if_neg (by lia),Int.toNat_natCast]
theorem ZcX{v:Value}{o:Option Int}{Q:Option Int->Shared->Prop}(p:IsPart v o)(h:Q o s):wpAny (model prog w) A (Builtin.Slice.slicePartIndex v) Q E s:=by
 cases p with
 | none=>exact slicePart_none h
 | int i t=>exact slicePart_int h
end
end HT
namespace L2
open PySem PySem.Spec PyProof.Rows
abbrev TO:=St->Hp->(Option Int->Hp->Prop)->Prop
def PO(X:Cx)(e:Option Expr)(t:TO):Prop :=
 ∀(pins:List (Addr×Obj))(s:Shared)(σ : St)(H:Hp)(Q:Option Int->Hp->Prop),Inv X pins σ H s->t σ H Q ->
  wpAny (model X.prog X.w) X.A (evalPart e X.env) (fun u s'=>∃o H',Inv X pins σ H' s'/\IsPart u o/\Q o H') X.xe s
def Zle:TO:=fun _ H Q=>Q none H
def ZmK(t:TE):TO:=fun σ H Q=>t σ H fun x H1=>∃i,x=.int i/\Q (some i) H1
theorem intsAre_of{ns:List Int}:∀{us:List Value},Vals (ns.map V.int) us->IntsAre us ns:=by
 induction ns with
 | nil=>intro us r;rw[List.map_nil] at r;cases r;exact .nil
 | cons n ns ih =>
  intro us r;rw[List.map_cons] at r;cases r with
  | cons r1 r2 =>
   obtain⟨t,e⟩:=r1;subst e;exact .cons n t (ih r2)
section
variable{X:Cx}{e:Expr}{te:TE}{lo hi:Option Expr}{tl th:TO}{pos p2:Pos}
theorem ZcG:PO X none Zle:=by
 intro pins s σ H Q I h;rw[evalPart_none];exact wpAny_pure ⟨none,H,I,.none,h⟩
theorem ZeZ(h:PE X e te):PO X (some e) (ZmK te):=by
 intro pins s σ H Q I hw;rw[evalPart_some];refine thn (h pins s σ H _ I hw) fun u s1 ⟨x,H1,I1,r1,q1⟩=>?_;obtain⟨i,rfl,q⟩:=q1;obtain⟨t,rfl⟩:=r1;exact⟨some i,H1,I1,.int i t,q⟩
def SlR(X:Cx)(r:V->Option Int->Option Int->Hp->VK->Prop):Prop :=
 ∀(pins:List (Addr×Obj))(s:Shared)(σ : St)(H:Hp)(x:V)(v vl vu:Value)(lo hi:Option Int)(sl:Addr)(Q:VK),Inv X pins σ H s->RelV x v->s.heap.IsSliceOf sl vl vu .none->IsPart vl lo->IsPart vu hi->r x lo hi H Q ->
  ∃T id,typeLookup (.type T) "__getitem__" = pure (some (.builtin id))/\s.TypeIs v T/\wpAny (model X.prog X.w) X.A (getItem v (.ref sl)) (EP X pins σ Q) X.xe s
def tSl(r:V->Option Int->Option Int->Hp->VK->Prop)(te:TE)(tl th:TO):TE:=fun σ H Q=>te σ H fun x H1=>tl σ H1 fun l H2=>th σ H2 fun u H3=>r x l u H3 Q
theorem Zg4{r:V->Option Int->Option Int->Hp->VK->Prop}(hr:SlR X r)(he:PE X e te)(hl:PO X lo tl)(hu:PO X hi th):PE X (.Subscript e (.Slice lo hi none p2) pos) (tSl r te tl th):=by
 intro pins s σ H Q I h;refine Subscript_ (thn (he pins s σ H _ I h) fun v s1 ⟨x,H1,I1,r1,q1⟩=>?_);refine wpAny_Slice (thn (hl pins s1 σ H1 _ I1 q1) fun vl s2 ⟨l,H2,I2,pl,q2⟩=>thn (hu pins s2 σ H2 _ I2 q2) fun vu s3 ⟨u,H3,I3,pu,q3⟩=>?_);rw[evalPart_none];refine wpAny_pure ?_;have I4:Inv X pins σ H3 { s3 with heap:=s3.heap.push { cls:=.type "slice",data:=.fields #[vl,vu,.none] } }:=I3.kept (t':=s3.toks) fun b ob q=>Heap.get?_push_of_some _ q;obtain⟨T,id,hT,ht,hg⟩:=hr pins { s3 with heap:=s3.heap.push { cls:=.type "slice",data:=.fields #[vl,vu,.none] } } σ H3 x v vl vu l u s3.heap.objs.size Q I4 r1 (Heap.IsSliceOf.new ..) pl pu q3;show wpAny (model X.prog X.w) X.A (subscriptTail e (.Slice lo hi none p2) v (.ref s3.heap.objs.size)) (EP X pins σ Q) X.xe { s3 with heap:=s3.heap.push { cls:=.type "slice",data:=.fields #[vl,vu,.none] } };exact tail_any (ops:=[.ref s3.heap.objs.size,v]) ht hT hg (by with_unfolding_all rfl)
def ZjO(xs:List V)(lo hi:Option Int):List V:=(xs.drop (HT.sIx xs.length 0 lo)).take (HT.sIx xs.length xs.length hi-HT.sIx xs.length 0 lo)
theorem Zgd(xs:List V)(lo hi:Option Int):(ZjO xs lo hi).length<=xs.length:=by
 unfold ZjO;rw[List.length_take,List.length_drop];lia
end
def ixN(n:Nat)(i:Int):Option Nat:=if 0<=i then(if i<n then some i.toNat else none) else if -(n:Int)<=i then some (i+n).toNat else none
def atI{α : Type}(xs:List α)(i:Int):Option α := (ixN xs.length i).bind fun j=>xs[j]?
theorem ZiE{n:Nat}{i:Int}{j:Nat}(h:ixN n i=some j):seqIndex? i n=some j/\j<n /\ -(n:Int)<=i/\i<n:=by
 unfold ixN at h;by_cases h0:0<=i
 ·rw[if_pos h0] at h;by_cases h1:i<n
  ·rw[if_pos h1] at h;have e:i.toNat=j:=Option.some.inj h;exact⟨by rw[seqIndex_of h0 h1,e],by lia,by lia,h1⟩
  ·rw[if_neg h1] at h;cases h
 ·rw[if_neg h0] at h;by_cases h1 : -(n:Int)<=i
  ·rw[if_pos h1] at h;have e:(i+n).toNat=j:=Option.some.inj h;exact⟨by rw[seqIndex_neg (by lia) h1,e],by lia,h1,by lia⟩
  ·rw[if_neg h1] at h;cases h
theorem Zgr{α : Type}{xs:List α}{i:Int}{v : α}(h:atI xs i=some v):∃j,seqIndex? i xs.length=some j/\xs[j]?= some v/\j<xs.length /\ -(xs.length:Int)<=i/\i<xs.length:=by
 unfold atI at h;cases e:ixN xs.length i with
 | none=>rw[e] at h;cases h
 | some j =>
  rw[e] at h;obtain⟨h1,h2,h3,h4⟩:=ZiE e;exact⟨j,h1,h,h2,h3,h4⟩
theorem Zbp{α : Type}{xs:List α}{j:Nat}{v : α}(h:xs[j]?= some v):atI xs (j:Int)=some v:=by
 have hj:j<xs.length:=(List.getElem?_eq_some_iff.mp h).1;have e:ixN xs.length (j:Int)=some j:=by
  unfold ixN;rw[if_pos (by lia),if_pos (by lia)];simp
 unfold atI;rw[e];exact h
theorem Zbm{α : Type}(xs:List α)(v : α):atI (xs ++ [v]) (-1)=some v:=by
 have hl:(xs ++ [v]).length=xs.length+1:=by simp
 have e:ixN (xs ++ [v]).length (-1)=some xs.length:=by
  unfold ixN;rw[hl,if_neg (by decide),if_pos (by lia)]
  congr 1
  lia
 unfold atI;rw[e];show(xs ++ [v])[xs.length]?= some v;simp
def Zk3(b:Expr):Prop := ∀o i,subscripted b false o i=operate [o,i] (getItem o i)
def IxR(X:Cx)(r:R2):Prop :=
 ∀(value slice:Expr)(pins:List (Addr×Obj))(s:Shared)(σ : St)(H:Hp)(x y:V)(v u:Value)(Q:VK),Inv X pins σ H s->RelV x v->RelV y u->r x y H Q ->
  subscripted slice false v u=operate [v,u] (getItem v u)->wpAny (model X.prog X.w) X.A (subscriptTail value slice v u) (EP X pins σ Q) X.xe s
def MtR(X:Cx)(id:String)(r:V->List V->Hp->VK->Prop):Prop :=
 ∀(pins:List (Addr×Obj))(s:Shared)(σ : St)(H:Hp)(x:V)(xs:List V)(v:Value)(us:List Value)(Q:VK),Inv X pins σ H s->RelV x v->Vals xs us->r x xs H Q ->
  wpAny (model X.prog X.w) X.A (call (.builtin id) (v::us)) (EP X pins σ Q) X.xe s
section
variable{X:Cx}{a b:Expr}{ta tb:TE}{pos:Pos}
theorem ZF{r:R2}(hr:IxR X r)(ha:PE X a ta)(hb:PE X b tb)(hs:Zk3 b):PE X (.Subscript a b pos) (tOp r ta tb):=by
 intro pins s σ H Q I h;exact Subscript_ (Znc ha hb I h fun v u s2 x y H2 I2 rx ry q=>hr a b pins s2 σ H2 x y v u Q I2 rx ry q (hs _ _))
def ZnG(K:PySem.W.Frag):R2:=fun x y H Q=>∃p xs i v,x=.ref p/\y=.int i/\SqL K H p xs/\atI xs i=some v/\Q v H
def Znj(K:PySem.W.Frag):R2:=fun x y H Q=>∃p xs i v,x=.ref p/\y=.int i/\SqT K H p xs/\atI xs i=some v/\Q v H
def ZnK:R2:=fun x y H Q=>∃z i c,x=.str z/\y=.int i/\z.length<=sizeLine/\atI z.cps.toList i=some c/\Q (.str ⟨#[c]⟩) H
theorem ZP:IxR X (ZnG X.K):=by
 intro value slice pins s σ H x y v u Q I rx ry h hs;obtain⟨p,xs,i,z,rfl,rfl,hq,he,q⟩:=h;cases rx;obtain⟨t,rfl⟩:=ry;obtain⟨its,r,pl,hz⟩:=I.list hq;obtain⟨j,h1,h2,h3,h4,h5⟩:=Zgr he;obtain⟨w,ew,rw'⟩:=r.get h2;have hl:=r.length;have hn:=Zdy;have fin:EP X pins σ Q w s:=⟨z,H,I,rw',q⟩;by_cases h0:0<=i
 ·have hj:i.toNat=j:=by
   rw[seqIndex_of h0 h5] at h1;exact Option.some.inj h1
  exact item_listR pl.isList h0 (by lia) (by rw[hj];simpa using ew) fin hs
 ·have hj:(i+(its.toArray.size:Int)).toNat=j:=by
   rw[seqIndex_neg (by lia) h4] at h1;rw[List.size_toArray,<- hl];exact Option.some.inj h1
  exact subscriptTail_builtinR (x:=w) pl.isList.typeIs slot_list_getitem.lookup
   (wpAny_getItem_list_neg (Q:=fun r s'=>r=w/\EP X pins σ Q r s') pl.isList (by lia) (by rw[List.size_toArray] <;> lia) (by lia) (by rw[hj];simpa using ew) ⟨rfl,fin⟩) hs
theorem Z3:IxR X (Znj X.K):=by
 intro value slice pins s σ H x y v u Q I rx ry h hs;obtain⟨p,xs,i,z,rfl,rfl,hq,he,q⟩:=h;cases rx;obtain⟨t,rfl⟩:=ry;obtain⟨its,r,pl,hz⟩:=I.tuple hq;obtain⟨j,h1,h2,h3,h4,h5⟩:=Zgr he;obtain⟨w,ew,rw'⟩:=r.get h2;have hl:=r.length;have hn:=Zdy;have fin:EP X pins σ Q w s:=⟨z,H,I,rw',q⟩;exact subscriptTail_builtinR (x:=w) pl.typeIs slot_tuple_getitem.lookup
  (getItem_tuple (j:=j) (Q:=fun r s'=>r=w/\EP X pins σ Q r s') pl (by lia) (by lia) (by rw[List.size_toArray,<- hl];exact h1) (by simpa using ew) ⟨rfl,fin⟩) hs
theorem ZiK:IxR X ZnK:=by
 intro value slice pins s σ H x y v u Q I rx ry h hs;obtain⟨z,i,c,rfl,rfl,hz,he,q⟩:=h;obtain⟨t,rfl⟩:=rx;obtain⟨t',rfl⟩:=ry;obtain⟨j,h1,h2,h3,h4,h5⟩:=Zgr he;have hl:z.cps.toList.length=z.length:=by simp[Str.length]
 rw[hl] at h1 h4 h5;have hn:=Zdy;exact tail_any (typeIs_str s z t) slot_str_getitem.lookup (getItem_str (c:=c) (by
  have e1:decide (i < -(2 ^ 63:Int))=false:=decide_eq_false (by lia);have e2:decide (i>=2 ^ 63)=false:=decide_eq_false (by lia);rw[e1,e2,Bool.or_false]) (by rw[h1];simpa using h2) ⟨.str ⟨#[c]⟩,H,I.tok _,⟨_,rfl⟩,q⟩) hs
theorem ZhY(its:List Value)(n j:Nat)(u:Value):Obj.mapSeq (·.setIfInBounds j u) { cls:=.type "list",data:=.seq its.toArray n }= { cls:=.type "list",data:=.seq (its.set j u).toArray n }:=by
 simp[Obj.mapSeq]
theorem Inv.lst{pins:List (Addr×Obj)}{σ : St}{H:Hp}{s:Shared}{p:Addr}{xs:List V}(I:Inv X pins σ H s)(h:H p=some (.lst xs)) :
  ∃(its:List Value)(n:Nat),Vals xs its/\s.heap.get? p=some { cls:=.type "list",data:=.seq its.toArray n }/\xs.length<=sizeLine:=by
 obtain⟨z,its,n,r,e⟩:=I.hok p _ h;exact⟨its,n,r,e,z⟩
theorem Inv.lstUpd{pins:List (Addr×Obj)}{σ : St}{H:Hp}{s:Shared}{p:Addr}{xs ys:List V}{its its':List Value}{n n':Nat}{f:Obj->Obj}(I:Inv X pins σ H s)(h:H p=some (.lst xs))
  (ho:s.heap.get? p=some { cls:=.type "list",data:=.seq its.toArray n }) (hf:f { cls:=.type "list",data:=.seq its.toArray n }= { cls:=.type "list",data:=.seq its'.toArray n' }) (r:Vals ys its') (hz:ys.length<=sizeLine) (t:Nat) :
  Inv X pins σ (upd H p (.lst ys)) { s with heap:=s.heap.update p f,toks:=t }:=by
 have e:(s.heap.update p f).get? p=some { cls:=.type "list",data:=.seq its'.toArray n' }:=by
  rw[Heap.get?_update_self f ho (by rw[hf] <;> rfl),hf]
 refine I.write (x:=p) (e:=p) (by rw[h];trivial) (.inl rfl) (fun b u hb q=>(Heap.get?_update_other _ _ (Ne.symm hb)).trans q) ⟨_,e⟩ ?_;exact⟨hz,its',n',r,e⟩
def ZmP:V->V->V->Hp->(Hp->Prop)->Prop:=fun o i v H Q=>∃p xs k j,o=.ref p/\i=.int k/\H p=some (.lst xs)/\ixN xs.length k=some j/\Q (upd H p (.lst (xs.set j v)))
theorem set_list:Znn X ZmP:=by
 intro pins s σ H o i v ov iv u Q I ro ri rv h;obtain⟨p,xs,k,j,rfl,rfl,hp,hj,q⟩:=h;cases ro;obtain⟨t,rfl⟩:=ri;obtain⟨its,n,r,ho,hz⟩:=I.lst hp;obtain⟨h1,h2,h3,h4⟩:=ZiE hj;have hl:=r.length;have hn:=Zdy;have I':Inv X pins σ (upd H p (.lst (xs.set j v))) { s with heap:=s.heap.update p (Obj.mapSeq (·.setIfInBounds j u)) } :=
  I.lstUpd hp ho (ZhY its n j u) (r.set rv j) (by rw[List.length_set];exact hz) s.toks
 by_cases h0:0<=k
 ·have hk:k.toNat=j:=by
   rw[seqIndex_of h0 h4] at h1;exact Option.some.inj h1
  exact PySem.W.ki_setAt ho h0 (by lia) (by rw[List.size_toArray,<- hl];exact h4) (by rw[hk];exact⟨_,I',q⟩)
 ·have hk:(k+(its.toArray.size:Int)).toNat=j:=by
   rw[seqIndex_neg (by lia) h3] at h1;rw[List.size_toArray,<- hl];exact Option.some.inj h1
  exact PySem.W.ki_setBack ho (by lia) (by rw[List.size_toArray,<- hl];exact h3) (by lia) (by rw[hk];exact⟨_,I',q⟩)
theorem ZfB(lo hi:Option Int)(n:Nat):(sliceBounds lo hi none n).1=((HT.sIx n 0 lo:Nat):Int)/\(sliceBounds lo hi none n).2.1=((HT.sIx n n hi:Nat):Int)/\(sliceBounds lo hi none n).2.2=1:=by
 refine⟨?_,?_,rfl⟩
 ·cases lo with
  | none=>simp[sliceBounds,HT.sIx]
  | some i =>
   simp only[sliceBounds,HT.sIx,Option.getD_none,show(1:Int) > 0 by decide,if_true];by_cases h:i<0
   ·simp only[h,if_true] <;> lia
   ·simp only[h,if_false] <;> lia
 ·cases hi with
  | none=>simp[sliceBounds,HT.sIx]
  | some i =>
   simp only[sliceBounds,HT.sIx,Option.getD_none,show(1:Int) > 0 by decide,if_true];by_cases h:i<0
   ·simp only[h,if_true] <;> lia
   ·simp only[h,if_false] <;> lia
theorem ZeX(its:List Value)(lo hi:Option Int):slicePick its.toArray lo hi none=((its.drop (HT.sIx its.length 0 lo)).take (HT.sIx its.length its.length hi-HT.sIx its.length 0 lo)).toArray:=by
 obtain⟨h1,h2,h3⟩:=ZfB lo hi its.toArray.size;unfold slicePick;rw[h1,h2,h3];simp only[sliceRange_one,pick_run,List.size_toArray] <;> rfl
def ZnS(K:PySem.W.Frag):V->Option Int->Option Int->Hp->VK->Prop:=fun x lo hi H Q=>∃a xs,x=.ref a/\SqL K H a xs/\∀p,H p=none->Q (.ref p) (upd H p (.lst (ZjO xs lo hi)))
theorem Zi9:SlR X (ZnS X.K):=by
 intro pins s σ H x v vl vu lo hi sl Q I rx hs pl pu h;obtain⟨a,xs,rfl,hx,q⟩:=h;cases rx;obtain⟨its,r,ht,hz⟩:=I.list hx;have hlen:=r.length;refine⟨"list",_,slot_list_getitem.lookup,ht.isList.typeIs,?_⟩;refine wpAny_getItem_list_slice ht.isList hs pl pu .none (by simp) ?_ (by rw[List.size_toArray] <;> lia)
 rw[ZeX,<- hlen];refine⟨.ref s.heap.objs.size,_,I.laid (t':=s.toks) (o:=.lst (ZjO xs lo hi)) (fun b ob q=>Heap.get?_push_of_some _ q) (Nat.le_refl _) ?_,rfl,q _ (I.hok.fresh (Nat.le_refl _))⟩;exact⟨Nat.le_trans (Zgd xs lo hi) hz,_,0,(r.drop (HT.sIx xs.length 0 lo)).take (HT.sIx xs.length xs.length hi-HT.sIx xs.length 0 lo),Heap.get?_push_size _ rfl⟩
theorem ZS:Zc6 X (.builtin "len") (fun xs H Q=>∃p ys,xs=[.ref p]/\(SqL X.K H p ys\/SqT X.K H p ys)/\Q (.int ys.length) H):=by
 intro pins s σ H xs us Q I r h;obtain⟨p,ys,rfl,hq,q⟩:=h;obtain⟨u,rfl,rx⟩:=vals1 r;cases rx;have hn:=Zdy;rcases hq with hq|hq
 ·obtain⟨its,r',pl,hz⟩:=I.list hq;have hlen:=r'.length;exact Calls.call_len_list pl.isList (by simp only[List.size_toArray] <;> lia) ⟨.int ys.length,H,I.tok _,⟨s.toks+1,by rw[List.size_toArray,hlen]⟩,q⟩
 ·obtain⟨its,r',pl,hz⟩:=I.tuple hq;have hlen:=r'.length;exact len_tuple pl (by simp only[List.size_toArray] <;> lia) ⟨.int ys.length,H,I.tok _,⟨s.toks+1,by rw[List.size_toArray,hlen]⟩,q⟩
theorem ZfQ:Zc6 X (.builtin "len") (fun xs H Q=>∃z,xs=[.str z]/\z.length<=sizeLine/\Q (.int z.length) H):=by
 intro pins s σ H xs us Q I r h;obtain⟨z,rfl,hz,q⟩:=h;obtain⟨u,rfl,t,rfl⟩:=vals1 r;have hn:=Zdy;exact len_str (by lia) ⟨.int z.length,H,I.tok _,⟨_,rfl⟩,q⟩
theorem ZcZ:Zc6 X (.type "list") (fun xs H Q=>∃p ys,xs=[.ref p]/\(SqL X.K H p ys\/SqT X.K H p ys)/\∀l,H l=none->Q (.ref l) (upd H l (.lst ys))):=by
 intro pins s σ H xs us Q I r h;obtain⟨p,ys,rfl,hq,q⟩:=h;obtain⟨u,rfl,rx⟩:=vals1 r;cases rx;have fin:∀(its:List Value),Vals ys its->ys.length<=sizeLine->∀(h':Heap)(c':Nat),(∀b o',s.heap.get? b=some o'->h'.get? b=some o') ->
   h'.get? s.heap.objs.size=some { cls:=.type "list",dict:=none,data:=.seq its.toArray c',slots :=#[] }->EP X pins σ Q (.ref s.heap.objs.size) { s with heap:=h' }:=fun its r' hz h' c' kp e =>
  ⟨.ref s.heap.objs.size,_,I.laid (t':=s.toks) kp (Nat.le_refl _) (show Zaz X.prog X.w _ h' _ (.lst ys) from⟨hz,its,c',r',e⟩),rfl,q _ (I.hok.fresh (Nat.le_refl _))⟩
 rcases hq with hq|hq
 ·obtain⟨its,r',pl,hz⟩:=I.list hq;have hlen:=r'.length;obtain⟨o,ho,hc,n,hd⟩:=pl.isList;exact call_list_seq p (.inl rfl) ho hc hd (fun h' c' kp e=>fin its r' hz h' c' kp e) (by simp only[List.size_toArray] <;> lia)
 ·obtain⟨its,r',pl,hz⟩:=I.tuple hq;have hlen:=r'.length;obtain⟨o,ho,hc,n,hd⟩:=pl;exact call_list_seq p (.inr rfl) ho hc hd (fun h' c' kp e=>fin its r' hz h' c' kp e) (by simp only[List.size_toArray] <;> lia)
theorem Zan:Zc6 X (.type "tuple") (fun xs H Q=>∃p ys,xs=[.ref p]/\((SqL X.K H p ys/\∀l,H l=none->Q (.ref l) (upd H l (.tup ys)))\/(SqT X.K H p ys/\Q (.ref p) H))):=by
 intro pins s σ H xs us Q I r h;obtain⟨p,ys,rfl,h⟩:=h;obtain⟨u,rfl,rx⟩:=vals1 r;cases rx;rcases h with⟨hq,q⟩|⟨hq,q⟩
 ·obtain⟨its,r',pl,hz⟩:=I.list hq;have hlen:=r'.length;refine call_tuple_list pl.isList (fun h' kp=>?_) (by simp only[List.size_toArray] <;> lia)
  have I1:Inv X pins σ H { s with heap:=h' }:=I.kept (t':=s.toks) kp;have I2:Inv X pins σ (upd H h'.objs.size (.tup ys)) { s with heap:=h'.push { cls:=.type "tuple",data:=.seq its.toArray } } :=
   I1.laid (t':=s.toks) (fun b o e=>Heap.get?_push_of_some _ e) (Nat.le_refl _) (show Zaz X.prog X.w _ _ _ (.tup ys) from⟨hz,its,r',IsTup.new _ _⟩)
  exact⟨.ref h'.objs.size,_,I2,rfl,q _ (I1.hok.fresh (Nat.le_refl _))⟩
 ·obtain⟨its,r',pl,hz⟩:=I.tuple hq;exact call_tuple_same pl ⟨.ref p,H,I,rfl,q⟩
def tyV(K:PySem.W.Frag)(T:String)(x:V)(H:Hp):Prop:=match x with
 | .str _=>T= "str"
 | .int _=>T= "int"
 | .ref p=>(T= "list" /\ ∃xs,SqL K H p xs)\/(T= "tuple" /\ ∃o,K.lookup p=some o/\o.cls=.type "tuple" /\ o.dict=none) \/
   (T= "dict" /\ ((∃kvs,H p=some (.dK kvs))\/∃kvs,H p=some (.dT kvs)))\/(T= "set" /\ ∃S n,H p=some (.set S n))
 | _=>False
theorem ZkV{pins:List (Addr×Obj)}{σ : St}{H:Hp}{s:Shared}{T:String}{x:V}{v:Value}(I:Inv X pins σ H s)(r:RelV x v)(ty:tyV X.K T x H) :
  s.TypeIs v T/\∀a,v=.ref a->∃ob,s.heap.get? a=some ob/\ob.dict=none:=by
 cases x with
 | str z =>
  obtain⟨t,rfl⟩:=r;cases (show T= "str" from ty);exact⟨typeIs_str s z t,fun _ e=>nomatch e⟩
 | int i =>
  obtain⟨t,rfl⟩:=r;cases (show T= "int" from ty);exact⟨typeIs_int s i t,fun _ e=>nomatch e⟩
 | ref p =>
  cases r;rcases ty with⟨rfl,xs,hq⟩|⟨rfl,o,hk,hc,hd⟩|⟨rfl,hk⟩|⟨rfl,S,n,hk⟩
  ·obtain⟨its,_,pl,_⟩:=I.list hq;refine⟨pl.isList.typeIs,fun a e=>?_⟩;cases e;obtain⟨o,n,e,c,hd,_⟩:=pl;exact⟨o,e,hd⟩
  ·refine⟨⟨o,I.kIn p o hk,hc⟩,fun a e=>?_⟩;cases e;exact⟨o,I.kIn _ o hk,hd⟩
  ·have z:∃o,s.heap.get? p=some o/\o.ExactDict:=by
    rcases hk with⟨kvs,hk⟩|⟨kvs,hk⟩
    ·obtain⟨_,_,_,_,o,_,_,e,ex,_⟩:=I.hok p _ hk;exact⟨o,e,ex⟩
    ·obtain⟨_,_,_,_,o,_,_,e,ex,_⟩:=I.hok p _ hk;exact⟨o,e,ex⟩
   obtain⟨o,e,ex⟩:=z;refine⟨⟨o,e,ex.1⟩,fun a e2=>?_⟩;cases e2;exact⟨o,e,ex.2.1⟩
  ·obtain⟨o,_,_,_,e,ex,_⟩:=I.hok p _ hk;refine⟨⟨o,e,ex.1⟩,fun a e2=>?_⟩;cases e2;exact⟨o,e,ex.2.1⟩
 | _=>exact False.elim ty
def Znp(K:PySem.W.Frag)(T:String)(r:V->List V->Hp->VK->Prop)(to:TE):TE:=fun σ H Q=>to σ H fun x H1=>tyV K T x H1/\r x [] H1 Q
def tBM(K:PySem.W.Frag)(T:String)(r:V->List V->Hp->VK->Prop)(to:TE)(t:TA):TE:=fun σ H Q=>to σ H fun x H1=>tyV K T x H1/\t σ H1 fun xs H2=>r x xs H2 Q
variable{o e:Expr}{es:List Expr}{to:TE}{t:TA}{name:Str}{apos cpos:Pos}{T id:String}{r:V->List V->Hp->VK->Prop}
theorem ZbI(pa:PlainAttrs T)(slot:Slot T name id)(hty:typeOf (.builtin id)=pure (.type "method_descriptor")) (hm:MtR X id r) (ho:PE X o to)
  (hbase:attributeBase o name X.env (eval o X.env)=eval o X.env:=by rfl) (hline:(apos.endLine == cpos.line)=true:=by rfl):PE X (.Call (.Attribute o name apos) [] [] cpos) (Znp X.K T r to):=by
 intro pins s σ H Q I h;refine wpAny_Call_method0_late hbase hline (thn (ho pins s σ H _ I h) fun v s1 ⟨x,H1,I1,r1,ty,q1⟩=>?_);obtain⟨h1,h2⟩:=ZkV I1 r1 ty;exact⟨T,id,pa,slot,hty,h1,h2,Calls.callWith_builtin rfl (PySem.evalArgs_none (hm pins s1 σ H1 x [] v [] Q I1 r1 .nil q1))⟩
theorem ZaS(pa:PlainAttrs T)(slot:Slot T name id)(hty:typeOf (.builtin id)=pure (.type "method_descriptor")) (hm:MtR X id r) (ho:PE X o to) (ha:PA X (e::es) t)
  (hbase:attributeBase o name X.env (eval o X.env)=eval o X.env:=by rfl)
  (hfew:((backTo cpos (starEach (e::es) X.env)).all (fun x=>!x.1)&&(backToKw cpos (keywordEach [] X.env)).all (fun x=>x.1.isSome)
   && decide ((e::es).length+([]:List Keyword).length+(if([]:List Keyword).isEmpty then 0 else 1)<30))=true:=by rfl)
  (hline:(apos.endLine == cpos.line)=true:=by rfl) (hs:starEach (e::es) X.env=(false,eval e X.env)::starEach es X.env:=by rfl) (hplain:(backTo cpos (starEach es X.env)).any (·.1)=false:=by rfl) :
  PE X (.Call (.Attribute o name apos) (e::es) [] cpos) (tBM X.K T r to t):=by
 intro pins s σ H Q I h;refine wpAny_Call_method_late hbase hfew hline rfl (thn (ho pins s σ H _ I h) fun v s1 ⟨x,H1,I1,r1,ty,q1⟩=>?_);obtain⟨h1,h2⟩:=ZkV I1 r1 ty;refine⟨T,id,pa,slot,hty,h1,h2,?_⟩;have hA:=ha cpos pins s1 σ H1 _ I1 q1;rw[hs] at hA ⊢;refine Calls.callWith_builtin (by show(false || (backTo cpos (starEach es X.env)).any (·.1))=false;rw[hplain] <;> rfl) (Calls.evalArgs_plain ?_)
 exact thn hA fun us s2 ⟨vs,H2,I2,r2,q2⟩=>hm pins s2 σ H2 x vs v us Q I2 r1 r2 q2
/- xs.append(e),list.index on a module's tuple .. are MtR facts of 06m -/
end
def MtM(X:Cx)(id:String)(r:V->List V->Hp->VK->Prop):Prop :=
 ∀(pins:List (Addr×Obj))(s:Shared)(σ : St)(H:Hp)(x:V)(xs:List V)(v:Value)(us:List Value)(Q:VK),Inv X pins σ H s->RelV x v->Vals xs us->r x xs H Q ->
  wpAny (model X.prog X.w) X.A (call (.builtin id) (v::us)) (EP X pins σ Q) X.xe s
theorem Vals.one:∀{x:V}{us:List Value},Vals [x] us->∃u,us=[u]/\RelV x u
 | _,_,.cons r .nil=>⟨_,rfl,r⟩
theorem Vals.two:∀{x y:V}{us:List Value},Vals [x,y] us->∃u v,us=[u,v]/\RelV x u/\RelV y v
 | _,_,_,.cons r (.cons q .nil)=>⟨_,_,rfl,r,q⟩
theorem Vals.zero:∀{us:List Value},Vals [] us->us=[]
 | _,.nil=>rfl
theorem Vals.dropLast{xs:List V}{us:List Value}(h:Vals xs us):Vals xs.dropLast us.dropLast:=by
 induction h with
 | nil=>exact .nil
 | cons r t ih =>
  cases t with
  | nil=>exact .nil
  | cons q t'=>exact .cons r ih
theorem Vals.reverse{xs:List V}{us:List Value}(h:Vals xs us):Vals xs.reverse us.reverse:=by
 induction h with
 | nil=>exact .nil
 | cons r t ih=>rw[List.reverse_cons,List.reverse_cons];exact Vals.append ih (.cons r .nil)
theorem Vals.rep{xs:List V}{us:List Value}(h:Vals xs us):∀k:Nat,Vals (List.replicate k xs).flatten (List.replicate k us).flatten
 | 0=>.nil
 | k+1=>by
  rw[List.replicate_succ,List.replicate_succ,List.flatten_cons,List.flatten_cons];exact Vals.append h (Vals.rep h k)
theorem ZhF{α : Type}(l:List α):l.eraseIdx (l.length-1)=l.dropLast:=by
 induction l with
 | nil=>rfl
 | cons a r ih =>
  cases r with
  | nil=>rfl
  | cons b r =>
   have e:(a::b::r).length-1=((b::r).length-1)+1:=by
    have h1:(a::b::r).length=r.length+2:=rfl;have h2:(b::r).length=r.length+1:=rfl;lia
   rw[e,List.eraseIdx_cons_succ,ih]
   all_goals rfl
theorem foldl_rep(its:List Value):∀(k:Nat)(acc:List Value),
  List.foldl (fun x1 x2=>x1++x2) acc.toArray (List.replicate k its.toArray)=(acc++(List.replicate k its).flatten).toArray
 | 0,acc=>by simp
 | k+1,acc=>by
  have e:acc.toArray++its.toArray=(acc++its).toArray:=by simp
  have e2:(acc++its)++(List.replicate k its).flatten=acc++(List.replicate (k+1) its).flatten:=by
   rw[List.replicate_succ,List.flatten_cons,List.append_assoc]
  rw[<- e2,<- foldl_rep its k (acc++its),<- e,List.replicate_succ,List.foldl_cons]
section
variable{X:Cx}{pins:List (Addr×Obj)}{σ : St}{H:Hp}{s:Shared}{l b:Addr}{xs ys zs:List V}
theorem Inv.lset{its its':List Value}{n:Nat}{f:Array Value->Array Value}{t':Nat}(I:Inv X pins σ H s)(hH:H l=some (.lst xs))
  (e:s.heap.get? l=some { cls:=.type "list",data:=.seq its.toArray n }) (hf:f its.toArray=its'.toArray) (hv:Vals ys its') (hz:ys.length<=sizeLine) :
  Inv X pins σ (upd H l (.lst ys)) { s with heap:=s.heap.update l (Obj.mapSeq f),toks:=t' }:=by
 have q:=PySem.IsL.update e f;rw[hf] at q;refine I.write (x:=l) (e:=l) (by rw[hH];exact trivial) (.inl rfl) (fun b' u hb hu=>(Heap.get?_update_other s.heap (Obj.mapSeq f) (Ne.symm hb)).trans hu) ⟨_,q⟩ ?_;exact⟨hz,its',_,hv,q⟩
theorem Inv.lnew{its:List Value}{t':Nat}(I:Inv X pins σ H s)(hv:Vals ys its)(hz:ys.length<=sizeLine) :
  Inv X pins σ (upd H s.heap.objs.size (.lst ys)) { s with heap:=s.heap.push { cls:=.type "list",data:=.seq its.toArray },toks:=t' } :=
 I.laid (fun _ _ q=>Heap.get?_push_of_some _ q) (Nat.le_refl _) ⟨hz,its,0,hv,Heap.get?_push_size _ rfl⟩
theorem Inv.fresh(I:Inv X pins σ H s):H s.heap.objs.size=none:=I.hok.fresh (Nat.le_refl _)
theorem Inv.lstM(I:Inv X pins σ H s)(hH:H l=some (.lst xs)):xs.length<=sizeLine/\∃(its:List Value)(n:Nat),Vals xs its/\xs.length=its.length/\s.heap.get? l=some { cls:=.type "list",data:=.seq its.toArray n }:=by
 obtain⟨z,its,n,r,e⟩:=I.hok l _ hH;exact⟨z,its,n,r,r.length,e⟩
theorem Zfa{n:Nat}(h:n<=sizeLine):Builtin.List.listTooLong n=false:=by
 unfold Builtin.List.listTooLong;exact decide_eq_false (by lia)
end
section
variable{X:Cx}
def Zlc:V->List V->Hp->VK->Prop:=fun x vs H Q=>∃l xs y,x=.ref l/\vs=[y]/\H l=some (.lst xs)/\xs.length<sizeLine/\Q .non (upd H l (.lst (xs ++ [y])))
theorem Zy:MtM X "list.append" Zlc:=by
 intro pins s σ H x vs v us Q I rx rv h;obtain⟨l,xs,y,rfl,rfl,hH,hz,q⟩:=h;cases rx;obtain⟨u,rfl,ru⟩:=rv.one;obtain⟨z,its,n,r,hl,e⟩:=I.lstM hH;refine call_meets F.slot_list_append ⟨_,e,rfl⟩ F.entry_list_append (F.args_list_append_2 _ _) (PySem.list_append l its.toArray n u (by rw[List.size_toArray];lia)) ⟨e,?_⟩;refine⟨.non,_,I.lset (its':=its ++ [u]) hH e (by simp) (r.append (.cons ru .nil)) ?_,rfl,q⟩;rw[List.length_append,List.length_singleton];lia
def Zlu:V->List V->Hp->VK->Prop:=fun x vs H Q=>∃l b xs zs,x=.ref l/\vs=[.ref b]/\H l=some (.lst xs)/\H b=some (.lst zs)/\xs.length+zs.length<=sizeLine/\Q .non (upd H l (.lst (xs++zs)))
theorem ZdX:MtM X "list.extend" Zlu:=by
 intro pins s σ H x vs v us Q I rx rv h;obtain⟨l,b,xs,zs,rfl,rfl,hH,hB,hz,q⟩:=h;cases rx;obtain⟨u,rfl,ru⟩:=rv.one;cases ru;obtain⟨z,its,n,r,hl,e⟩:=I.lstM hH;obtain⟨z2,its2,n2,r2,hl2,e2⟩:=I.lstM hB;have hsz:its.toArray.size+its2.toArray.size<=sizeLine:=by rw[List.size_toArray,List.size_toArray];lia
 have hlong : ¬ (!its.toArray.isEmpty&&Builtin.List.listTooLong (its.toArray.size+its2.toArray.size))=true:=by
  rw[Zfa hsz,Bool.and_false];exact Bool.false_ne_true
 refine call_meets F.slot_list_extend ⟨_,e,rfl⟩ F.entry_list_extend (F.args_list_extend_2 _ _)
  (AutoSeq1.list_extend_list_list_0 l its.toArray n b its2.toArray n2 hlong (by rw[List.size_toArray];lia) (by lia)) ⟨e,e2,?_⟩
 refine⟨.non,_,I.lset (its':=its++its2) hH e (by simp) (r.append r2) ?_,rfl,q⟩;rw[List.length_append];lia
def Znt:V->List V->Hp->VK->Prop:=fun x vs H Q=>∃l xs y,x=.ref l/\vs=[]/\H l=some (.lst xs)/\xs[xs.length-1]?= some y/\Q y (upd H l (.lst xs.dropLast))
theorem ZbL:MtM X "list.pop" Znt:=by
 intro pins s σ H x vs v us Q I rx rv h;obtain⟨l,xs,y,rfl,rfl,hH,hy,q⟩:=h;cases rx;have hus:=rv.zero;subst hus;obtain⟨z,its,n,r,hl,e⟩:=I.lstM hH;obtain⟨u,hu,ru⟩:=r.get hy;have hy':its.toArray[its.toArray.size-1]?= some u:=by
  show its.toArray[its.length-1]?= some u;rw[<- Array.getElem?_toList,<- hl];exact hu
 refine call_meets F.slot_list_pop ⟨_,e,rfl⟩ F.entry_list_pop (F.args_list_pop_1 _) (MeetsSeq.list_pop_last l its.toArray n u hy' (by rw[List.size_toArray];lia)) ⟨e,?_⟩;refine⟨y,_,I.lset (its':=its.dropLast) hH e ?_ r.dropLast ?_,ru,q⟩
 ·show its.toArray.eraseIdxIfInBounds (its.toArray.size-1)=its.dropLast.toArray;rw[List.size_toArray,List.eraseIdxIfInBounds_toArray,ZhF]
 ·rw[List.length_dropLast];lia
def Znr:R2:=fun x y H Q=>∃l b xs zs,x=.ref l/\y=.ref b/\H l=some (.lst xs)/\H b=some (.lst zs)/\xs.length+zs.length<=sizeLine/\∀p,H p=none->Q (.ref p) (upd H p (.lst (xs++zs)))
theorem Zet:OpR X (binaryOp .Add) Znr:=by
 intro pins s σ H x y v u Q I rx ry h;obtain⟨l,b,xs,zs,rfl,rfl,hH,hB,hz,q⟩:=h;cases rx;cases ry;obtain⟨z,its,n,r,hl,e⟩:=I.lstM hH;obtain⟨z2,its2,n2,r2,hl2,e2⟩:=I.lstM hB;refine PySem.P.add_list e e2 ?_ (by rw[List.size_toArray,List.size_toArray];lia);have ea:its.toArray++its2.toArray=(its++its2).toArray:=by simp
 rw[ea];exact⟨.ref _,_,I.lnew (t':=s.toks) (r.append r2) (by rw[List.length_append];lia),rfl,q _ I.fresh⟩
def ZnH:R2:=fun x y H Q=>∃l k xs,x=.ref l/\y=.int k/\H l=some (.lst xs) /\ -(2 ^ 63)<=k/\k<2 ^ 63/\xs.length*k.toNat<=sizeLine /\
 ∀p,H p=none->Q (.ref p) (upd H p (.lst (List.replicate k.toNat xs).flatten))
theorem len_rep{α : Type}(xs:List α)(k:Nat):(List.replicate k xs).flatten.length=k*xs.length:=by
 induction k with
 | zero=>simp
 | succ k ih=>rw[List.replicate_succ,List.flatten_cons,List.length_append,ih,Nat.succ_mul,Nat.add_comm]
theorem ZlR:OpR X (binaryOp .Mult) ZnH:=by
 intro pins s σ H x y v u Q I rx ry h;obtain⟨l,k,xs,rfl,rfl,hH,h1,h2,hz,q⟩:=h;cases rx;obtain⟨t,rfl⟩:=ry;obtain⟨z,its,n,r,hl,e⟩:=I.lstM hH;have hlen:its.toArray.size*k.toNat<=sizeLine:=by rw[List.size_toArray,<- hl];exact hz
 have hcap : ¬ its.toArray.size*k.toNat > (2 ^ 63-1) / 8:=by
  have:(sizeLine:Nat)<=(2 ^ 63-1) / 8:=by decide
  lia
 have hfit : ¬ (!Builtin.List.listFitsIndex k)=true:=by
  rw[fitsIndex_both h1 h2];exact Bool.false_ne_true
 have hlong : ¬ Builtin.List.listTooLong (its.toArray.size*k.toNat)=true:=by
  rw[Zfa hlen];exact Bool.false_ne_true
 have hnew:List.foldl (fun x1 x2=>x1++x2) #[] (List.replicate (if its.toArray.isEmpty=true then 0 else k.toNat) its.toArray)=(List.replicate k.toNat its).flatten.toArray:=by
  have f0:∀m:Nat,List.foldl (fun x1 x2=>x1++x2) #[] (List.replicate m its.toArray)=(List.replicate m its).flatten.toArray:=fun m=>by
   have:=foldl_rep its m [];rw[List.nil_append] at this;exact this
  rw[f0];cases its with
  | nil=>simp
  | cons a r'=>rw[if_neg (by simp)]
 refine wpAny_binaryOp_repeat_ref (T := "list") (U := "int") (by decide) ⟨_,e,rfl⟩ (fun s'=>typeIs_int s' k t) noFill_list_mul F.fills_int_mul F.slot_int_rmul repeat_list F.slot_int_index.lookup
  (call_meets F.slot_int_rmul (typeIs_int s k t) F.entry_int_rmul (F.args_int_rmul_2 _ _) (int___rmul___int_list k t l its.toArray n)
   ⟨e,rfl,⟨_,e,rfl⟩,call_meets F.slot_list_mul ⟨_,e,rfl⟩ F.entry_list_mul (F.args_list_mul_2 _ _) (AutoListH.list___mul___list_int_3 l its.toArray n k t hfit hcap hlong) ⟨e,?_⟩⟩)
 rw[hnew];exact⟨.ref _,_,I.lnew (t':=s.toks) (r.rep k.toNat) (by rw[len_rep,Nat.mul_comm];exact hz),rfl,q _ I.fresh⟩
end
end L2
namespace Att
open PySem PySem.W PySem.Calls PyProof.Rows
theorem Zd5{P:Params}{h:Heap}:∀(ns:List Int)(vs:List Value),WellAll P h vs (ns.map WData.int)->IntsAre vs ns:=by
 intro ns
 induction ns with
 | nil =>
  intro vs w;rw[List.map_nil] at w;cases w;exact .nil
 | cons n ns ih =>
  intro vs w;rw[List.map_cons] at w;cases w with
  | cons a b =>
   cases a;exact .cons _ _ (ih _ b)
theorem ZiZ{l:OpenLaw}{n:Nat}(hn:l.most=some n){P:Params}{h:Heap}{args:List WData}{vals:List Value}
  (hpre:l.row.toRowW.claim.pre args=true) (hwl:WellAll P h vals args) :
  ∃a vs ns,vals=[Value.ref a]/\args=[WData.list (ns.map WData.int)]/\h.get? a=some { cls:=.type "list",data:=.seq vs.toArray }/\IntsAre vs ns/\ns.length<=n:=by
 have hsh:WShape.hasAll [] args [.list .int]=true:=(pre_splitW hpre).1;have hc:l.pre.holds [] { args:=args }=true:=(pre_splitW hpre).2;obtain⟨d,r,rfl,h1,h2⟩:=hasAllW_cons hsh;obtain rfl:=hasAllW_nil h2;obtain⟨xs,rfl,h3⟩:=hasW_list h1;obtain⟨ns,rfl⟩:=items_int h3;have hlen:ns.length<=n:=by
  unfold OpenLaw.pre at hc;have h4:(WTm.not (.lt (.lit (.int (n:Int))) (.len (.arg 0)))).holds [] { args:=[.list (ns.map .int)] }=true:=by
   have h4:=(holds_andW hc).1;rw[hn] at h4;exact h4
  have h5:=condW_of h4 (w_not (w_lt w_lit (w_len_list (w_arg rfl))));rw[List.length_map] at h5;refine Nat.le_of_not_lt fun q=>?_;have q':(n:Int)<((ns.length:Nat):Int):=by lia
  first
   | (rw[decide_eq_true q'] at h5;exact absurd h5 (by decide))
   | (simp at h5;lia)
 cases hwl with
 | cons w1 w2 =>
  cases w2;cases w1 with
  | list ho hall=>exact⟨_,_,ns,rfl,rfl,ho,Zd5 ns _ hall,hlen⟩
theorem ZiR(l:OpenLaw)(args:List WData):l.row.toRowW.claim.post args (.bool true) args=true :=
 postW_of (r:=l.row.toRowW) (X:=(true == true))
  (show WShape.has [] (.bool true) .bool=true by first|rfl|decide|simp[WShape.has,WShape.arms,WShape.armsAll])
  (show(WTm.eq .res (.lit (.bool true))).value [] { args:=args,res:=some (.bool true),after:=args }=some (.bool (true == true)) from w_eq_bool (w_res rfl) w_lit) rfl
theorem Zgi{l:OpenLaw}{n:Nat}{q:Program}{loose:List Str}{XP:(Str->Option Value)->Heap->Prop}{YP:World->Heap->Prop}{d:DefRec}
  (hn:l.most=some n) (hdf:d.params.defaults=[])
  (call:∀(w:World)(s₀ s₁ : Shared)(mg mb:Str->Option Value)(fa:Addr)(o:Obj)(pm cd doc:Value)(a:Addr)(vs:List Value)(ns:List Int),
   Ground q loose [] XP w s₀ mg mb s₁.heap->YP w s₁.heap ->
   s₁.heap.get? fa=some o->o.data=.func (docDef d.name d.params d.body d.scope pm cd doc)->s₁.heap.CodeRec cd d.name->mg d.name=some (.ref fa) ->
   s₁.heap.get? a=some { cls:=.type "list",data:=.seq vs.toArray }->IntsAre vs ns->ns.length<=n->s₁.gens=#[] ->
   codeAny (model l.prog w) callerA (.call (.ref fa) ⟨[.ref a],[]⟩) (fun r s'=>r=.ok (.ret (.bool true))/\OldK s₁.heap s'.heap/\s'.os=s₁.os/\AllBare s'.gens) s₁) :
  WalkO q loose XP YP l.row.toRowW d [] (fun f vs=>PySem.call f vs):=by
 intro w s₀ s₁ mg mb G Y fa o pm cd doc dV kV ho hd hcd hD hmg hg args vals as hpre hlay hrd hwl hlo;obtain rfl:dV=.none:=Dflts.none hD hdf;obtain rfl:kV=.none:=Dflts.noKw hD;obtain⟨a,vs,ns,rfl,rfl,hobj,hints,hlen⟩:=ZiZ hn hpre hwl;refine enter_call (codeAny_mono (call w s₀ s₁ mg mb fa o pm cd doc a vs ns G Y ho (fd_plain hd) hcd hmg hobj hints hlen hg) fun r s' hq=>?_);obtain⟨rfl,h2,h3,h4⟩:=hq;exact⟨.inl ⟨.bool true,.bool true,[],rfl,fun _=>rfl,.bool true,ZiR l _,fun _=>⟨List.Pairwise.nil,fun _ hm=>(nomatch hm)⟩⟩,h2,h3,h4⟩
end Att
namespace L2
open PySem PySem.Spec PyProof.Rows
theorem Zeb:∀{vs:List Value}{ns:List Int},IntsAre vs ns->Vals (ns.map V.int) vs
 | _,_,.nil=>.nil
 | _,_,.cons n t h=>.cons ⟨t,rfl⟩ (Zeb h)
def Only(H:Hp):Prop := ∀b,H b=none\/∃o xs,H b=some (.frz o (.lst xs))
theorem Zkl{P:Program}{w:World}{K:PySem.W.Frag}{mg mb:Str->Option Value}{CX:CXT}{k:Nat}{fa a:Addr}{fd:FuncData}{x:Str}{sp:Sp}{s₁ : Shared}{vs:List Value}{ns:List Int}
  (KX:K.In s₁.heap) (hns:s₁.heap.Ns mainGlobals mg) (hb:s₁.heap.Ns builtinsNs mb) (hbb:∀x:Str,x ≠ "__name__" -> mb x=bootBuiltins x) (hlim:s₁.heap.NoLimit) (hg:s₁.gens=#[])
  (ha:s₁.heap.get? a=some { cls:=.type "list",data:=.seq vs.toArray }) (hi:IntsAre vs ns) (hl:ns.length<=sizeLine) (hr:Room k callerA)
  (F:∀base:Heap,K.In base->base.Ns mainGlobals mg->FnOk P w K mg base CX k fa fd [x] sp) (hbind:∀(s:Shared)(u:Value),BindsTo s fd ⟨[u],[]⟩ [(x,u)])
  (hsp:∀H:Hp,Only H->SqL K H a (ns.map V.int)->sp [.ref a] H (fun v _=>v=.bl true) fun _ _ _=>False)
  (hCX:∀H e s',CX [] H s₁ (fun _ _ _=>False) e s'->False) :
  codeAny (model P w) callerA (.call (.ref fa) ⟨[.ref a],[]⟩) (fun r s'=>r=.ok (.ret (.bool true))/\OldK s₁.heap s'.heap/\s'.os=s₁.os/\AllBare s'.gens) s₁ := by
 have rv:=Zeb hi;have lenV:=hi.length;have core:∀H:Hp,Only H->SqL K H a (ns.map V.int)->HOk P w H s₁.heap->(∀b,H b≠none->b=a)->(H a≠none->K.lookup a=none) ->
   codeAny (model P w) callerA (.call (.ref fa) ⟨[.ref a],[]⟩) (fun r s'=>r=.ok (.ret (.bool true))/\OldK s₁.heap s'.heap/\s'.os=s₁.os/\AllBare s'.gens) s₁ := by
  intro H hO hS hok hA hK;have base_of:∀{b:Addr}{o:Obj},s₁.heap.get? b=some o->H b=none->(Zkx s₁.heap H).get? b=some o:=fun e n=>ZjP e n;have noA:∀{b:Addr}{o:Obj}{es:Array DictEntry}{ep:Nat},s₁.heap.get? b=some o->o.data=.dict es ep->H b=none:=fun{b o es ep} e d=>by
   cases q:H b with
   | none=>rfl
   | some u =>
    have e':b=a:=hA b (by rw[q];simp);subst e';rw[ha] at e;cases e;have d':Data.seq vs.toArray _=Data.dict es ep:=d;cases d'
  have nsK:∀{b:Addr}{m:Str->Option Value},s₁.heap.Ns b m->(Zkx s₁.heap H).Ns b m:=fun{b m} ⟨o,es,ep,e,d,r⟩=>⟨o,es,ep,base_of e (noA e d),d,r⟩;have hKb:K.In (Zkx s₁.heap H):=fun b o e=>base_of (KX b o e) (by
   cases q:H b with
   | none=>rfl
   | some u =>
    have e':b=a:=hA b (by rw[q];simp);subst e';rw[hK (by rw[q];simp)] at e;cases e)
  have hM:Mod K mg (Zkx s₁.heap H):=⟨hKb,nsK hns,⟨mb,nsK hb,hbb⟩,let ⟨mc,h1,h2⟩:=hlim;⟨mc,nsK h1,h2⟩⟩;have e0:Env0 P w K mg (Zkx s₁.heap H) callerA [] s₁ H:=⟨rfl,hM,fun b o e=>Zls e,Nat.le_of_eq (ZiB _ _),trivial,fun b hb=>absurd (show b∈([]:List Addr) from hb) (by simp),hok,.of_eq hg⟩;refine codeAny_mono ((F _ hKb (nsK hns)).run callerA [] s₁ H ⟨[.ref a],[]⟩ [.ref a] [.ref a] _ _ hr e0 (hbind s₁ (.ref a)) (.cons rfl .nil) (hsp H hO hS)) fun r s' h=>?_;cases r with
  | error e=>exact(hCX H e s' h).elim
  | ok fl =>
   cases fl with
   | next=>exact False.elim h
   | brk=>exact False.elim h
   | cont=>exact False.elim h
   | ret u =>
    obtain⟨v,H',os,bare,un,hok',r',q⟩:=h;have q':v=.bl true:=q;subst q';obtain rfl:u=Value.bool true:=r';refine⟨rfl,OldK.of_keep fun b o e=>?_,os,bare⟩;cases q:H b with
    | none=>exact un.keep b o e q (by intro z;exact absurd (show b∈([]:List Addr) from z) (by simp)) (by simp)
    | some u =>
     rcases hO b with z|⟨ob,xs,z⟩
     ·rw[q] at z;cases z
     ·have z2:=un.frzs b ob _ z;obtain⟨e1,_⟩:=hok b _ z;obtain⟨e2,_⟩:=hok' b _ z2;rw[e] at e1;cases e1;exact e2
 cases hk:K.lookup a with
 | some o =>
  have e:=KX a o hk;rw[ha] at e;cases e;refine core (fun _=>none) (fun _=>.inl rfl) (.inr ⟨_,vs.toArray,_,hk,rfl,rfl,rfl,by rw[List.size_toArray,lenV];exact hl,by simpa using rv⟩) (fun b u z=>by have z':(none:Option HO)=some u:=z;cases z') (fun b z=>absurd rfl z) fun z=>absurd rfl z
 | none =>
  refine core (fun b=>if b=a then some (.frz { cls:=.type "list",data:=.seq vs.toArray } (.lst (ns.map V.int))) else none) (fun b=>?_) (.inl (.inr ⟨{ cls:=.type "list",data:=.seq vs.toArray },if_pos rfl⟩)) (fun b u z=>?_) (fun b z=>?_) fun _=>hk
  ·by_cases hb:b=a
   ·exact .inr ⟨_,_,if_pos hb⟩
   ·exact .inl (if_neg hb)
  ·by_cases hb:b=a
   ·have z':=(if_pos hb).symm.trans z;cases z';subst hb;exact⟨ha,by rw[List.length_map];exact hl,vs,_,rv,ha⟩
   ·have z':=(if_neg hb).symm.trans z;cases z'
  ·by_cases hb:b=a
   ·exact hb
   ·exact absurd (if_neg hb) z
theorem ZiY{l:PySem.W.OpenLaw}{n k:Nat}{q:Program}{loose:List Str}{XP:(Str->Option Value)->Heap->Prop}{YP:World->Heap->Prop}{d:DefRec}{K:Params->PySem.W.Frag}{CX:World->CXT}{sp:World->Sp}{x:Str}
  (hn:l.most=some n) (hn2:n<=sizeLine) (hdf:d.params.defaults=[]) (hr:Room k callerA)
  (hY:∀(w:World)(h:Heap),YP w h->(K w.params).In h)
  (F:∀(w:World)(mg:Str->Option Value)(fa:Addr)(h:Heap),(K w.params).In h->h.Ns mainGlobals mg->mg d.name=some (.ref fa) ->
   ∃fd:FuncData,(∀(s:Shared)(u:Value),BindsTo s fd ⟨[u],[]⟩ [(x,u)]) /\
    ∀base:Heap,(K w.params).In base->base.Ns mainGlobals mg->FnOk l.prog w (K w.params) mg base (CX w) k fa fd [x] (sp w))
  (hsp:∀(w:World)(H:Hp)(a:Addr)(ns:List Int),ns.length<=n->Only H->SqL (K w.params) H a (ns.map V.int)->sp w [.ref a] H (fun v _=>v=.bl true) fun _ _ _=>False)
  (hCX:∀(w:World)(H:Hp)(s:Shared)(e:Value)(s':Shared),CX w [] H s (fun _ _ _=>False) e s'->False) :
  PySem.W.WalkO q loose XP YP l.row.toRowW d [] (fun f vs=>PySem.call f vs):=by
 refine Att.Zgi hn hdf fun w s₀ s₁ mg mb fa o pm cd doc a vs ns G Y ho hd hcd hmg hobj hints hlen hg=>?_;have KX:=hY w _ Y;obtain⟨fd,hb,hF⟩:=F w mg fa _ KX G.T.g hmg;exact Zkl KX G.T.g G.T.b G.T.builtins G.T.nolimit hg hobj hints (Nat.le_trans hlen hn2) hr hF hb (fun H hO hS=>hsp w H a ns hlen hO hS) fun H e s'=>hCX w H s₁ e s'
end L2
/- THE LAST THEOREM (shape;LID,My.* are yours):
   My.Adr: a structure of the addresses that your layer names (classes,functions);My.Txt K t: a structure (Prop) of the equations over K;
   My.txt_mk:{K} {implicit addresses ..} (e1:nsIn K mainGlobals "law" = some (some (.ref f))) (e2:K.lookup f=some ⟨oc,od,.func (fnOf "law" "law" params body scope dV kV doc pm an cdv ct),sl⟩) (e3:codeIn K cdv "law" = true) .. : ∃t,My.Txt K t
set_option maxRecDepth 100000 in
set_option maxHeartbeats 0 in
theorem PySem.Challenge.cw_LID_holds : PySem.Challenge.rw_LID.Holds := by
 w_on;o_law;k_head;(case hw=>w_witness2)
 k_fill
 refine L2.ZiY (l:=PySem.Challenge.rw_LID) (n:=63) (k:=40) (x := "script") (CX:=fun w=>..) (sp:=fun _=>My.sp_law) rfl (by decide) rfl ⟨rfl,by decide,by decide⟩ (fun w h Y=>PySem.W.kIn_of Y) ?F ?S ?C
 case F =>
  intro w mg fa h KX G hmg;have T:∃t,My.Txt (L2.KOf KX) t:=by
   dsimp only[L2.KOf]                          -- K must stand as «<heap const> w.params» for k_is
   refine' My.txt_mk ?e1 ?e2 ?e3 ..
   (case e1=>PySem.W.k_is)                    -- in the order: a name->its address->its object->its parts
   (case e2=>PySem.W.k_is)
   ..
  obtain⟨t,T⟩:=T;have e0:=hmg.symm.trans (PySem.W.mg_of KX G T.law);cases e0                                       -- fa is the law's own address
  exact⟨_,fun s u=>.of_eq rfl,fun base kb nb=>My.law_fn T kb nb⟩     -- if «.of_eq rfl» comes too early: refine' ⟨_,?b,fun base kb nb=>My.law_fn T kb nb⟩;exact fun s u=>.of_eq rfl
 case S=>exact fun w H a ns hl hO hS=>..
 case C=>exact ..
(the tactic k_is has no namespace: write k_is) -/
namespace L2
open PySem PySem.Spec PyProof.Rows
def inClass(s:Stmt)(j:Nat):Stmt:=match s with
 | .ClassDef _ _ _ body _ _ _ _ _ _ _=>body.getD j (.Pass ⟨0,0,0,0⟩)
 | _=>.Pass ⟨0,0,0,0⟩
def Zo(s:Stmt):Arguments:=match s with
 | .FunctionDef _ a _ _ _ _ _ _ _ _=>a
 | _=>{ posonlyargs:=[],args:=[],vararg:=none,kwonlyargs:=[],kw_defaults:=[],kwarg:=none,defaults:=[] }
def Zf(s:Stmt):List Stmt:=match s with
 | .FunctionDef _ _ b _ _ _ _ _ _ _=>b
 | _=>[]
def Zg(s:Stmt):Scope:=match s with
 | .FunctionDef _ _ _ _ _ _ sc _ _ _=>sc
 | _=>{ kind:=.function,names:=[],isGenerator:=false,isCoroutine:=false }
abbrev CX0:CXT:=fun _ _ _ _ _ _=>False
abbrev E0:XK:=fun _ _ _=>False
theorem Zjy{X:Cx}:Zd9 CX0 X E0:=fun _ _ _ _ _ _ _ h=>h.elim
structure Fun(K:PySem.W.Frag)(x qual:Str)(st:Stmt)(f:Addr)(fd:FuncData):Prop where
 ex:∃(oc:Value)(od:Option Addr)(kV doc pm:Value)(an:Option Addr)(cdv ct:Value)(osl:Array (Option Value)),
  fd=PySem.W.fnOf x qual (Zo st) (Zf st) (Zg st) .none kV doc pm an cdv ct/\K.lookup f=some ⟨oc,od,.func fd,osl⟩/\PySem.W.codeIn K cdv qual=true
 kp:PySem.W.keepIn K (.ref f)=true
section
variable{P:Program}{w:World}{K:PySem.W.Frag}{mg:Str->Option Value}{base:Heap}
theorem Fun.ok{x qual:Str}{st:Stmt}{f:Addr}{fd:FuncData}{N ps:List Str}{k:Nat}{sp:Sp}(F:Fun K x qual st f fd)(S:FnScope N ps (Zg st))(len:∀vs H Q E,sp vs H Q E->vs.length=ps.length)
  (hbody:∀(cdv:Value)(A:Around)(outer:List Env)(s:Shared)(H:Hp)(vs:List V)(Q:VK)(E:XK),Room k (A.deeper (envOfC qual (Zg st) s.heap.objs.size f cdv))->sp vs H Q E ->
   ∃t,PSs (Zlw CX0 P w K mg base N qual (Zg st) f cdv A outer s H E).nox (Zf st) t/\t { nx:=fun _ H'=>Q .non H',rt:=Q } (start N vs) H):FnOk P w K mg base CX0 (k+1) f fd ps sp:=by
 obtain⟨oc,od,kV,doc,pm,an,cdv,ct,osl,rfl,lk,hcd⟩:=F.ex;refine ZlZ lk hcd S len fun A outer s H vs Q E hr hsp=>?_;obtain⟨t,h,q⟩:=hbody cdv A outer s H vs Q E hr hsp;exact⟨t,h.nox,q⟩
theorem Fun.binds{x qual:Str}{st:Stmt}{f:Addr}{fd:FuncData}{ps:List Str}(F:Fun K x qual st f fd)
  (h:∀(kV doc pm:Value)(an:Option Addr)(cdv ct:Value)(us:List Value),us.length=ps.length->bindArgs (PySem.W.fnOf x qual (Zo st) (Zf st) (Zg st) .none kV doc pm an cdv ct) ⟨us,[]⟩=pure (ps.zip us)):Binds K fd ps []:=by
 obtain⟨oc,od,kV,doc,pm,an,cdv,ct,osl,rfl,lk,hcd⟩:=F.ex;exact .all (h kV doc pm an cdv ct)
theorem ZV{x qual:Str}{st:Stmt}{f:Addr}{oc:Value}{od an:Option Addr}{osl:Array (Option Value)}{kV doc pm cdv ct:Value}(l:K.lookup f=some ⟨oc,od,.func (PySem.W.fnOf x qual (Zo st) (Zf st) (Zg st) .none kV doc pm an cdv ct),osl⟩)
  (c:PySem.W.codeIn K cdv qual=true) (k:PySem.W.keepIn K (.ref f)=true):Fun K x qual st f (PySem.W.fnOf x qual (Zo st) (Zf st) (Zg st) .none kV doc pm an cdv ct):=⟨⟨oc,od,kV,doc,pm,an,cdv,ct,osl,rfl,l,c⟩,k⟩
end
section
variable{X:Cx}
theorem pv(i:Nat){x:Str}{pos:Pos}(hN:X.N[i]?= some x:=by rfl)(hv:Vis X.env.scope x:=by first|exact Or.inl rfl|exact Or.inr (Or.inl rfl)|exact Or.inr (Or.inr rfl))(hd:(x == ("__debug__" : Str))=false:=by decide)
  (hcd:(x == ("__classdict__" : Str))=false:=by decide):PE X (.Name x pos) (Znd i):=Zmk hN hv hd hcd
end
theorem Zdt{A B:Prop}(h:B):if false=true then A else B:=by
 rw[if_neg Bool.false_ne_true];exact h
theorem Zhj{A B:Prop}(h:A):if true=true then A else B:=by
 rw[if_pos rfl];exact h
theorem Zew{c A B:Prop}[Decidable c](h1:c->A)(h2 : ¬ c->B):if c then A else B:=by
 by_cases h:c
 ·rw[if_pos h];exact h1 h
 ·rw[if_neg h];exact h2 h
def Zn(H H':Hp):Prop := ∀b o,H b=some o->H' b=some o
theorem Zn.refl(H:Hp):Zn H H:=fun _ _ h=>h
theorem Zn.trans{H H1 H2:Hp}(a:Zn H H1)(b:Zn H1 H2):Zn H H2:=fun c o h=>b c o (a c o h)
theorem Zn.free{H H':Hp}(e:Zn H H'){l:Addr}(h:H' l=Option.none):H l=Option.none:=by
 cases q:H l with
 | none=>rfl
 | some o =>
  rw[e l o q] at h;cases h
theorem Zn.seq{K:PySem.W.Frag}{H H':Hp}{a:Addr}{xs:List V}(e:Zn H H')(h:SqL K H a xs):SqL K H' a xs:=by
 rcases h with(h|⟨o,h⟩)|h
 ·exact .inl (.inl (e _ _ h))
 ·exact .inl (.inr ⟨o,e _ _ h⟩)
 ·exact .inr h
end L2
namespace FgM
inductive Gr(A:Type) where
 | nil
 | cons (t:A) (w o:Gr A)
section
variable{A:Type}
def words(sl:A):Gr A->List A
 | .nil=>[]
 | .cons t w o=>t::(words sl w++sl::words sl o)
def snoc:Gr A->A->Gr A->Gr A
 | .nil,t,w=>.cons t w .nil
 | .cons t' w' o,t,w=>.cons t' w' (snoc o t w)
theorem ZcR(sl:A)(t:A)(w:Gr A):∀g:Gr A,words sl (snoc g t w)=words sl g++t::(words sl w ++ [sl])
 | .nil=>by simp[snoc,words]
 | .cons t' w' o=>by simp[snoc,words,ZcR sl t w o]
def Zbb(sl:A):List (Gr A)->List A->List A
 | [r],[]=>words sl r
 | r::rs,t::ts=>Zbb sl rs ts++t::words sl r
 | _,_=>[]
theorem Zeq(sl:A)(t:A){rs:List (Gr A)}{ts:List A}:Zbb sl (.nil::rs) (t::ts)=Zbb sl rs ts ++ [t]:=by
 cases rs <;> simp[Zbb,words]
theorem ZhK(sl:A)(t:A)(w:Gr A){r:Gr A}{rs:List (Gr A)}{ts:List A}(h:rs.length=ts.length) :
  Zbb sl (snoc r t w::rs) ts=Zbb sl (r::rs) ts++t::(words sl w ++ [sl]):=by
 cases ts with
 | nil =>
  have:rs=[]:=List.eq_nil_of_length_eq_zero (by simpa using h);subst this;simp[Zbb,ZcR]
 | cons t' ts =>
  cases rs with
  | nil=>simp at h
  | cons r' rs=>simp[Zbb,ZcR]
theorem ZgM(sl:A)(t:A){w r:Gr A}{rs:List (Gr A)}{ts:List A}(h:rs.length=ts.length) :
  Zbb sl (snoc r t w::rs) ts=Zbb sl (w::r::rs) (t::ts) ++ [sl]:=by
 rw[ZhK sl t w h];simp[Zbb]
theorem Zku(sl:A){r:Gr A}{rs:List (Gr A)}{ts:List A}(h:rs.length=ts.length):(words sl r).length<=(Zbb sl (r::rs) ts).length:=by
 cases ts with
 | nil =>
  have:rs=[]:=List.eq_nil_of_length_eq_zero (by simpa using h);subst this;simp[Zbb]
 | cons t' ts =>
  cases rs with
  | nil=>simp at h
  | cons r' rs=>simp[Zbb];lia
section
variable[DecidableEq A]
def Can(sl:A):Nat->List A->Prop
 | h,[]=>h=0
 | h,w::ws=>if w=sl then 1<=h/\Can sl (h-1) ws else Can sl (h+1) ws
theorem ZcS{sl w:A}(hw:w≠sl){h:Nat}{ws:List A}:Can sl h (w::ws)↔Can sl (h+1) ws:=by
 simp[Can,hw]
theorem ZcL{sl:A}{h:Nat}{ws:List A}:Can sl h (sl::ws)↔1<=h/\Can sl (h-1) ws:=by
 simp[Can]
def ZbG(sl:A):Gr A->Prop
 | .nil=>True
 | .cons t w o=>t≠sl/\ZbG sl w/\ZbG sl o
theorem ZeH{sl t:A}{w:Gr A}(ht:t≠sl)(hw:ZbG sl w):∀{g:Gr A},ZbG sl g->ZbG sl (snoc g t w)
 | .nil,_=>⟨ht,hw,trivial⟩
 | .cons _ _ _,⟨a,b,c⟩=>⟨a,b,ZeH ht hw c⟩
def hgt(sl:A):List A->Int
 | []=>0
 | w::ws=>(if w=sl then -1 else 1)+hgt sl ws
end
abbrev Item(A:Type):=Option (A×Gr A)
def wi(sl:A):Item A->List A
 | none=>[sl]
 | some (t,w)=>t::(words sl w ++ [sl])
def items:Gr A->List (Item A)
 | .nil=>[]
 | .cons t w o=>some (t,w)::items o
theorem Zce(sl:A):∀g:Gr A,(items g).flatMap (wi sl)=words sl g
 | .nil=>rfl
 | .cons t w o=>by simp[items,wi,words,Zce sl o]
def Za7(sl:A)(st:List (Item A)):List A:=st.reverse.flatMap (wi sl)
theorem ZhH(sl:A):Za7 sl ([]:List (Item A))=[]:=rfl
theorem Zcc(sl:A)(st:List (Item A))(x:Item A):Za7 sl (st ++ [x])=wi sl x++Za7 sl st:=by
 simp[Za7]
theorem ZfG(sl:A)(g:Gr A):Za7 sl (items g).reverse=words sl g:=by
 simp[Za7,Zce]
theorem ZdQ(sl:A)(st:List (Item A))(w:Gr A):Za7 sl (st ++ [none]++(items w).reverse)=words sl w++sl::Za7 sl st:=by
 simp[Za7,Zce,wi]
theorem ZhM(sl:A):∀st:List (Item A),st.length<=(Za7 sl st).length:=by
 intro st;have h:∀l:List (Item A),l.length<=(l.flatMap (wi sl)).length:=by
  intro l
  induction l with
  | nil=>exact Nat.le_refl _
  | cons x l ih =>
   rw[List.flatMap_cons,List.length_append,List.length_cons];have:1<=(wi sl x).length:=by cases x with
    | none=>exact Nat.le_refl _
    | some p=>obtain⟨t,w⟩:=p;simp[wi]
   lia
 have:=h st.reverse;rw[List.length_reverse] at this;exact this
end
end FgM
namespace L2
open PySem PySem.Spec PyProof.Rows
theorem Zjm:bootBuiltins "list" = some (.type "list"):=by decide +kernel
theorem ZbH:bootBuiltins "tuple" = some (.type "tuple"):=by decide +kernel
theorem ZiV:bootBuiltins "dict" = some (.type "dict"):=by decide +kernel
theorem Zl8:bootBuiltins "max" = some (.builtin "max"):=by decide +kernel
structure Has(P:Program)(w:World)(K:PySem.W.Frag)(mg:Str->Option Value)(base:Heap)(x:Str)(ps:List Str)(k:Nat)(sp:Sp):Prop where
 ex:∃(f:Addr)(fd:FuncData),FnOk P w K mg base CX0 k f fd ps sp/\Binds K fd ps []/\PySem.W.keepIn K (.ref f)=true/\mg x=some (.ref f)
section
variable{X:Cx}{x:Str}{ps:List Str}{j k:Nat}{sp:Sp}{e:Expr}{es:List Expr}{t:TA}{p pos:Pos}
theorem FnOk.room{P:Program}{w:World}{K:PySem.W.Frag}{mg:Str->Option Value}{base:Heap}{CX:CXT}{f:Addr}{fd:FuncData}(F:FnOk P w K mg base CX j f fd ps sp)(h:j<=k):FnOk P w K mg base CX k f fd ps sp :=
 ⟨F.len,fun A outer s H args us vs Q E hr=>F.run A outer s H args us vs Q E (hr.mono h)⟩
theorem Zx(G:Has X.prog X.w X.K X.mg X.base x ps j sp)(hr:Room k X.A)(hg:Gl X x)(ha:PA X (e::es) t)(hk:j<=k:=by decide)(hdb:(x == ("__debug__" : Str))=false:=by decide)
  (he:starEach (e::es) X.env=(false,eval e X.env)::starEach es X.env:=by rfl) (hpl:(backTo pos (starEach es X.env)).any (·.1)=false:=by rfl) :
  PE X (.Call (.Name x p) (e::es) [] pos) (Zlp sp [] E0 t):=by
 obtain⟨f,fd,F,b,kp,m⟩:=G.ex;exact Zix (F.room hk) hr hg m kp b .nil Zjy ha hdb he hpl
end
section
variable{X:Cx}
theorem ZdU(l:Addr)(items:Array Value)(n:Nat)(b:Addr)(items2:Array Value)(n2:Nat)(dd2:Option Addr)(sl2:Array (Option Value))
  (hs0 : ¬(!items.isEmpty&&Builtin.List.listTooLong (items.size+items2.size))=true) (hs1:items.size<=sizeLine) (hs2:items.size+items2.size<=sizeLine+1) :
  Meets (Builtin.«list.extend» ⟨[.ref l,.ref b],[]⟩) (fun _ R s=>s.heap.get? l=some { cls:=.type "list",dict:=none,data:=.seq items n,slots :=#[] }
   /\ s.heap.get? b=some { cls:=.type "tuple",dict:=dd2,data:=.seq items2 n2,slots:=sl2 }/\R (.ok (.ret Value.none)) { s with heap:=s.heap.update l (Obj.mapSeq fun x=>x++items2),toks:=s.toks }) :=
 .of_wp fun prog w A R s h=>by
  obtain⟨hp,g,d,tk,os⟩:=s;obtain⟨hl,hb,h⟩:=h;have f2:=AutoSeq1.sub_tuple_tuple;have f3:=AutoSeq1.sub_list_list;have f4:=AutoSeq1.sub_tuple_list;have f5:=AutoSeq1.sub_list_tuple;have hz':(items++items2).size<=sizeLine+1:=by
   rw[Array.size_append];exact hs2
  wp_walk using (wpAny_updateSeq hl rfl (hz:=hs1) (_hz':=hz')),AutoSeq1.wpAny_loadPart' hl,AutoSeq1.wpAny_loadPart' hb
  exact⟨_,rfl,h⟩
def Zj5(K:PySem.W.Frag):V->List V->Hp->VK->Prop:=fun x vs H Q=>∃l b xs zs,x=.ref l/\vs=[.ref b]/\H l=some (.lst xs)/\SqT K H b zs/\xs.length+zs.length<=sizeLine/\Q .non (upd H l (.lst (xs++zs)))
theorem ZhL:MtM X "list.extend" (Zj5 X.K):=by
 intro pins s σ H x vs v us Q I rx rv h;obtain⟨l,b,xs,zs,rfl,rfl,hH,hB,hz,q⟩:=h;cases rx;obtain⟨u,rfl,ru⟩:=rv.one;cases ru;obtain⟨z,its,n,r,hl,e⟩:=I.lstM hH;obtain⟨its2,r2,tup,z2⟩:=I.tuple hB;obtain⟨⟨cls,dd,data,sl⟩,ho,hc,n2,hd⟩:=tup;simp only at hc hd;subst hc hd;have hl2:=r2.length;have hsz:its.toArray.size+its2.toArray.size<=sizeLine:=by
  rw[List.size_toArray,List.size_toArray,<- hl,<- hl2];exact hz
 have hlong : ¬ (!its.toArray.isEmpty&&Builtin.List.listTooLong (its.toArray.size+its2.toArray.size))=true:=by
  rw[Zfa hsz,Bool.and_false];exact Bool.false_ne_true
 refine call_meets F.slot_list_extend ⟨_,e,rfl⟩ F.entry_list_extend (F.args_list_extend_2 _ _)
  (ZdU l its.toArray n b its2.toArray n2 dd sl hlong (by rw[List.size_toArray];lia) (by lia)) ⟨e,ho,?_⟩
 refine⟨.non,_,I.lset (its':=its++its2) hH e (by simp) (r.append r2) ?_,rfl,q⟩;rw[List.length_append];lia
end
end L2
namespace HT
open PySem PyProof.Rows
section
variable{prog:Program}{w:World}{A:Around}{E:Value->Shared->Prop}{s:Shared}
theorem ZhA(n:Nat):Builtin.Slice.sliceAdjust none none (-1) (n:Int)=((n:Int)-1,-1):=by
 unfold Builtin.Slice.sliceAdjust;rfl
theorem ZhX(n:Nat):Builtin.Slice.slicePlaces ((n:Int)-1) (-1) (-1)=n:=by
 unfold Builtin.Slice.slicePlaces;have h1 : ¬ ((-1:Int) > 0):=by lia
 have h2:(-(-1:Int))=1:=rfl;simp only[h1,if_false,h2,Int.ediv_one]
 split <;> lia
theorem Zc4{sl:Addr}{vl vu vs:Value}{n:Nat}{Q:Int×Int×Nat->Shared->Prop}(hs:s.heap.IsSliceOf sl vl vu vs)(pl:IsPart vl none)(pu:IsPart vu none)(ps:IsPart vs (some (-1)))
  (h:Q ((n:Int)-1,-1,n) s):wpAny (model prog w) A (Builtin.Slice.sliceApplied (.ref sl) (pure (n:Int))) Q E s:=by
 obtain⟨os,hos,hcs,hds⟩:=id hs;unfold Builtin.Slice.sliceApplied Builtin.Slice.sliceFields;refine wpAny_bind (wpAny_bind (wpAny_field hos hds (x:=vl) rfl (wpAny_bind (wpAny_field hos hds (x:=vu) rfl (wpAny_bind (wpAny_field hos hds (x:=vs) rfl (wpAny_pure ?_)))))));refine wpAny_bind (ZcX ps ?_);show wpAny _ _ (if((-1:Int) == 0)=true then _ else _) _ _ s
 rw[if_neg (by decide)];refine wpAny_bind (ZcX pl (wpAny_bind (ZcX pu (wpAny_bind (wpAny_pure ?_)))));show wpAny _ _ (match Builtin.Slice.sliceAdjust none none (-1) (n:Int) with|(lo,hi)=>pure (lo,(-1:Int),Builtin.Slice.slicePlaces lo hi (-1))) _ _ s
 rw[ZhA n];show wpAny _ _ (pure ((n:Int)-1,(-1:Int),Builtin.Slice.slicePlaces ((n:Int)-1) (-1) (-1))) _ _ s;rw[ZhX];exact wpAny_pure h
theorem Zhr{α : Type}(l:List α):∀k:Nat,k<=l.length->((List.range k).filterMap fun(m:Nat)=>l.toArray[((l.length:Int)-1+(m:Int)*(-1)).toNat]?)=l.reverse.take k
 | 0,_=>by simp
 | k+1,hk=>by
  rw[List.range_succ,List.filterMap_append,Zhr l k (by lia),List.take_succ]
  congr 1
  have e:((l.length:Int)-1+(k:Int)*(-1)).toNat=l.length-1-k:=by lia
  simp only[List.filterMap_cons,List.filterMap_nil,e,List.getElem?_toArray];rw[List.getElem?_reverse (by lia)];cases l[l.length-1-k]? <;> rfl
theorem ZcC{t sl:Addr}{its:List Value}{vl vu vs:Value}{Q:Value->Shared->Prop}(ht:IsTup s.heap t its.toArray)(hs:s.heap.IsSliceOf sl vl vu vs)(pl:IsPart vl none)(pu:IsPart vu none)(ps:IsPart vs (some (-1)))
  (h:Q (.ref s.heap.objs.size) { s with heap:=s.heap.push { cls:=.type "tuple",data:=.seq its.reverse.toArray } })
  (hsz:its.length<=sizeLine):wpAny (model prog w) A (getItem (.ref t) (.ref sl)) Q E s:=by
 have hok:sizeOk (.seq its.reverse.toArray):=by
  show its.reverse.toArray.size<=sizeLine;rw[List.size_toArray,List.length_reverse];exact hsz
 obtain⟨os,hos,hcs,hds⟩:=id hs;have hTs:s.TypeIs (.ref sl) "slice" := ⟨os,hos,hcs⟩;unfold getItem
 try with_reducible refine wpAny_holding ?_
 first|refine wpAny_bind (wpAny_pure ?_)|skip
 refine wpAny_bind (wpAny_sequenceKey ht.typeIs (by decide) ?_);refine wpAny_bind (wpAny_callSpecial?_slot (name:=Str.ofString "__getitem__") ht.typeIs PyProof.Rows.slot_tuple_getitem
  (wpAny_call_entry PyProof.Rows.slot_tuple_getitem ht.typeIs entry_tuple_getitem ?_ (args_tuple_getitem _ _)))
 show wpAny _ _ (Builtin.Tuple.tupleItemsOf (.ref t) >>= _) _ _ s;refine wpAny_bind (tupleItemsOf_ ht ?_);refine wpAny_bind (wpAny_typeOf hTs ?_);rw[if_pos (by decide)];refine wpAny_bind (Zc4 (n:=its.toArray.size) hs pl pu ps ?_);have hno : ¬ (((its.toArray.size:Int)-1 == 0&&(-1:Int) == 1&&its.toArray.size == its.toArray.size)=true):=by
  intro q;rw[Bool.and_eq_true,Bool.and_eq_true] at q;exact absurd q.1.2 (by decide)
 show wpAny _ _ (if((its.toArray.size:Int)-1 == 0&&(-1:Int) == 1&&its.toArray.size == its.toArray.size)=true then _ else _) _ _ s
 have hp:=Zhr its its.length (Nat.le_refl _);rw[List.take_of_length_le (by simp)] at hp;rw[if_neg hno];simp only[List.size_toArray];rw[hp]
 first
  | exact wpAny_bind (m:=Builtin.Tuple.tupleExact _) (wpAny_newObj_type (wpAny_pure ⟨_,rfl,wpAny_pure h⟩) hok)
  | exact wpAny_bind (m:=Builtin.Tuple.tupleExact _) (wpAny_newObj_type (wpAny_bind (wpAny_pure (wpAny_pure ⟨_,rfl,wpAny_pure h⟩))) hok)
  | exact wpAny_bind (wpAny_bind (m:=Builtin.Tuple.tupleExact _) (wpAny_newObj_type (wpAny_pure (wpAny_pure ⟨_,rfl,wpAny_pure h⟩)) hok))
  | exact wpAny_bind (wpAny_bind (m:=Builtin.Tuple.tupleExact _) (wpAny_newObj_type (wpAny_pure ⟨_,rfl,wpAny_pure h⟩) hok))
end
end HT
namespace L2
open PySem PySem.Spec PyProof.Rows
mutual
inductive Dp(K:PySem.W.Frag)(H:Hp):V->PyData->Prop
 | non:Dp K H .non .none
 | bl (b:Bool):Dp K H (.bl b) (.bool b)
 | int (i:Int):Dp K H (.int i) (.int i)
 | str (x:Str):Dp K H (.str x) (.str x)
 | lst {a:Addr} {xs:List V} {ds:List PyData}:SqL K H a xs->DpAll K H xs ds->Dp K H (.ref a) (.list ds)
 | tup {a:Addr} {xs:List V} {ds:List PyData}:SqT K H a xs->DpAll K H xs ds->Dp K H (.ref a) (.tuple ds)
inductive DpAll(K:PySem.W.Frag)(H:Hp):List V->List PyData->Prop
 | nil:DpAll K H [] []
 | cons {v:V} {vs:List V} {d:PyData} {ds:List PyData}:Dp K H v d->DpAll K H vs ds->DpAll K H (v::vs) (d::ds)
end
section
variable{X:Cx}{pins:List (Addr×Obj)}{σ : St}{H:Hp}{s:Shared}
mutual
theorem Dp.reads(I:Inv X pins σ H s):∀{v:V}{d:PyData}{u:Value},Dp X.K H v d->RelV v u->∃as,Reads s.heap u d as
 | _,_,u,.non,r=>by
  obtain rfl:u=Value.none:=r;exact⟨_,.none⟩
 | _,_,u,.bl b,r=>by
  obtain rfl:u=Value.bool b:=r;exact⟨_,.bool b⟩
 | _,_,_,.int i,⟨t,e⟩=>by
  subst e;exact⟨_,.int i t⟩
 | _,_,_,.str x,⟨t,e⟩=>by
  subst e;exact⟨_,.str x t⟩
 | _,_,u,@Dp.lst _ _ a xs ds hq hall,r=>by
  obtain rfl:u=Value.ref a:=r;obtain⟨its,rv,⟨o,n,e,hc,_,hd⟩,_⟩:=I.list hq;obtain⟨as,ha⟩:=DpAll.reads I hall rv;exact⟨_,.list e hc hd (by simpa using ha)⟩
 | _,_,u,@Dp.tup _ _ a xs ds hq hall,r=>by
  obtain rfl:u=Value.ref a:=r;obtain⟨its,rv,⟨o,e,hc,n,hd⟩,_⟩:=I.tuple hq;obtain⟨as,ha⟩:=DpAll.reads I hall rv;exact⟨_,.tuple e hc hd (by simpa using ha)⟩
theorem DpAll.reads(I:Inv X pins σ H s):∀{vs:List V}{ds:List PyData}{us:List Value},DpAll X.K H vs ds->Vals vs us->∃as,ReadsAll s.heap us ds as
 | _,_,_,.nil,.nil=>⟨_,.nil⟩
 | _,_,_,.cons h t,.cons r rs=>by
  obtain⟨as,ha⟩:=Dp.reads I h r;obtain⟨bs,hb⟩:=DpAll.reads I t rs;exact⟨_,.cons ha hb⟩
end
end
section
variable{X:Cx}
def ZmD(K:PySem.W.Frag)(neg:Bool):R2:=fun x y H Q=>∃d e,Dp K H x d/\Dp K H y e/\d.canLay0=true/\e.canLay0=true/\min d.depth e.depth<=200/\Q (.bl (if neg then !PyData.eqv d e else PyData.eqv d e)) H
theorem Zmx(hu:X.A.units+200<cLine):OpR X (compareOp .Eq) (ZmD X.K false):=by
 intro pins s σ H x y v u Q I rx ry h;obtain⟨d,e,hx,hy,h1,h2,hd,q⟩:=h;obtain⟨as,ra⟩:=hx.reads I rx;obtain⟨bs,rb⟩:=hy.reads I ry;exact PySem.SeqAt.compareEq_reads ra rb h1 h2 (by lia) ⟨.bl _,H,I,rfl,q⟩
theorem Zjc(hu:X.A.units+200<cLine):OpR X (compareOp .NotEq) (ZmD X.K true):=by
 intro pins s σ H x y v u Q I rx ry h;obtain⟨d,e,hx,hy,h1,h2,hd,q⟩:=h;obtain⟨as,ra⟩:=hx.reads I rx;obtain⟨bs,rb⟩:=hy.reads I ry;exact PySem.SeqAt.compareNe_reads ra rb h1 h2 (by lia) ⟨.bl _,H,I,rfl,q⟩
theorem Zfe{A:Around}{k:Nat}(hr:Room k A):A.units+200<cLine:=by
 have:=hr.un;lia
end
section
variable{X:Cx}{e:Expr}{te:TE}{pos p2 p3 p4:Pos}{j:Nat}
def ZmY(K:PySem.W.Frag):V->Hp->VK->Prop:=fun x H Q=>∃a xs,x=.ref a/\SqT K H a xs/\∀p,H p=none->Q (.ref p) (upd H p (.tup xs.reverse))
theorem Ziw(he:PE X e te):PE X (.Subscript e (.Slice none none (some (.UnaryOp .USub (.Constant (.int 1) j p4) p3)) p2) pos) (tUn (ZmY X.K) te):=by
 intro pins s σ H Q I h;refine Subscript_ (thn (he pins s σ H _ I h) fun v s1 ⟨x,H1,I1,r1,q1⟩=>?_);obtain⟨a,xs,rfl,hx,q⟩:=q1;cases r1;refine wpAny_Slice (thn (ZcG pins s1 σ H1 (fun o H'=>o=none/\H'=H1) I1 ⟨rfl,rfl⟩) fun vl s2 ⟨l,H2,I2,pl,el,eh⟩=>?_);subst el eh;refine thn (ZcG pins s2 σ H2 (fun o H'=>o=none/\H'=H2) I2 ⟨rfl,rfl⟩) fun vu s3 ⟨u,H3,I3,pu,el,eh⟩=>?_;subst el eh;refine thn (ZeZ (Zeh Zb9 Zh) pins s3 σ H3 (fun o H'=>o=some (-1)/\H'=H3) I3 ⟨1,rfl,-1,rfl,rfl,rfl⟩) fun vt s4 ⟨o,H4,I4,pt,el,eh⟩=>?_;subst el eh;have I5:Inv X pins σ H4 { s4 with heap:=s4.heap.push { cls:=.type "slice",data:=.fields #[vl,vu,vt] } }:=I4.kept (t':=s4.toks) fun b ob q=>Heap.get?_push_of_some _ q;obtain⟨its,r,ht,hz⟩:=I5.tuple hx;have hlen:=r.length;show wpAny (model X.prog X.w) X.A (subscriptTail e (.Slice none none (some (.UnaryOp .USub (.Constant (.int 1) j p4) p3)) p2) (.ref a) (.ref s4.heap.objs.size)) (EP X pins σ Q) X.xe { s4 with heap:=s4.heap.push { cls:=.type "slice",data:=.fields #[vl,vu,vt] } };refine tail_any (ops:=[.ref a,.ref s4.heap.objs.size]) ht.typeIs PyProof.Rows.slot_tuple_getitem.lookup (HT.ZcC ht (Heap.IsSliceOf.new ..) pl pu pt ?_ (by lia)) (by with_unfolding_all rfl)
 refine⟨.ref _,_,I5.laid (t':=s4.toks) (o:=.tup xs.reverse) (fun b ob q=>Heap.get?_push_of_some _ q) (Nat.le_refl _) ?_,rfl,q _ (I5.hok.fresh (Nat.le_refl _))⟩;exact⟨by rw[List.length_reverse];exact hz,_,r.reverse,IsTup.new _ _⟩
end
def TK(H H':Hp):Prop := ∀b xs,H b=some (.tup xs)->H' b=some (.tup xs)
theorem TK.trans{H H1 H2:Hp}(a:TK H H1)(b:TK H1 H2):TK H H2:=fun c xs h=>b c xs (a c xs h)
theorem TK.new{H:Hp}{p:Addr}{o:HO}(h:H p=none):TK H (upd H p o):=fun b xs q=>by
 rw[Zc (Zi q h)];exact q
theorem TK.lst{H:Hp}{p:Addr}{xs:List V}{o:HO}(h:H p=some (.lst xs)):TK H (upd H p o):=fun b ys q=>by
 by_cases e:b=p
 ·subst e;rw[h] at q;cases q
 ·rw[Zc e];exact q
theorem Zn.tk{H H':Hp}(h:Zn H H'):TK H H':=fun b xs q=>h b _ q
theorem Zn.new{H:Hp}{p:Addr}{o:HO}(h:H p=none):Zn H (upd H p o):=fun b u q=>by
 rw[Zc (Zi q h)];exact q
theorem Zn.upd_new{H H':Hp}{p:Addr}{o:HO}(h:Zn H H')(hp:H p=none):Zn H (upd H' p o):=fun b u q=>by
 rw[Zc (Zi q hp)];exact h b u q
theorem Zn.seqT{K:PySem.W.Frag}{H H':Hp}{a:Addr}{xs:List V}(e:Zn H H')(h:SqT K H a xs):SqT K H' a xs:=by
 rcases h with(h|⟨o,h⟩)|h
 ·exact .inl (.inl (e _ _ h))
 ·exact .inl (.inr ⟨o,e _ _ h⟩)
 ·exact .inr h
theorem Zk{H:Hp}{p b:Addr}{o:HO}(h:upd H p o b=none):b≠p/\H b=none:=by
 by_cases e:b=p
 ·subst e;rw[Zb] at h;cases h
 ·rw[Zc e] at h;exact⟨e,h⟩
section
variable{X:Cx}
theorem ZfP(hu:X.A.units+200<cLine):OpR X (compareOp .Eq) (fun x y H Q=>∃a xs z,x=.ref a/\y=.str z/\SqT X.K H a xs/\Q (.bl false) H):=by
 intro pins s σ H x y v u Q I rx ry h;obtain⟨a,xs,z,rfl,rfl,hx,q⟩:=h;cases rx;obtain⟨t,rfl⟩:=ry;obtain⟨its,r,⟨o,e,hc,n,hd⟩,_⟩:=I.tuple hx;exact PySem.SeqAt.RcAt.tuple_str z t ⟨o,e,hc,n,hd⟩ (by lia) X.prog X.w X.xe _ ⟨.bl false,H,I,rfl,q⟩
theorem ZlA(hu:X.A.units+200<cLine):OpR X (compareOp .Eq) (fun x y H Q=>(∃a xs z,x=.ref a/\y=.str z/\SqT X.K H a xs/\Q (.bl false) H)\/rEq x y H Q):=(ZfP hu).or Zca
end
theorem Paired.app{α β : Type}{F : α -> β -> Prop}:∀{l₁ k₁ : List α}{l₂ k₂ : List β},Paired F l₁ l₂ -> Paired F k₁ k₂ -> Paired F (l₁ ++ k₁) (l₂ ++ k₂)
 | _,_,_,_,.nil,s=>s
 | _,_,_,_,.cons r t,s=>.cons r (Paired.app t s)
theorem Paired.unsnoc{α β : Type}{F : α -> β -> Prop}:∀{l:List α}{a : α}{l₂ : List β},Paired F (l ++ [a]) l₂ -> ∃k b,l₂ = k ++ [b]/\Paired F l k/\F a b
 | [],_,_,.cons r .nil=>⟨[],_,rfl,.nil,r⟩
 | x::l,a,_,.cons r t=>by
  obtain⟨k,b,e,p,f⟩:=Paired.unsnoc (l:=l) t;exact⟨_::k,b,by rw[e];rfl,.cons r p,f⟩
theorem ZjB{α : Type}{l:List α}(h:l ≠ []):∃k a,l=k ++ [a]:=⟨l.dropLast,l.getLast h,(List.dropLast_concat_getLast h).symm⟩
theorem Zay{α : Type}(l:List α)(a : α):(l ++ [a])[(l ++ [a]).length-1]?= some a:=by
 simp
theorem Zav{α : Type}(l:List α)(a : α):(l ++ [a]).dropLast=l:=by
 simp
end L2
namespace Fg
open PySem L2 FgM
abbrev SL:Str := "/"
inductive RepG(H:Hp):List V->Gr Str->Prop
 | nil:RepG H [] .nil
 | cons {p q:Addr} {t:Str} {ys vs:List V} {w o:Gr Str}:H p=some (.tup [.str t,.ref q])->H q=some (.tup ys)->RepG H ys w->RepG H vs o->RepG H (.ref p::vs) (.cons t w o)
theorem RepG.mono{H H':Hp}(k:TK H H'):∀{vs:List V}{g:Gr Str},RepG H vs g->RepG H' vs g
 | _,_,.nil=>.nil
 | _,_,.cons h1 h2 h3 h4=>.cons (k _ _ h1) (k _ _ h2) (h3.mono k) (h4.mono k)
theorem RepG.snoc{H:Hp}{p q:Addr}{t:Str}{ys:List V}{w:Gr Str}(h1:H p=some (.tup [.str t,.ref q]))(h2:H q=some (.tup ys))(h3:RepG H ys w) :
  ∀{vs:List V}{g:Gr Str},RepG H vs g->RepG H (vs ++ [.ref p]) (snoc g t w)
 | _,_,.nil=>.cons h1 h2 h3 .nil
 | _,_,.cons a b c d=>.cons a b c (RepG.snoc h1 h2 h3 d)
theorem RepG.length{H:Hp}:∀{vs:List V}{g:Gr Str},RepG H vs g->vs.length<=(words SL g).length
 | _,_,.nil=>Nat.le_refl _
 | _,_,.cons _ _ _ d=>by
  have:=d.length;simp only[List.length_cons,words,List.length_append];lia
def Zk8(H:Hp)(v:V):Item Str->Prop
 | none=>v=.str SL
 | some (t,w)=>∃p q ys,v=.ref p/\H p=some (.tup [.str t,.ref q])/\H q=some (.tup ys)/\RepG H ys w
theorem Zk8.mono{H H':Hp}(k:TK H H'){v:V}:∀{x:Item Str},Zk8 H v x->Zk8 H' v x
 | none,h=>h
 | some _,⟨p,q,ys,e,a,b,c⟩=>⟨p,q,ys,e,k _ _ a,k _ _ b,c.mono k⟩
theorem RepG.items{H:Hp}:∀{vs:List V}{g:Gr Str},RepG H vs g->Paired (Zk8 H) vs (items g)
 | _,_,.nil=>.nil
 | _,_,.cons a b c d=>.cons ⟨_,_,_,rfl,a,b,c⟩ d.items
theorem ZcA{α β : Type}{F : α -> β -> Prop}:∀{l₁ : List α}{l₂ : List β},Paired F l₁ l₂ -> Paired F l₁.reverse l₂.reverse
 | _,_,.nil=>.nil
 | _,_,.cons r t=>by
  rw[List.reverse_cons,List.reverse_cons];exact Paired.app (ZcA t) (.cons r .nil)
theorem Zcy{H H':Hp}(k:TK H H'){vs:List V}{st:List (Item Str)}(h:Paired (Zk8 H) vs st):Paired (Zk8 H') vs st:=Paired.mapP h fun _ _ r=>r.mono k
abbrev Zi0(H:Hp):List Addr->List (Gr Str)->Prop:=Paired fun a g=>∃vs,H a=some (.lst vs)/\RepG H vs g
theorem ZdK{H H':Hp}(k:TK H H'):∀{as:List Addr}{gs:List (Gr Str)},Zi0 H as gs->(∀b∈as,∀o,H b=some o->H' b=some o)->Zi0 H' as gs
 | _,_,.nil,_=>.nil
 | _,_,.cons ⟨vs,h1,h2⟩ t,hk=>.cons ⟨vs,hk _ (List.mem_cons_self ..) _ h1,h2.mono k⟩ (ZdK k t fun b hb=>hk b (List.mem_cons_of_mem _ hb))
theorem ZeG{H:Hp}:∀{as:List Addr}{gs:List (Gr Str)},Zi0 H as gs->∀b∈as,∃o,H b=some o
 | _,_,.nil,_,hb=>nomatch hb
 | _,_,.cons ⟨vs,h1,_⟩ t,b,hb=>by
  rcases List.mem_cons.mp hb with rfl|hb
  ·exact⟨_,h1⟩
  ·exact ZeG t b hb
def Zez(t:Str):Prop:=t.cps.toList ≠ []/\∀c∈t.cps.toList,97<=c/\c<=122
def ZlM(t:Str):Prop := ∀c∈t.cps.toList,97<=c/\c<=122
theorem Zgs(x y:Str):(x++y).cps.toList=x.cps.toList++y.cps.toList:=by
 show(x.cps++y.cps).toList=_;simp
theorem Zkg{x y:Str}(hx:ZlM x)(hy:ZlM y):ZlM (x++y):=fun c hc=>by
 rw[Zgs] at hc;exact(List.mem_append.mp hc).elim (hx c) (hy c)
theorem Zez.let0{t:Str}(h:Zez t):ZlM t:=h.2
theorem ZmA{x y:Str}(hx:Zez x)(hy:ZlM y):Zez (x++y):=⟨by rw[Zgs];intro z;exact hx.1 (List.append_eq_nil_iff.mp z).1,Zkg hx.2 hy⟩
theorem Zkw{c:Nat}(h1:97<=c)(h2:c<=122):Zez ⟨#[c]⟩:=⟨by simp,fun d hd=>by simp at hd;lia⟩
theorem Zez.ne{t:Str}(h:Zez t):t≠SL:=fun e=>by
 subst e;have:=h.2 47 (by decide);lia
theorem ZlM.ok{t:Str}(h:ZlM t):PyData.strOk t=true:=by
 unfold PyData.strOk;rw[Array.all_eq_true_iff_forall_mem];intro c hc;have:=h c (by simpa using hc);exact decide_eq_true (by lia)
theorem Zma:PyData.strOk SL=true:=by decide +kernel
def ABC:Str := "abcdefghijklmnopqrstuvwxyz"
theorem Zlf:∀n:_root_.Fin 26,97<=ABC.cps.toList.getD n.val 0/\ABC.cps.toList.getD n.val 0<=122/\n.val<ABC.cps.toList.length:=by decide
theorem ZiI{i:Int}(h0:0<=i)(h1:i<26):∃c,atI ABC.cps.toList i=some c/\97<=c/\c<=122:=by
 obtain⟨n,rfl⟩:=Int.eq_ofNat_of_zero_le h0;obtain⟨a,b,c⟩:=Zlf ⟨n,by lia⟩;refine⟨_,Zbp (List.getElem?_eq_getElem c),?_,?_⟩
 ·rw[List.getD_eq_getElem?_getD,List.getElem?_eq_getElem c] at a;exact a
 ·rw[List.getD_eq_getElem?_getD,List.getElem?_eq_getElem c] at b;exact b
theorem Zja{ns:List Int}{k:Int}(h0:0<=k)(h:k<(ns.length:Int)):∃v:Int,atI (ns.map V.int) k=some (.int v):=by
 obtain⟨n,rfl⟩:=Int.eq_ofNat_of_zero_le h0;have hn:n<ns.length:=by lia
 exact⟨ns[n],Zbp (by rw[List.getElem?_map,List.getElem?_eq_getElem hn];rfl)⟩
theorem ZgI{ws:List Str}{n:Nat}(h:n<ws.length):atI (ws.map V.str) ((n:Nat):Int)=some (.str ws[n]):=Zbp (by rw[List.getElem?_map,List.getElem?_eq_getElem h];rfl)
def Zgb(K:PySem.W.Frag):Sp:=fun vs H Q _=>∃(a:Addr)(xs:List V)(g:Gr Str),vs=[.ref a]/\SqT K H a xs/\RepG H xs g/\(words SL g).length<=1000 /\
 ∀(r:Addr)(H':Hp),Zn H H'->H r=none->H' r=some (.lst ((words SL g).map V.str))->Q (.ref r) H'
def Zj8(K:PySem.W.Frag):Sp:=fun vs H Q _=>∃(a:Addr)(ns:List Int),vs=[.ref a]/\SqL K H a (ns.map V.int)/\ns.length<=63/\∀H',Q (.bl true) H'
theorem Zao{n:Nat}(h:n<=100000):n<=sizeLine:=Nat.le_trans h (by decide)
theorem Zv{n:Nat}(h:n<=100000):n<sizeLine:=Nat.lt_of_le_of_lt h (by decide)
theorem Zk7(x y:Str):(x++y).length=x.length+y.length:=by
 show(x.cps++y.cps).size=_;rw[Array.size_append];rfl
theorem Zkq(xs:List V)(n:Nat):ZjO xs (some (n:Int)) none=xs.drop n:=by
 unfold ZjO;rw[HT.Zis,HT.Zhn];rw[List.take_of_length_le (by rw[List.length_drop];exact Nat.le_refl _)];by_cases h:n<=xs.length
 ·rw[Nat.min_eq_left h]
 ·rw[Nat.min_eq_right (by lia),List.drop_length,List.drop_eq_nil_of_le (by lia)]
theorem ZgF{K:PySem.W.Frag}{H:Hp}:∀ws:List Str,DpAll K H (ws.map V.str) (ws.map PyData.str)
 | []=>.nil
 | w::ws=>.cons (.str w) (ZgF ws)
theorem Ze0:∀{ws:List Str},(∀w∈ws,PyData.strOk w=true)->PyData.canLayAll0 (ws.map PyData.str)=true
 | [],_=>rfl
 | w::ws,h=>by
  show(PyData.strOk w&&PyData.canLayAll0 (ws.map PyData.str))=true;rw[h w (List.mem_cons_self ..),Ze0 fun x hx=>h x (List.mem_cons_of_mem _ hx)];rfl
theorem ZcF:∀ws:List Str,PyData.depthAll (ws.map PyData.str)=0
 | []=>rfl
 | w::ws=>by
  show max (PyData.depth (.str w)) (PyData.depthAll (ws.map PyData.str))=0;rw[ZcF ws];rfl
theorem Zkn(xs:List V)(n:Nat):ZjO xs none (some (n:Int))=xs.take n:=by
 unfold ZjO;rw[HT.Zis,HT.Zhn,List.drop_zero,Nat.sub_zero];by_cases h:n<=xs.length
 ·rw[Nat.min_eq_left h]
 ·rw[Nat.min_eq_right (by lia),List.take_length,List.take_of_length_le (by lia)]
end Fg
namespace L2
open PySem PySem.Spec PyProof.Rows
theorem ZeC:∀{ys:List Str}{us:List Value},Vals (ys.map V.str) us->StrsAre us ys
 | [],_,.nil=>.nil
 | y::ys,_,.cons r t=>by
  obtain⟨tk,e⟩:=r;subst e;exact .cons y tk (ZeC t)
section
variable{X:Cx}
def rJoin(K:PySem.W.Frag):V->List V->Hp->VK->Prop:=fun x vs H Q=>∃z a ys,x=.str z/\vs=[.ref a]/\SqL K H a (ys.map V.str)/\(ys.map (·.length)).sum+ys.length*z.length<=16777216/\Q (.str (Txt.join z ys)) H
theorem Zi8:MtM X "str.join" (rJoin X.K):=by
 intro pins s σ H x vs v us Q I rx rv h;obtain⟨z,a,ys,rfl,rfl,hS,hz,q⟩:=h;obtain⟨t,rfl⟩:=rx;obtain⟨u,rfl,ru⟩:=rv.one;cases ru;obtain⟨its,r,pl,_⟩:=I.list hS;exact join_list pl.isList (by simpa using ZeC r) hz fun t' k=>⟨.str _,H,I.tok _,⟨_,rfl⟩,q⟩
theorem Zfp(hu:X.A.units+200<cLine):OpR X (compareOp .NotEq) (fun x y H Q=>∃a b xs,x=.ref a/\y=.ref b/\SqL X.K H a xs/\SqL X.K H b []/\Q (.bl (!xs.isEmpty)) H):=by
 intro pins s σ H x y v u Q I rx ry h;obtain⟨a,b,xs,rfl,rfl,ha,hb,q⟩:=h;cases xs with
 | nil=>exact Zjc hu pins s σ H _ _ v u Q I rx ry ⟨.list [],.list [],.lst ha .nil,.lst hb .nil,rfl,rfl,by decide,q⟩
 | cons x xs =>
  cases rx;cases ry;obtain⟨its,r,pl,_⟩:=I.list ha;obtain⟨its2,r2,pl2,_⟩:=I.list hb;have l1:=r.length;have l2:=r2.length;refine PySem.SeqAt.RcNeAt.lists_lengths pl.isList pl2.isList ?_ (by lia) X.prog X.w X.xe _ ⟨.bl _,H,I,rfl,q⟩;rw[List.size_toArray,List.size_toArray,<- l1,<- l2];rfl
end
end L2
namespace Fg
open PySem L2 FgM
def cs(x:Str):List Nat:=x.cps.toList
theorem Zk0(x y:Str):cs (x++y)=cs x++cs y:=Zgs x y
def jn(sep:Str):List Str->List Nat
 | []=>[]
 | [x]=>cs x
 | x::y::r=>cs x++(cs sep++jn sep (y::r))
theorem ZeJ(sep:Str):∀ys:List Str,cs (Str.join sep ys)=jn sep ys
 | []=>rfl
 | [x]=>rfl
 | x::y::r=>by
  show cs (x++sep++Str.join sep (y::r))=_;rw[Zk0,Zk0,ZeJ sep (y::r),List.append_assoc];rfl
theorem Zli(sep:Str)(ys:List Str):cs (Txt.join sep ys)=jn sep ys:=by
 have e:Txt.join sep ys=Str.join sep ys:=PySem.StrLaws.glued_eq_join sep ys;rw[e,ZeJ]
end Fg
namespace L2
open PySem PySem.Spec PyProof.Rows
section
variable{P:Program}{w:World}{H:Hp}{h h':Heap}{a:Addr}{o:HO}
theorem Zaz.there(x:Zaz P w H h a o):∃ob,h.get? a=some ob:=by
 cases o with
 | lst xs=>obtain⟨_,_,_,_,e⟩:=x;exact⟨_,e⟩
 | tup xs=>obtain⟨_,_,_,ob,e,_⟩:=x;exact⟨_,e⟩
 | dK kvs=>obtain⟨_,_,_,_,ob,_,_,e,_⟩:=x;exact⟨_,e⟩
 | dT kvs=>obtain⟨_,_,_,_,ob,_,_,e,_⟩:=x;exact⟨_,e⟩
 | set S n=>obtain⟨ob,_,_,_,e,_⟩:=x;exact⟨_,e⟩
 | ins C dx fs=>obtain⟨_,_,_,e,_⟩:=x;exact⟨_,e⟩
 | own y=>obtain⟨_,e⟩:=x;exact⟨_,e⟩
 | xd fs=>obtain⟨_,⟨_,_,_,e,_⟩,_⟩:=x;exact⟨_,e⟩
 | rng lo hi=>obtain⟨_,_,_,e⟩:=x;exact⟨_,e⟩
 | frz ob u=>obtain⟨e,_⟩:=x;exact⟨_,e⟩
 | tbl ps=>exact⟨_,(show h.get? a=some _ from x)⟩
 | met f y=>exact⟨_,(show h.get? a=some _ from x)⟩
 | ext φ=>obtain⟨_,⟨_,e⟩,_⟩:=x;exact⟨_,e⟩
theorem HOk.freshN(x:HOk P w H h)(e:h.get? a=none):H a=none:=by
 cases q:H a with
 | none=>rfl
 | some u =>
  obtain⟨ob,e'⟩:=(x a u q).there;rw[e] at e';cases e'
end
section
variable{X:Cx}{pins:List (Addr×Obj)}{σ : St}{H:Hp}{s:Shared}{h':Heap}
theorem Inv.laidN{a:Addr}{o:HO}{t':Nat}(I:Inv X pins σ H s)(k:∀b u,s.heap.get? b=some u->h'.get? b=some u)(hp:s.heap.get? a=none)(new:Zaz X.prog X.w (upd H a o) h' a o) :
  Inv X pins σ (upd H a o) { s with heap:=h',toks:=t' }:=by
 have hn:=I.hok.freshN hp;have ne:∀b u,s.heap.get? b=some u->b≠a:=fun b u e z=>by
  rw[z,hp] at e;cases e
 refine I.un ⟨fun b u q _ _ _=>k b u q,fun b u q _ _ _=>⟨u.slots,k b u q⟩,fun b u q n _=>by rw[Zc (ne b u q)];exact n,fun b u q _=>⟨u,k b u q⟩,
  fun b xs q=>by rw[Zc (Zi q hn)];exact q,fun b u xs q=>by rw[Zc (Zi q hn)];exact q,fun b ps q=>⟨#[],by rw[Zc (Zi q hn),q];simp⟩⟩ fun b u e=>?_
 by_cases hb:b=a
 ·subst hb;rw[Zb] at e;cases e;exact new
 ·rw[Zc hb] at e;exact(I.hok b u e).stay (fun c v _ q=>k c v q) (fun c q=>by rw[Zc (Zi q hn)];exact q) fun c xs q=>by rw[Zc (Zi q hn)];exact q
end
section
variable{X:Cx}
theorem ZgW:∀{bs:List Bool}{us:List Value},Vals (bs.map V.bl) us->∀(i:Nat)(v:Value),us[i]?= some v->∃b,bs[i]?= some b/\v=.bool b
 | [],_,.nil,i,v,e=>by simp at e
 | b::bs,_,.cons r t,0,v,e=>by
  obtain rfl:_=Value.bool b:=r;simp at e;exact⟨b,rfl,e.symm⟩
 | b::bs,_,.cons r t,i+1,v,e=>by
  obtain⟨c,h1,h2⟩:=ZgW t i v (by simpa using e);exact⟨c,by simpa using h1,h2⟩
theorem all_range:∀(bs:List Bool),((List.range bs.length).all fun i=>(bs[i]?).getD true)=bs.all id:=by
 intro bs;rw[Bool.eq_iff_iff,List.all_eq_true,List.all_eq_true];constructor
 ·intro h b hb;obtain⟨i,hi,rfl⟩:=List.getElem_of_mem hb;have:=h i (List.mem_range.mpr hi);rw[List.getElem?_eq_getElem hi] at this;exact this
 ·intro h i hi;have hi':=List.mem_range.mp hi;rw[List.getElem?_eq_getElem hi'];exact h _ (List.getElem_mem hi')
theorem Zht(hc:X.calm=true):Zc6 X (.builtin "all") (fun xs H Q=>∃(p:Addr)(bs:List Bool),xs=[.ref p]/\SqL X.K H p (bs.map V.bl)/\Q (.bl (bs.all id)) H):=by
 intro pins s σ H xs us Q I r h;obtain⟨p,bs,rfl,hS,q⟩:=h;obtain⟨u,rfl,ru⟩:=Vals.one r;cases ru;obtain⟨its,rv,pl,hz⟩:=I.list hS;have hl:=pl.isList;have hlen:bs.length=its.length:=by
  have:=rv.length;rw[List.length_map] at this;exact this
 refine call_all_walk (wpAny_pyIter_list hl ⟨s.heap.objs.size,[s.heap.objs.size,p],[s.heap.objs.size],its.toArray.size,_,_,fun i=>(bs[i]?).getD true,rfl,
  Walks.list (A:=X.A.in1) (I.ok.hd hc) _ p (Nat.ne_of_lt pl.lt) its.toArray,⟨⟨_,Heap.get?_push_size _ rfl,rfl,rfl⟩,hl.push _⟩,fun i v s' Q' E' hP hQ=>?_,fun h' tk hk=>?_⟩)
 ·obtain⟨b,e,e2⟩:=ZgW rv i v (by simpa using hP);subst e2;simp only[e,Option.getD_some] at hQ;exact wpAny_truthy_bool hQ
 ·rw[List.size_toArray,<- hlen,all_range];refine⟨.bl _,H,I.kept (t':=tk) fun b o e=>hk b o (fun hm=>?_) (Heap.get?_push_of_some _ e),rfl,q⟩;rw[List.mem_singleton.mp hm] at e;exact Nat.lt_irrefl _ (Heap.lt_size e)
end
def azB(c:Nat):Bool:=decide (97<=c)&&decide (c<=122)
theorem ZkM(a b:Nat):decide (([a]:List Nat) < [b])=decide (a<b):=by
 have h:(([a]:List Nat) < [b])↔a<b:=by
  constructor
  ·intro h;cases h with
   | rel h=>exact h
   | cons h=>cases h
  ·intro h;exact List.Lex.rel h
 exact decide_eq_decide.mpr h
section
variable{prog:Program}{w:World}{A:Around}{E:Value->Shared->Prop}{s:Shared}
theorem Zl9{x y:Str}{t u:Tok}{Q:Value->Shared->Prop}(h:Q (.bool (!decide (y.cps.toList<x.cps.toList))) s):wpAny (model prog w) A (compareOp .LtE (.str x t) (.str y u)) Q E s:=PySem.P.le_str h
theorem Zm6{s₂ : Shared}{C:Addr}{m:Str->Option Value}{sc:Scope}{env:Env}{n:Str}{pos:Pos}{v:Value}{Q:Value->Shared->Prop}(x:InComp s₂ C m s)(hk:sc.kind=.function)(hl:sc.names.lookup n=some .local)
  (hv:m n=some v) (hd:(n == ("__debug__" : Str))=false) (h:Q v s):wpAny (model prog w) A (eval (.Name n pos) (compEnv sc C env)) Q E s:=PySem.ldK x hk hl hv h hd
theorem Zmb{scope:Scope}{C:Addr}{env:Env}{m:Str->Option Value}{x:Str}{c:Nat}{u:Tok}{j j2:Nat}{p1 p2 p3 pos:Pos}(hk:scope.kind=.function)(hx:scope.names.lookup x=some .local)(hd:(x == ("__debug__" : Str))=false)
  (hn:s.heap.Ns C m) (hm:m x=some (.str ⟨#[c]⟩ u)) :
  wpAny (model prog w) A (eval (.Compare (.Constant (.str "a") j p1) [.LtE,.LtE] [.Name x p2,.Constant (.str "z") j2 p3] pos) (compEnv scope C env)) (fun r s'=>r=.bool (azB c)/\Keeps s s') E s:=by
 have I0:=(InComp.start hn).tok (s.toks+1);have ea:("a" : Str).cps.toList=[97]:=by decide +kernel
 have ez:("z" : Str).cps.toList=[122]:=by decide +kernel
 have e1:decide (([c]:List Nat) < [97])=decide (c<97):=ZkM c 97;have e2:decide (([122]:List Nat) < [c])=decide (122<c):=ZkM 122 c;refine Compare_chain (Calls.Constant_str ?_);refine chain_link ?_;refine Zm6 I0 hk hx hm hd ?_;refine Zl9 ?_;rw[ea];show wpAny (model prog w) A (truthy (.bool (!decide (([c]:List Nat) < [97])))) _ _ _;rw[e1];refine wpAny_truthy_bool ?_;by_cases h1:c<97
 ·rw[decide_eq_true h1];refine ite_ff ⟨?_,I0.done⟩;unfold azB;rw[decide_eq_false (by lia : ¬ 97<=c)];rfl
 ·rw[decide_eq_false h1];refine ite_tt ?_;refine chain_last ?_;refine Calls.Constant_str ?_;refine Zl9 ?_;rw[ez];refine⟨?_,(I0.tok _).done⟩;show Value.bool (!decide (([122]:List Nat) < [c]))=_;rw[e2];unfold azB;rw[decide_eq_true (by lia:97<=c)];by_cases h2:c<=122
  ·rw[decide_eq_true h2,decide_eq_false (by lia)];rfl
  ·rw[decide_eq_false h2,decide_eq_true (by lia)];rfl
end
theorem ZkS:∀{cs:List Nat}{vs us:List Value},(∀(j:Nat)(v:Value),vs[j]?= some v->∃(c:Nat)(u:Tok),cs[j]?= some c/\v=Value.str ⟨#[c]⟩ u)->vs.length=cs.length->Paired (fun v r=>∃c u,v=Value.str ⟨#[c]⟩ u/\r=Value.bool (azB c)) vs us ->
  Vals (cs.map fun c=>.bl (azB c)) us
 | [],[],_,_,_,.nil=>.nil
 | [],v::vs,_,_,h,_=>by simp at h
 | c::cs,[],_,_,h,_=>by simp at h
 | c::cs,v::vs,_,hP,hl,.cons hr t=>by
  obtain⟨c',u',e1,e2⟩:=hP 0 v rfl;obtain⟨c2,u2,e3,e4⟩:=hr;simp at e1;subst e1;rw[e2] at e3;injection e3 with e5 _;injection e5 with e6;simp at e6;subst e6;refine .cons e4 (ZkS (fun j v hv=>?_) (by simpa using hl) t);obtain⟨c3,u3,f1,f2⟩:=hP (j+1) v (by simpa using hv);exact⟨c3,u3,by simpa using f1,f2⟩
section
variable{X:Cx}{iter:Expr}{te:TE}{scope:Scope}{x:Str}{px p1 p2 p3 p4 pos:Pos}{j j2:Nat}
theorem Zh2(hi:PE X iter te)(hc:X.calm=true)(hfree:∀y∈scope.names,y.2 ≠ .free)(hcell:∀y∈scope.names,y.2 ≠ .cell)(hk:scope.kind=.function)
  (hnames:∀y∈scope.names,y.2=.local->scope.names.lookup y.1=some .local) (hx:scope.names.lookup x=some .local) (hd:(x == ("__debug__" : Str))=false) (hs:∀v,foldedSetIterable iter X.env v=pure v) :
  PE X (.ListComp (.Compare (.Constant (.str "a") j p1) [.LtE,.LtE] [.Name x p2,.Constant (.str "z") j2 p3] p4) [⟨.Name x px,iter,[],0⟩] scope pos)
   (fun σ H Q=>te σ H fun v H1=>∃z,v=.str z/\z.length<=sizeLine/\∀p,H1 p=none->Q (.ref p) (upd H1 p (.lst (z.cps.toList.map fun c=>.bl (azB c))))):=by
 intro pins s σ H Q I h;refine wpAny_ListComp_walk (fun _=>true) (fun v r=>∃c u,v=Value.str ⟨#[c]⟩ u/\r=Value.bool (azB c)) hfree hcell hk hnames hx (thn (hi pins s σ H _ I h) fun v s1 ⟨xv,H1,I1,r1,q1⟩=>?_) hs;obtain⟨z,rfl,hz,q⟩:=q1;obtain⟨t,rfl⟩:=r1;refine wpAny_pyIter_str fun o St W hst=>⟨s1.heap.objs.size,[s1.heap.objs.size],[s1.heap.objs.size],z.cps.size,SignAt z,St,rfl,W X.A (I1.ok.hd hc),hz,hst,fun b hb=>?_,⟨?_,?_⟩,?_⟩
 ·show b<(s1.heap.push o).objs.size;rw[Heap.size_push,List.mem_singleton.mp hb];exact Nat.lt_succ_self _
 ·intro C i v s3 m3 E' hP hn hm _ _;exact wpAny_pure ⟨rfl,(InComp.start hn).done⟩
 ·intro C i v s3 m3 E' hP hp hn hm _ _;obtain⟨c,u,_,e⟩:=hP;subst e;exact wpAny_mono (Zmb hk hx hd hn hm) (fun r s4 h4=>⟨⟨c,u,rfl,h4.1⟩,h4.2⟩) fun _ _ e=>e
 ·intro D h' tk ys vs hnew hlD hplD hlen hP hF hkp;have hF':Paired (fun v r=>∃c u,v=Value.str ⟨#[c]⟩ u/\r=Value.bool (azB c)) vs ys.toList:=by
   rw[List.filter_eq_self.mpr (fun _ _=>rfl)] at hF;exact hF
  have hV:=ZkS (cs:=z.cps.toList) (fun j v hv=>by
   obtain⟨c,u,e1,e2⟩:=hP j v hv;exact⟨c,u,by rw[Array.getElem?_toList];exact e1,e2⟩) (by rw[hlen,Array.length_toList]) hF'
  have up:∀b ob,s1.heap.get? b=some ob->h'.get? b=some ob:=fun b ob e=>hkp b ob (fun hm=>by
   rw[List.mem_singleton.mp hm] at e;exact Nat.lt_irrefl _ (Heap.lt_size e)) (Heap.get?_push_of_some _ e)
  have hD:s1.heap.get? D=none:=by
   cases e:s1.heap.get? D with
   | none=>rfl
   | some ob =>
    rw[Heap.get?_push_of_some _ e] at hnew;cases hnew
  obtain⟨nD,eD⟩:=hplD;refine⟨.ref D,_,I1.laidN (a:=D) (o:=.lst (z.cps.toList.map fun c=>.bl (azB c))) (t':=tk) up hD ⟨?_,ys.toList,nD,hV,by rw[Array.toArray_toList];exact eD⟩,rfl,q D (I1.hok.freshN hD)⟩;rw[List.length_map,Array.length_toList];exact hz
end
end L2
namespace L2
open PySem
theorem ZkD:bootBuiltins "all" = some (.builtin "all"):=by decide +kernel
end L2
namespace Fg
open PySem L2 FgM
def Zl1(z:Str):Bool:=decide (1<=z.length)&&decide (z.length<=8)&&z.cps.toList.all azB
def Zf9:Sp:=fun vs H Q _=>∃z:Str,vs=[.str z]/\z.length<=100000/\∀H',Zn H H'->Q (.bl (Zl1 z)) H'
theorem Zjt:∀c:_root_.Fin 128,(Builtin.Str.occurrences ABC ⟨#[c.val]⟩ 0 ABC.length 1).isEmpty= !azB c.val:=by decide +kernel
theorem Zj9{c:Nat}(h:c<128):(Builtin.Str.occurrences ABC ⟨#[c]⟩ 0 ABC.length 1).isEmpty= !azB c:=Zjt ⟨c,h⟩
end Fg
namespace L2
open PySem PySem.Spec PyProof.Rows
theorem ZfV:bootBuiltins "enumerate" = some (.type "enumerate"):=by decide +kernel
def Ite(K:PySem.W.Frag)(l:Addr):It :=
 ⟨fun i H=>∃xs x,SqL K H l xs/\xs[i]?= some x,fun i H x H'=>∃p,H p=none/\x=.ref p/\∀xs,SqL K H l xs->∃y,xs[i]?= some y/\H'=upd H p (.tup [.int i,y]),fun i H=>∃xs,SqL K H l xs/\xs.length<=i⟩
theorem ZiF{P:Program}{w:World}{K:PySem.W.Frag}{elts:List Expr}{x1}{tp:Pos}(l e it:Addr)(hne:e≠it) :
  Turn P w K (.Tuple elts x1 tp) (Ite K l) [e,it] e (fun i h=>(∃old,IsEnum h e it (i:Int) old)/\h.IsListIter it l i) where
 mem:=by simp
 obj:=fun i h st b hb=>by
  obtain⟨⟨old,he⟩,o,ho,hc,hd⟩:=st;rcases List.mem_cons.mp hb with rfl|hb
  ·exact⟨_,he,fun v z=>by cases z⟩
  ·obtain rfl:=List.mem_singleton.mp hb;exact⟨o,ho,fun v z=>by rw[hd] at z;cases z⟩
 keep:=fun i h h' st k=>by
  obtain⟨⟨old,he⟩,o,ho,r⟩:=st;exact⟨⟨old,k e (by simp) _ he⟩,o,k it (by simp) o ho,r⟩
 item:=by
  intro X hP hw hK hc i pins s σ H E I hf st hg;subst hP hw hK;obtain⟨⟨old,he⟩,hit⟩:=st;obtain⟨xs,x,hq,hx⟩:=hg;obtain⟨its,rv,pl,hz⟩:=I.list hq;obtain⟨u,hu,ru⟩:=rv.get hx;have fe:=hf e (by simp);have fi:=hf it (by simp);refine wpAny_pyNext_enum_item he hit pl.isList (x:=u) (by simpa using hu) hne fun h1 he1 hit1 ht1 hz1 hk1=>⟨_,rfl,wpAny_letOwnedTupleGo_enum he1 fun h2 he2 hs2=>?_⟩;have hfresh:H s.heap.objs.size=none:=I.hok.fresh (Nat.le_refl _);have nee:s.heap.objs.size≠e:=Nat.ne_of_gt (Heap.lt_size he);obtain⟨oi,hoi,_⟩:=id hit;have nei:s.heap.objs.size≠it:=Nat.ne_of_gt (Heap.lt_size hoi);have kp:∀b o,b ∉ [e,it]->s.heap.get? b=some o->h2.get? b=some o:=fun b o hb q=>by
   have b1:b≠e:=fun z=>hb (by rw[z];simp);have b2:b≠it:=fun z=>hb (by rw[z];simp);exact(hs2.2 b b1).trans (hk1 b o b1 b2 q)
  have hp2:h2.get? s.heap.objs.size=some { cls:=.type "tuple",data:=.seq #[.int i s.toks,u] }:=(hs2.2 _ nee).trans ht1;have nb:∀b o,s.heap.get? b=some o->b≠s.heap.objs.size:=fun b o q=>Nat.ne_of_lt (Heap.lt_size q);have tracked:∀b o,H b=some o->b ∉ [e,it]:=fun b o q hb=>by
   rcases List.mem_cons.mp hb with rfl|hb
   ·rw[fe.1] at q;cases q
   ·obtain rfl:=List.mem_singleton.mp hb;rw[fi.1] at q;cases q
  have it2:h2.IsListIter it l (i+1):=by
   obtain⟨o,ho,r⟩:=hit1;exact⟨o,(hs2.2 it hne.symm).trans ho,r⟩
  have hok2:HOk X.prog X.w (upd H s.heap.objs.size (.tup [.int i,x])) h2:=fun b o q=>by
   by_cases hb:b=s.heap.objs.size
   ·subst hb;rw[Zb] at q;cases q;exact⟨by show 2<=sizeLine;decide,[.int i s.toks,u],.cons ⟨_,rfl⟩ (.cons ru .nil),_,hp2,rfl,_,rfl⟩
   ·rw[Zc hb] at q;refine(I.hok b o q).stay (fun c v hcv r=>kp c v ?_ r) (fun c r=>by rw[Zc (Zi r hfresh)];exact r) fun c ys r=>by rw[Zc (Zi r hfresh)];exact r
    rcases hcv with rfl|hcv
    ·exact tracked _ _ q
    ·exact tracked _ _ hcv
  have I2:Inv X pins σ (upd H s.heap.objs.size (.tup [.int i,x])) { s with heap:=h2,gens:=s.gens,drawn:=s.drawn,toks:=s.toks+1 }:=by
   refine I.step (ch:=[e,it]) (fun b hb=>?_) (fun b o _ _ hb q _=>kp b o hb q) (fun b o _ _ hb q _=>⟨o.slots,kp b o hb q⟩) (fun b o _ q n=>by rw[Zc (nb b o q)];exact n) (fun b o hb q=>⟨o,kp b o hb q⟩)
    (fun b ys q=>by rw[Zc (Zi q hfresh)];exact q) (fun b o ys q=>by rw[Zc (Zi q hfresh)];exact q) (fun b ps q=>⟨#[],by rw[Zc (Zi q hfresh),q];simp⟩) (fun m hm=>?_) hok2 I.bare
   ·have f:Zfh X pins H b:=hf b hb;exact⟨f.2.2.2.1,f.2.1,f.2.2.2.2.1,f.2.2.2.2.2⟩
   ·obtain⟨o,es,ep,ho,r⟩:=hm;refine⟨o,es,ep,kp _ o (fun hb=>?_) ho,r⟩;exact(hf _ hb).2.1 rfl
  refine⟨.ref s.heap.objs.size,_,I2,rfl,⟨_,hfresh,rfl,fun ys hy=>⟨x,by rw[I.list_inj hy hq];exact hx,rfl⟩⟩,⟨⟨_,he2⟩,it2⟩,fun b hb=>?_⟩;rcases List.mem_cons.mp hb with rfl|hb
  ·rw[Zc nee.symm];exact fe.1
  ·obtain rfl:=List.mem_singleton.mp hb;rw[Zc nei.symm];exact fi.1
 done:=by
  intro X hP hw hK hc i pins s σ H E I hf st hg;subst hP hw hK;obtain⟨⟨old,he⟩,hit⟩:=st;obtain⟨xs,hq,hx⟩:=hg;obtain⟨its,rv,pl,hz⟩:=I.list hq;obtain⟨f0,f1,f2,f3,f4,f5⟩:=hf it (by simp);have hlen:=rv.length;exact wpAny_pyNext_enum_end (I.ok.hd hc) he hit pl.isList (by simp;lia) fun h' eb=>⟨rfl,I.turned (t':=s.toks) (fun b o hb q=>eb b o hb q) f0 f1 f3 f4 f5⟩
 self:=fun _ _ _ _ _ st h=>by
  obtain⟨⟨old,he⟩,_⟩:=st;exact wpAny_pyIter_enum he h
section
variable{X:Cx}{elts:List Expr}{x1:Nat}{tp:Pos}
def Zm9(K:PySem.W.Frag)(tl:TA):TI:=fun σ H R=>tl σ H fun vs H1=>∃a xs,vs=[.ref a]/\SqL K H1 a xs/\R (Ite K a) H1
theorem Zlq{l:Expr}{ta:TA}{p pos:Pos}(hg:Gl X "enumerate") (hm:X.mg "enumerate" = none) (ha:PA X [l] ta) (hs:starEach [l] X.env=[(false,eval l X.env)]:=by rfl) :
  PI X (.Tuple elts x1 tp) (.Call (.Name "enumerate" p) [l] [] pos) (Zm9 X.K ta):=by
 intro pins s σ H R I h;refine Call_ (ZfF I hg hm ZfV (PyProof.Rows.callWith_type1 (thn (ha pos pins s σ H _ I h) fun us s1 ⟨vs,H1,I1,r1,q1⟩=>?_) hs rfl));obtain⟨a,xs,e,hq,q⟩:=q1;subst e;obtain⟨u,rfl,ru⟩:=Vals.one r1;cases ru;obtain⟨its,rv,pl,hz⟩:=I1.list hq;refine call_enumerate_list pl.isList fun h' he hit hz' hk=>wpAny_pyIter_enum he ?_;refine⟨s1.heap.objs.size+1,[s1.heap.objs.size+1,s1.heap.objs.size],_,_,H1,rfl,I1.kept (t':=s1.toks) hk,ZiF a _ _ (Nat.succ_ne_self _),⟨⟨_,he⟩,hit⟩,fun b hb=>?_,q⟩;have hb':s1.heap.objs.size<=b:=by
  rcases List.mem_cons.mp hb with rfl|hb
  ·exact Nat.le_succ _
  ·rw[List.mem_singleton.mp hb];exact Nat.le_refl _
 exact I1.fpOk hb' (I1.hok.fresh hb')
end
theorem Zkh{K:PySem.W.Frag}{a:Addr}{xs:List V}{g:TG}{tb:TS}{D:Ends}{σ : St}{H:Hp}(Pv:Nat->St->Hp->Prop)(h0:Pv 0 σ H)(hl:∀i σ H,i<=xs.length->Pv i σ H->SqL K H a xs)
  (hs:∀i y p σ H,xs[i]?= some y->Pv i σ H->H p=none->g (.ref p) σ (upd H p (.tup [.int i,y])) fun σ2 H2=>tb { D with nx:=Pv (i+1),ct:=Pv (i+1),bk:=D.nx } σ2 H2) (hd:∀ σ H,Pv xs.length σ H->D.nx σ H) :
  ∃W:Nat->Nat->St->Hp->Prop,(∃m,W 0 m σ H)/\∀i m σ H,W i m σ H ->
   ((Ite K a).stop i H/\D.nx σ H)\/((Ite K a).go i H/\∃N:St->Hp->Prop,(∀ σ' H',N σ' H'->∃m',m'<m/\W (i+1) m' σ' H')/\∀x H',(Ite K a).yld i H x H'->g x σ H' fun σ2 H2=>tb { D with nx:=N,ct:=N,bk:=D.nx } σ2 H2):=by
 refine⟨fun i m σ H=>m=xs.length-i/\i<=xs.length/\Pv i σ H,⟨xs.length,by simp,Nat.zero_le _,h0⟩,?_⟩;rintro i m σ H ⟨rfl,hi,p⟩;have q:=hl i σ H hi p;by_cases hlt:i<xs.length
 ·refine .inr ⟨⟨xs,xs[i],q,by simp[hlt]⟩,Pv (i+1),fun σ' H' p'=>⟨xs.length-(i+1),by lia,rfl,hlt,p'⟩,fun x H' y=>?_⟩;obtain⟨b,hb,hx,hy⟩:=y;obtain⟨z,hz,hH⟩:=hy xs q;subst hx hH;exact hs i z b σ H hz p hb
 ·have e:i=xs.length:=by lia
  subst e;exact .inl ⟨⟨xs,q,Nat.le_refl _⟩,hd σ H p⟩
section
variable{prog:Program}{w:World}{A:Around}{s:Shared}{R:Result->Shared->Prop}
abbrev no0:Value->Shared->Prop:=fun _ _=>False
theorem ZhO{elt target iter:Expr}{scope:Scope}{pos:Pos}{it acc:Value}{env:Env}(I:Nat->Shared->Prop)
  (turn:∀n s,I n s->wpAny (model prog w) A (pyNext it) (fun r s1=>match r with
   | none=>R (.ok .next) s1
   | some v=>wpAny (model prog w) A (letOwnedTupleGo target it v) (fun _ s2=>wpAny (model prog w) A (assign target env v) (fun _ s3=>wpAny (model prog w) A (eval elt env) (fun x s4 =>
     wpAny (model prog w) A (call (.builtin "list.append") [acc,x]) (fun _ s5=>∃m,m<n/\I m s5) no0 s4) no0 s3) no0 s2) no0 s1) no0 s)
  (n:Nat) (h:I n s):codeAny (model prog w) A (.compLoop (.ListComp elt [⟨target,iter,[],0⟩] scope pos) 0 it acc env) R s:=by
 refine codeAny_loop rfl I (fun n s hI=>?_) n h;show wpAny _ _ ((compTurn (.ListComp elt [⟨target,iter,[],0⟩] scope pos) 0 it acc env).onRaise (fun x=>do noteFrame x env;theTreesLotGoes x)) _ _ s;refine wpAny_noted ?_;rw[compTurn_list1];refine wpAny_bind (wpAny_standAt (wpAny_bind (wpAny_mono (turn n s hI) (fun r s1 h1=>?_) fun _ _ h'=>h'.elim)));cases r with
 | none=>exact wpAny_pure h1
 | some v =>
  refine wpAny_bind (wpAny_mono h1 (fun _ s2 h2=>?_) fun _ _ h'=>h'.elim);refine wpAny_bind (wpAny_mono h2 (fun _ s3 h3=>?_) fun _ _ h'=>h'.elim);refine wpAny_bind (wpAny_bind (wpAny_mono h3 (fun x s4 h4=>?_) fun _ _ h'=>h'.elim));exact wpAny_bind (wpAny_mono h4 (fun _ s5 h5=>wpAny_pure (wpAny_pure ⟨rfl,h5⟩)) fun _ _ h'=>h'.elim)
end
def Zat(X:Cx)(N:List Str)(scope:Scope)(cl:List (Str×Addr))(C:Addr)(fp:List Addr)(s:Shared)(H:Hp):Cx where
 prog:=X.prog
 w:=X.w
 K:=X.K
 mg:=X.mg
 base:=X.base
 A:=X.A
 N:=N
 s₀ := s
 H₀ := H
 env:=compEnvC scope cl C X.env
 outer:=X.stack
 stack:=X.stack
 ex:=fp
 fn:=fun _=>false
 calm:=X.calm
 pn:=[]
 xe:=no0
section
variable{X:Cx}{pins:List (Addr×Obj)}{σ : St}{H:Hp}{s:Shared}
theorem Zi1{N:List Str}{scope:Scope}{cl:List (Str×Addr)}{C:Addr}{fp:List Addr}(I:Inv X pins σ H s)(hk:scope.kind=.function)(hC:s.heap.objs.size<=C)(hcl:∀x c,cl.lookup x=some c->X.env.cells.lookup x=some c)
  (hhas:∀x,((compEnvC scope cl C X.env).kindOf x=some .cell\/(compEnvC scope cl C X.env).kindOf x=some .free)->∃c,cl.lookup x=some c)
  (hf:∀b∈fp,Zfh X pins H b) (hlt:∀b∈fp,b<s.heap.objs.size):(Zat X N scope cl C fp s H).Ok where
 mod:=I.ok.mod
 kind:=hk
 glob:=I.ok.glob
 blt:=I.ok.blt
 above:=hC
 inj:=fun x y c e1 e2=>I.ok.inj x y c (hcl x c e1) (hcl y c e2)
 has:=hhas
 cab:=fun x c e=>by cases e
 hd:=I.ok.hd
 frames:=I.ok.frames
 stk:=.inl rfl
 exf:=fun b hb=>⟨fun z=>absurd (Nat.lt_of_lt_of_le (hlt b hb) hC) (by rw[show b=C from z];exact Nat.lt_irrefl _),fun x c e=>(hf b hb).2.2.2.2.1 x c (hcl x c e)⟩
 bs:=fun b o e=>⟨(I.bs b o e).1,(I.bs b o e).2⟩
 bsz:=Nat.le_trans I.ok.bsz I.sz
 noex:=fun b o e hb=>by
  rcases(hf b hb).2.2.2.1 with z|z
  ·exact I.ok.noex b o e z
  ·exact absurd (Nat.lt_of_lt_of_le (Heap.lt_size e) (Nat.le_trans I.ok.bsz z)) (Nat.lt_irrefl _)
 exfs:=fun b hb hm=>by
  rcases List.mem_cons.mp (I.stkSub b hm) with z|z
  ·exact(hf b hb).2.1 z
  ·exact(hf b hb).2.2.1 z
 funs:=I.stack
 frf:=I.stkFree
def capσ(σ : St)(k:Nat)(cap:List (Str×Nat)):St:=List.replicate k none++cap.map fun p=>(σ[p.2]?).getD none
theorem Zc2{scope:Scope}{cl:List (Str×Addr)}{fp:List Addr}{tn:List Str}{cap:List (Str×Nat)}{h1:Heap}(I:Inv X pins σ H s)(hk:scope.kind=.function)(hcl:∀x c,cl.lookup x=some c->X.env.cells.lookup x=some c)
  (hhas:∀x,((compEnvC scope cl s.heap.objs.size X.env).kindOf x=some .cell\/(compEnvC scope cl s.heap.objs.size X.env).kindOf x=some .free)->∃c,cl.lookup x=some c)
  (hf:∀b∈fp,Zfh X pins H b) (hlt:∀b∈fp,b<s.heap.objs.size)
  (hcap:∀p∈cap,X.N[p.2]?= some p.1/\X.env.scope.names.lookup p.1=some .cell/\((compEnvC scope cl s.heap.objs.size X.env).kindOf p.1=some .cell\/(compEnvC scope cl s.heap.objs.size X.env).kindOf p.1=some .free))
  (hns:h1.Ns s.heap.objs.size (fun _=>none)) (hkp:∀b o,s.heap.get? b=some o->h1.get? b=some o) :
  Inv (Zat X (tn++cap.map (·.1)) scope cl s.heap.objs.size fp s H) [] (capσ σ tn.length cap) H { s with heap:=h1 } where
 ok:=Zi1 I hk (Nat.le_refl _) hcl hhas hf hlt
 os:=rfl
 bare:=I.bare
 base:=Un.kept hkp
 loc:=by
  refine⟨fun _=>none,hns,fun i x v e1 e2 hv=>?_⟩;unfold capσ at e2;by_cases hi:i<tn.length
  ·rw[List.getElem?_append_left (by rw[List.length_replicate];exact hi),List.getElem?_replicate,if_pos hi] at e2;cases e2
  ·have hN:(cap.map (·.1))[i-tn.length]?= some x:=by
    have:(tn++cap.map (·.1))[i]?= some x:=e1;rw[List.getElem?_append_right (by lia)] at this;exact this
   rw[List.getElem?_append_right (by rw[List.length_replicate];lia),List.length_replicate,List.getElem?_map] at e2;rw[List.getElem?_map] at hN;cases hp:cap[i-tn.length]? with
   | none=>rw[hp] at hN;cases hN
   | some p =>
    rw[hp] at hN e2;have hx:p.1=x:=Option.some.inj hN;have he:(σ[p.2]?).getD none=some v:=Option.some.inj e2;obtain⟨c1,c2,c3⟩:=hcap p (List.mem_of_getElem? hp);subst hx;have hs : σ[p.2]?= some (some v):=by
     cases q : σ[p.2]? with
     | none=>rw[q] at he;cases he
     | some z=>rw[q] at he;rw[show z=some v from he]
    obtain⟨m,hn,hl⟩:=I.loc;obtain⟨u,r,l⟩:=hl p.2 p.1 v c1 hs (.inr (.inl c2));refine⟨u,r,.inr ⟨c3,?_⟩⟩;obtain⟨c,hc⟩:=hhas p.1 c3;refine⟨c,hc,?_⟩;rcases l with⟨l1,_⟩|⟨_,c',l2,o,ho,hd⟩
    ·have:X.env.kindOf p.1=some .cell:=c2;rw[this] at l1;cases l1
    ·have:c=c':=Option.some.inj ((hcl p.1 c hc).symm.trans l2);subst this;exact⟨o,hkp _ _ ho,hd⟩
 cell:=fun x c e=>by
  obtain⟨v,o,ho,hd⟩:=I.cell x c (hcl x c e);exact⟨v,o,hkp _ _ ho,hd⟩
 free:=I.hok.fresh (Nat.le_refl _)
 freeC:=fun x c e=>I.freeC x c (hcl x c e)
 pin:=fun p hp=>by cases hp
 hok:=I.hok.kept hkp
 len:=by
  unfold capσ;show _=(tn++cap.map (·.1)).length;rw[List.length_append,List.length_append,List.length_replicate,List.length_map,List.length_map]
end
def Zl3(wi:TI)(k:Nat)(cap:List (Str×Nat))(g:TG)(te:TE):TE:=fun σ H Q=>wi σ H fun J H1=>∀p,H1 p=none->∃W:Nat->Nat->List V->St->Hp->Prop,(∃m,W 0 m [] (capσ σ k cap) (upd H1 p (.lst []))) /\
 ∀i m ys σc H2,W i m ys σc H2->H2 p=some (.lst ys)/\((J.stop i H2/\Q (.ref p) H2)\/(J.go i H2/\∀x H3,J.yld i H2 x H3->g x σc H3 fun σ3 H4=>te σ3 H4 fun v H5 =>
  H5 p=some (.lst ys)/\ys.length<sizeLine/\∃m',m'<m/\W (i+1) m' (ys ++ [v]) σ3 (upd H5 p (.lst (ys ++ [v])))))
section
variable{X:Cx}{elt iter tg:Expr}{scope:Scope}{pos:Pos}{wi:TI}{g:TG}{te:TE}{cl:List (Str×Addr)}
theorem Zep{pins:List (Addr×Obj)}{σ : St}{H2:Hp}{s2:Shared}{it:Addr}{fp:List Addr}{tnn:Nat->Heap->Prop}{J:It}{R:Addr->Hp->Prop}{use:Option (Value->Sem Unit)}{Qp:Value->Shared->Prop}(tn:List Str)(cap:List (Str×Nat))(hg:∀C fp s H,PG (Zat X (tn++cap.map (·.1)) scope cl C fp s H) tg g)(he:∀C fp s H,PE (Zat X (tn++cap.map (·.1)) scope cl C fp s H) elt te)(hc:X.calm=true)(hcell:∀y∈scope.names,y.2 ≠ .cell)(hk:scope.kind=.function)(hcl:∀x c,cl.lookup x=some c->X.env.cells.lookup x=some c)(hhas:∀C x,((compEnvC scope cl C X.env).kindOf x=some .cell\/(compEnvC scope cl C X.env).kindOf x=some .free)->∃c,cl.lookup x=some c)(hcap:∀C,∀p∈cap,X.N[p.2]?= some p.1/\X.env.scope.names.lookup p.1=some .cell/\((compEnvC scope cl C X.env).kindOf p.1=some .cell\/(compEnvC scope cl C X.env).kindOf p.1=some .free))
  (I2:Inv X pins σ H2 s2) (T:Turn X.prog X.w X.K tg J fp it tnn) (st2:tnn 0 s2.heap) (f2:∀b∈fp,Zfh X pins H2 b) (q2:∀p,H2 p=none->∃W:Nat->Nat->List V->St->Hp->Prop,(∃m,W 0 m [] (capσ σ tn.length cap) (upd H2 p (.lst []))) /\
 ∀i m ys σc H2,W i m ys σc H2->H2 p=some (.lst ys)/\((J.stop i H2/\R p H2)\/(J.go i H2/\∀x H3,J.yld i H2 x H3->g x σc H3 fun σ3 H4=>te σ3 H4 fun v H5=>H5 p=some (.lst ys)/\ys.length<sizeLine/\∃m',m'<m/\W (i+1) m' (ys ++ [v]) σ3 (upd H5 p (.lst (ys ++ [v]))))))
  (hfin:∀(s3:Shared)(H3:Hp),Inv X pins σ H3 s3->(∀b∈fp,Zfh X pins H3 b)->∀(acc:Addr)(σ6:St)(H6:Hp)(s6:Shared),Inv (Zat X (tn++cap.map (·.1)) scope cl s3.heap.objs.size fp s3 H3) [] σ6 H6 s6->R acc H6->compPost (model X.prog X.w) X.A X.xe use Qp (.ref acc) s3.heap.objs.size (.ok .next) s6) :
  wpAny (model X.prog X.w) X.A (newList []) (fun acc s₃=>wpAny (model X.prog X.w) X.A (newFunctionEnv scope X.env.globals cl [] X.env.qual none Value.none (some X.env)) (fun cenv s₄=>codeAny (model X.prog X.w) X.A (Code.compStart (.ListComp elt [⟨tg,iter,[],0⟩] scope pos) 0 (Value.ref it) acc { cenv with scope:=relabel scope X.env }) (compPost (model X.prog X.w) X.A X.xe use Qp acc cenv.locals) s₄) X.xe s₃) X.xe s2:=by
 have fresh:H2 s2.heap.objs.size=none:=I2.fresh;obtain⟨W,⟨m0,w0⟩,turn⟩:=q2 s2.heap.objs.size fresh;have lt2:∀b∈fp,b<s2.heap.objs.size:=fun b hb=>by
  obtain⟨o,ho,_⟩:=T.obj _ _ st2 b hb;exact Heap.lt_size ho
 have I3:Inv X pins σ (upd H2 s2.heap.objs.size (.lst [])) { s2 with heap:=s2.heap.push { cls:=.type "list",data:=.seq ([]:List Value).toArray } }:=I2.lnew (its:=[]) (t':=s2.toks) .nil (Nat.zero_le _);refine wpAny_newObj_type (wpAny_newFunctionEnv hcell (by intro y hy;simp at hy) (fun h1 hns1 hsb1=>?_) hk);dsimp only at hns1 hsb1 ⊢;generalize hS3:({ s2 with heap:=s2.heap.push { cls:=.type "list",dict:=none,data:=.seq ([]:List Value).toArray } }:Shared)=s3 at I3;have hh3:s2.heap.push { cls:=.type "list",dict:=none,data:=.seq ([]:List Value).toArray }=s3.heap:=by rw[<- hS3]
 rw[hh3] at hns1 hsb1 ⊢;have sz3:s3.heap.objs.size=s2.heap.objs.size+1:=by rw[<- hh3,Heap.size_push]
 have lt3:∀b∈fp,b<s3.heap.objs.size:=fun b hb=>Nat.lt_of_lt_of_le (lt2 b hb) (by rw[sz3];exact Nat.le_succ _);have f3:∀b∈fp,Zfh X pins (upd H2 s2.heap.objs.size (.lst [])) b:=fun b hb=>⟨by rw[Zc (Nat.ne_of_lt (lt2 b hb))];exact(f2 b hb).1,(f2 b hb).2⟩;have keep3:∀b o,s3.heap.get? b=some o->h1.get? b=some o:=fun b o q=>hsb1.extBut b o (Nat.ne_of_lt (Heap.lt_size q)) (Heap.get?_push_of_some _ q);have st3:tnn 0 h1:=T.keep _ _ _ st2 fun b hb o q=>keep3 b o (by rw[<- hh3];exact Heap.get?_push_of_some _ q);have I4:=(Zc2 (tn:=tn) I3 hk hcl (hhas _) f3 lt3 (hcap _) hns1 keep3).tok (s2.toks+([]:List (Str×Value)).length);have loop:codeAny (model X.prog X.w) X.A (.compLoop (.ListComp elt [⟨tg,iter,[],0⟩] scope pos) 0 (.ref it) (.ref s2.heap.objs.size) (compEnvC scope cl s3.heap.objs.size X.env))
   (compPost (model X.prog X.w) X.A X.xe use Qp (.ref s2.heap.objs.size) s3.heap.objs.size) { s3 with heap:=h1,toks:=s2.toks+([]:List (Str×Value)).length }:=by
  refine ZhO (fun n s'=>∃i ys σ' H',Inv (Zat X (tn++cap.map (·.1)) scope cl s3.heap.objs.size fp s3 (upd H2 s2.heap.objs.size (.lst []))) [] σ' H' s'/\tnn i s'.heap/\(∀b∈fp,H' b=none)/\W i n ys σ' H') ?_ m0
   ⟨0,[],_,_,I4,st3,fun b hb=>(f3 b hb).1,w0⟩
  rintro n s5 ⟨i,ys,σ5,H5,I5,st5,fr5,w5⟩;obtain⟨hD,alt⟩:=turn i n ys σ5 H5 w5;have stat:∀{H':Hp},(∀b∈fp,H' b=none)->∀b∈fp,Zfh (Zat X (tn++cap.map (·.1)) scope cl s3.heap.objs.size fp s3 (upd H2 s2.heap.objs.size (.lst []))) [] H' b :=
   fun hn b hb=>⟨hn b hb,(I4.ok.exf b hb).1,I4.ok.exfs b hb,.inl hb,(I4.ok.exf b hb).2,fun p hp=>by cases hp⟩
  rcases alt with⟨stop,qn⟩|⟨go,step⟩
  ·refine thn (T.done (Zat X (tn++cap.map (·.1)) scope cl s3.heap.objs.size fp s3 (upd H2 s2.heap.objs.size (.lst []))) rfl rfl rfl hc i [] s5 σ5 H5 no0 I5 (stat fr5) st5 stop) fun r s6 ⟨hr,I6⟩=>?_;subst hr;exact hfin s3 _ I3 f3 _ σ5 H5 s6 I6 qn
  ·refine thn (T.item (Zat X (tn++cap.map (·.1)) scope cl s3.heap.objs.size fp s3 (upd H2 s2.heap.objs.size (.lst []))) rfl rfl rfl hc i [] s5 σ5 H5 no0 I5 (stat fr5) st5 go) fun r s6 ⟨u,hr,h6⟩=>?_;subst hr;refine thn h6 fun _ s7 ⟨x,H7,I7,r7,y7,st7,fr7⟩=>?_;have I7':=I7.pinned (stat fr7) (T.obj _ _ st7);refine thn (hg _ _ _ _ _ s7 σ5 H7 x u _ I7' r7 (step x H7 y7)) fun _ s8 ⟨σ8,H8,I8,q8⟩=>?_;refine thn (he _ _ _ _ _ s8 σ8 H8 _ I8 q8) fun xv s9 ⟨v9,H9,I9,r9,q9⟩=>?_;obtain⟨hD9,hl9,m',hm',w9⟩:=q9;refine thn (Zy _ s9 σ8 H9 (.ref s2.heap.objs.size) [v9] (.ref s2.heap.objs.size) [xv] (fun z H'=>z=.non/\H'=upd H9 s2.heap.objs.size (.lst (ys ++ [v9]))) I9 rfl (.cons r9 .nil)
    ⟨s2.heap.objs.size,ys,v9,rfl,rfl,hD9,hl9,rfl,rfl⟩) fun z s10 ⟨zv,H10,I10,_,_,eH⟩=>?_
   subst eH;refine⟨m',hm',i+1,ys ++ [v9],σ8,_,I10.unpinned,T.keep _ _ _ st7 fun b hb o q=>(I10.pin (b,o) (List.mem_append_right _ (List.mem_append_right _ (ZaO hb q)))).1,fun b hb=>?_,w9⟩;obtain⟨o,q,d⟩:=T.obj _ _ st7 b hb;exact(I10.pin (b,o) (List.mem_append_right _ (List.mem_append_right _ (ZaO hb q)))).2.1
 subst hS3;exact codeAny_compStart_list loop (T.self X.A 0 _ _ _ st3 loop)
theorem Zff(tn:List Str)(cap:List (Str×Nat))(hi:PI X tg iter wi)(hg:∀C fp s H,PG (Zat X (tn++cap.map (·.1)) scope cl C fp s H) tg g)(he:∀C fp s H,PE (Zat X (tn++cap.map (·.1)) scope cl C fp s H) elt te)
  (hc:X.calm=true) (hclos:closureFor scope X.env=pure cl) (hcell:∀y∈scope.names,y.2 ≠ .cell) (hk:scope.kind=.function) (hnames:∀y∈scope.names,y.2=.local->scope.names.lookup y.1=some .local)
  (hcl:∀x c,cl.lookup x=some c->X.env.cells.lookup x=some c)
  (hhas:∀C x,((compEnvC scope cl C X.env).kindOf x=some .cell\/(compEnvC scope cl C X.env).kindOf x=some .free)->∃c,cl.lookup x=some c)
  (hcap:∀C,∀p∈cap,X.N[p.2]?= some p.1/\X.env.scope.names.lookup p.1=some .cell/\((compEnvC scope cl C X.env).kindOf p.1=some .cell\/(compEnvC scope cl C X.env).kindOf p.1=some .free))
  (hs:∀v,foldedSetIterable iter X.env v=pure v):PE X (.ListComp elt [⟨tg,iter,[],0⟩] scope pos) (Zl3 wi tn.length cap g te):=by
 intro pins s σ H Q I h;rw[eval_ListComp];refine wpAny_comprehension_free (use:=none) rfl hs hclos hk hnames (thn (hi pins s σ H _ I h) fun v s1 h1=>thn h1 fun itv s2 h2=>?_);obtain⟨it,fp,tnn,J,H2,e,I2,T,st2,f2,q2⟩:=h2;subst e;refine Zep (R:=fun p H6=>Q (.ref p) H6) tn cap hg he hc hcell hk hcl hhas hcap I2 T st2 f2 q2 fun s3 H3 I3 f3 acc σ6 H6 s6 I6 q6=>?_;obtain⟨m,hn,_⟩:=I6.loc;refine⟨m,hn,fun h' sb=>?_⟩;have nC:∀b o,s3.heap.get? b=some o->b≠s3.heap.objs.size:=fun b o q=>Nat.ne_of_lt (Heap.lt_size q);have u:Un (frs X.stack) fp H3 H6 s3.heap h':=by
  have u0:=I6.base;refine⟨fun b o q n hb hx=>(sb.2 b (nC b o q)).trans (u0.keep b o q n hb hx),fun b o q n hb hx=>?_,u0.free,fun b o q hx=>?_,u0.tups,u0.frzs,u0.tbls⟩
  ·obtain⟨sl,e⟩:=u0.slot b o q n hb hx;exact⟨sl,(sb.2 b (nC b o q)).trans e⟩
  ·obtain⟨o',e⟩:=u0.there b o q hx;exact⟨o',(sb.2 b (nC b o q)).trans e⟩
 have free6:H6 s3.heap.objs.size=none:=I6.free;have ok6:HOk X.prog X.w H6 h':=fun b o q=>(I6.hok b o q).stay (fun c v hcv r=>(sb.2 c (by
  rcases hcv with z|z
  ·rw[z];exact Zi q free6
  ·exact Zi z free6)).trans r) (fun _ q=>q) fun _ _ q=>q
 have I':=I3.call (g':=s6.gens) (d':=s6.drawn) (t':=s6.toks) (ch:=fp) u ok6 I6.bare fun b hb=>⟨(f3 b hb).2.2.2.1,(f3 b hb).2.1,(f3 b hb).2.2.2.2.1,(f3 b hb).2.2.2.2.2⟩;have e:({ s6 with heap:=h' }:Shared)= { s3 with heap:=h',gens:=s6.gens,drawn:=s6.drawn,toks:=s6.toks }:=by
  have ho:s6.os=s3.os:=I6.os;obtain⟨a1,a2,a3,a4,a5⟩:=s6;obtain⟨b1,b2,b3,b4,b5⟩:=s3;simp only at ho;subst ho;rfl
 rw[e];exact⟨.ref _,H6,I',rfl,q6⟩
end
section
variable{prog:Program}{w:World}{A:Around}{s:Shared}{R:Result->Shared->Prop}
theorem ZhN{elt ct target iter:Expr}{scope:Scope}{pos:Pos}{it acc:Value}{env:Env}(I:Nat->Shared->Prop)
  (turn:∀n s,I n s->wpAny (model prog w) A (pyNext it) (fun r s1=>match r with
   | none=>R (.ok .next) s1
   | some v=>wpAny (model prog w) A (letOwnedTupleGo target it v) (fun _ s2=>wpAny (model prog w) A (assign target env v) (fun _ s3=>wpAny (model prog w) A (isTrue ct env (eval ct env)) (fun ok s3' =>
     if ok=true then wpAny (model prog w) A (eval elt env) (fun x s4 =>
     wpAny (model prog w) A (call (.builtin "list.append") [acc,x]) (fun _ s5=>∃m,m<n/\I m s5) no0 s4) no0 s3' else ∃m,m<n/\I m s3') no0 s3) no0 s2) no0 s1) no0 s)
  (n:Nat) (h:I n s):codeAny (model prog w) A (.compLoop (.ListComp elt [⟨target,iter,[ct],0⟩] scope pos) 0 it acc env) R s:=by
 refine codeAny_loop rfl I (fun n s hI=>?_) n h;show wpAny _ _ ((compTurn (.ListComp elt [⟨target,iter,[ct],0⟩] scope pos) 0 it acc env).onRaise (fun x=>do noteFrame x env;theTreesLotGoes x)) _ _ s;refine wpAny_noted ?_;rw[compTurn_list];refine wpAny_bind (wpAny_standAt (wpAny_bind (wpAny_mono (turn n s hI) (fun r s1 h1=>?_) fun _ _ h'=>h'.elim)));cases r with
 | none=>exact wpAny_pure h1
 | some v =>
  refine wpAny_bind (wpAny_mono h1 (fun _ s2 h2=>?_) fun _ _ h'=>h'.elim);refine wpAny_bind (wpAny_mono h2 (fun _ s3 h3=>?_) fun _ _ h'=>h'.elim);refine wpAny_bind (wpAny_tests_one (wpAny_mono h3 (fun ok s3' h3'=>?_) fun _ _ h'=>h'.elim));cases ok with
  | true =>
   simp only[if_true] at h3' ⊢;refine wpAny_bind (wpAny_bind (wpAny_mono h3' (fun x s4 h4=>?_) fun _ _ h'=>h'.elim));exact wpAny_bind (wpAny_mono h4 (fun _ s5 h5=>wpAny_pure (wpAny_pure ⟨rfl,h5⟩)) fun _ _ h'=>h'.elim)
  | false =>
   simp only[Bool.false_eq_true,if_false] at h3' ⊢;exact wpAny_pure ⟨rfl,h3'⟩
end
def ZlT(wi:TI)(k:Nat)(cap:List (Str×Nat))(g:TG)(tt:TT)(te:TE):TE:=fun σ H Q=>wi σ H fun J H1=>∀p,H1 p=none->∃W:Nat->Nat->List V->St->Hp->Prop,(∃m,W 0 m [] (capσ σ k cap) (upd H1 p (.lst []))) /\
 ∀i m ys σc H2,W i m ys σc H2->H2 p=some (.lst ys)/\((J.stop i H2/\Q (.ref p) H2)\/(J.go i H2/\∀x H3,J.yld i H2 x H3->g x σc H3 fun σ3 H4=>tt σ3 H4 fun b H4'=>if b=true then te σ3 H4' fun v H5 =>
  H5 p=some (.lst ys)/\ys.length<sizeLine/\∃m',m'<m/\W (i+1) m' (ys ++ [v]) σ3 (upd H5 p (.lst (ys ++ [v])))
  else ∃m',m'<m/\W (i+1) m' ys σ3 H4'))
section
variable{X:Cx}{elt ct iter tg:Expr}{scope:Scope}{pos:Pos}{wi:TI}{g:TG}{tt:TT}{te:TE}{cl:List (Str×Addr)}
theorem ZhW{pins:List (Addr×Obj)}{σ : St}{H2:Hp}{s2:Shared}{it:Addr}{fp:List Addr}{tnn:Nat->Heap->Prop}{J:It}{R:Addr->Hp->Prop}{use:Option (Value->Sem Unit)}{Qp:Value->Shared->Prop}(tn:List Str)(cap:List (Str×Nat))(hg:∀C fp s H,PG (Zat X (tn++cap.map (·.1)) scope cl C fp s H) tg g)(ht:∀C fp s H,PT (Zat X (tn++cap.map (·.1)) scope cl C fp s H) ct tt)(he:∀C fp s H,PE (Zat X (tn++cap.map (·.1)) scope cl C fp s H) elt te)(hc:X.calm=true)(hcell:∀y∈scope.names,y.2 ≠ .cell)(hk:scope.kind=.function)(hcl:∀x c,cl.lookup x=some c->X.env.cells.lookup x=some c)(hhas:∀C x,((compEnvC scope cl C X.env).kindOf x=some .cell\/(compEnvC scope cl C X.env).kindOf x=some .free)->∃c,cl.lookup x=some c)(hcap:∀C,∀p∈cap,X.N[p.2]?= some p.1/\X.env.scope.names.lookup p.1=some .cell/\((compEnvC scope cl C X.env).kindOf p.1=some .cell\/(compEnvC scope cl C X.env).kindOf p.1=some .free))
  (I2:Inv X pins σ H2 s2) (T:Turn X.prog X.w X.K tg J fp it tnn) (st2:tnn 0 s2.heap) (f2:∀b∈fp,Zfh X pins H2 b) (q2:∀p,H2 p=none->∃W:Nat->Nat->List V->St->Hp->Prop,(∃m,W 0 m [] (capσ σ tn.length cap) (upd H2 p (.lst []))) /\
 ∀i m ys σc H2,W i m ys σc H2->H2 p=some (.lst ys)/\((J.stop i H2/\R p H2)\/(J.go i H2/\∀x H3,J.yld i H2 x H3->g x σc H3 fun σ3 H4=>tt σ3 H4 fun b H4'=>if b=true then te σ3 H4' fun v H5=>H5 p=some (.lst ys)/\ys.length<sizeLine/\∃m',m'<m/\W (i+1) m' (ys ++ [v]) σ3 (upd H5 p (.lst (ys ++ [v]))) else ∃m',m'<m/\W (i+1) m' ys σ3 H4')))
  (hfin:∀(s3:Shared)(H3:Hp),Inv X pins σ H3 s3->(∀b∈fp,Zfh X pins H3 b)->∀(acc:Addr)(σ6:St)(H6:Hp)(s6:Shared),Inv (Zat X (tn++cap.map (·.1)) scope cl s3.heap.objs.size fp s3 H3) [] σ6 H6 s6->R acc H6->compPost (model X.prog X.w) X.A X.xe use Qp (.ref acc) s3.heap.objs.size (.ok .next) s6) :
  wpAny (model X.prog X.w) X.A (newList []) (fun acc s₃=>wpAny (model X.prog X.w) X.A (newFunctionEnv scope X.env.globals cl [] X.env.qual none Value.none (some X.env)) (fun cenv s₄=>codeAny (model X.prog X.w) X.A (Code.compStart (.ListComp elt [⟨tg,iter,[ct],0⟩] scope pos) 0 (Value.ref it) acc { cenv with scope:=relabel scope X.env }) (compPost (model X.prog X.w) X.A X.xe use Qp acc cenv.locals) s₄) X.xe s₃) X.xe s2:=by
 have fresh:H2 s2.heap.objs.size=none:=I2.fresh;obtain⟨W,⟨m0,w0⟩,turn⟩:=q2 s2.heap.objs.size fresh;have lt2:∀b∈fp,b<s2.heap.objs.size:=fun b hb=>by
  obtain⟨o,ho,_⟩:=T.obj _ _ st2 b hb;exact Heap.lt_size ho
 have I3:Inv X pins σ (upd H2 s2.heap.objs.size (.lst [])) { s2 with heap:=s2.heap.push { cls:=.type "list",data:=.seq ([]:List Value).toArray } }:=I2.lnew (its:=[]) (t':=s2.toks) .nil (Nat.zero_le _);refine wpAny_newObj_type (wpAny_newFunctionEnv hcell (by intro y hy;simp at hy) (fun h1 hns1 hsb1=>?_) hk);dsimp only at hns1 hsb1 ⊢;generalize hS3:({ s2 with heap:=s2.heap.push { cls:=.type "list",dict:=none,data:=.seq ([]:List Value).toArray } }:Shared)=s3 at I3;have hh3:s2.heap.push { cls:=.type "list",dict:=none,data:=.seq ([]:List Value).toArray }=s3.heap:=by rw[<- hS3]
 rw[hh3] at hns1 hsb1 ⊢;have sz3:s3.heap.objs.size=s2.heap.objs.size+1:=by rw[<- hh3,Heap.size_push]
 have lt3:∀b∈fp,b<s3.heap.objs.size:=fun b hb=>Nat.lt_of_lt_of_le (lt2 b hb) (by rw[sz3];exact Nat.le_succ _);have f3:∀b∈fp,Zfh X pins (upd H2 s2.heap.objs.size (.lst [])) b:=fun b hb=>⟨by rw[Zc (Nat.ne_of_lt (lt2 b hb))];exact(f2 b hb).1,(f2 b hb).2⟩;have keep3:∀b o,s3.heap.get? b=some o->h1.get? b=some o:=fun b o q=>hsb1.extBut b o (Nat.ne_of_lt (Heap.lt_size q)) (Heap.get?_push_of_some _ q);have st3:tnn 0 h1:=T.keep _ _ _ st2 fun b hb o q=>keep3 b o (by rw[<- hh3];exact Heap.get?_push_of_some _ q);have I4:=(Zc2 (tn:=tn) I3 hk hcl (hhas _) f3 lt3 (hcap _) hns1 keep3).tok (s2.toks+([]:List (Str×Value)).length);have loop:codeAny (model X.prog X.w) X.A (.compLoop (.ListComp elt [⟨tg,iter,[ct],0⟩] scope pos) 0 (.ref it) (.ref s2.heap.objs.size) (compEnvC scope cl s3.heap.objs.size X.env))
   (compPost (model X.prog X.w) X.A X.xe use Qp (.ref s2.heap.objs.size) s3.heap.objs.size) { s3 with heap:=h1,toks:=s2.toks+([]:List (Str×Value)).length }:=by
  refine ZhN (fun n s'=>∃i ys σ' H',Inv (Zat X (tn++cap.map (·.1)) scope cl s3.heap.objs.size fp s3 (upd H2 s2.heap.objs.size (.lst []))) [] σ' H' s'/\tnn i s'.heap/\(∀b∈fp,H' b=none)/\W i n ys σ' H') ?_ m0
   ⟨0,[],_,_,I4,st3,fun b hb=>(f3 b hb).1,w0⟩
  rintro n s5 ⟨i,ys,σ5,H5,I5,st5,fr5,w5⟩;obtain⟨hD,alt⟩:=turn i n ys σ5 H5 w5;have stat:∀{H':Hp},(∀b∈fp,H' b=none)->∀b∈fp,Zfh (Zat X (tn++cap.map (·.1)) scope cl s3.heap.objs.size fp s3 (upd H2 s2.heap.objs.size (.lst []))) [] H' b :=
   fun hn b hb=>⟨hn b hb,(I4.ok.exf b hb).1,I4.ok.exfs b hb,.inl hb,(I4.ok.exf b hb).2,fun p hp=>by cases hp⟩
  rcases alt with⟨stop,qn⟩|⟨go,step⟩
  ·refine thn (T.done (Zat X (tn++cap.map (·.1)) scope cl s3.heap.objs.size fp s3 (upd H2 s2.heap.objs.size (.lst []))) rfl rfl rfl hc i [] s5 σ5 H5 no0 I5 (stat fr5) st5 stop) fun r s6 ⟨hr,I6⟩=>?_;subst hr;exact hfin s3 _ I3 f3 _ σ5 H5 s6 I6 qn
  ·refine thn (T.item (Zat X (tn++cap.map (·.1)) scope cl s3.heap.objs.size fp s3 (upd H2 s2.heap.objs.size (.lst []))) rfl rfl rfl hc i [] s5 σ5 H5 no0 I5 (stat fr5) st5 go) fun r s6 ⟨u,hr,h6⟩=>?_;subst hr;refine thn h6 fun _ s7 ⟨x,H7,I7,r7,y7,st7,fr7⟩=>?_;have I7':=I7.pinned (stat fr7) (T.obj _ _ st7);refine thn (hg _ _ _ _ _ s7 σ5 H7 x u _ I7' r7 (step x H7 y7)) fun _ s8 ⟨σ8,H8,I8,q8⟩=>?_;refine thn (ht _ _ _ _ _ s8 σ8 H8 _ I8 q8) fun ok s8' ⟨H8',I8',q8'⟩=>?_;cases ok with
   | true =>
    simp only[if_true] at q8' ⊢;refine thn (he _ _ _ _ _ s8' σ8 H8' _ I8' q8') fun xv s9 ⟨v9,H9,I9,r9,q9⟩=>?_;obtain⟨hD9,hl9,m',hm',w9⟩:=q9;refine thn (Zy _ s9 σ8 H9 (.ref s2.heap.objs.size) [v9] (.ref s2.heap.objs.size) [xv] (fun z H'=>z=.non/\H'=upd H9 s2.heap.objs.size (.lst (ys ++ [v9]))) I9 rfl (.cons r9 .nil)
     ⟨s2.heap.objs.size,ys,v9,rfl,rfl,hD9,hl9,rfl,rfl⟩) fun z s10 ⟨zv,H10,I10,_,_,eH⟩=>?_
    subst eH;refine⟨m',hm',i+1,ys ++ [v9],σ8,_,I10.unpinned,T.keep _ _ _ st7 fun b hb o q=>(I10.pin (b,o) (List.mem_append_right _ (List.mem_append_right _ (ZaO hb q)))).1,fun b hb=>?_,w9⟩;obtain⟨o,q,d⟩:=T.obj _ _ st7 b hb;exact(I10.pin (b,o) (List.mem_append_right _ (List.mem_append_right _ (ZaO hb q)))).2.1
   | false =>
    simp only[Bool.false_eq_true,if_false] at q8' ⊢;obtain⟨m',hm',w9⟩:=q8';refine⟨m',hm',i+1,ys,σ8,_,I8'.unpinned,T.keep _ _ _ st7 fun b hb o q=>(I8'.pin (b,o) (List.mem_append_right _ (List.mem_append_right _ (ZaO hb q)))).1,fun b hb=>?_,w9⟩;obtain⟨o,q,d⟩:=T.obj _ _ st7 b hb;exact(I8'.pin (b,o) (List.mem_append_right _ (List.mem_append_right _ (ZaO hb q)))).2.1
 subst hS3;exact codeAny_compStart_list loop (T.self X.A 0 _ _ _ st3 loop)
theorem Zh6(tn:List Str)(cap:List (Str×Nat))(hi:PI X tg iter wi)(hg:∀C fp s H,PG (Zat X (tn++cap.map (·.1)) scope cl C fp s H) tg g)(ht:∀C fp s H,PT (Zat X (tn++cap.map (·.1)) scope cl C fp s H) ct tt)(he:∀C fp s H,PE (Zat X (tn++cap.map (·.1)) scope cl C fp s H) elt te)
  (hc:X.calm=true) (hclos:closureFor scope X.env=pure cl) (hcell:∀y∈scope.names,y.2 ≠ .cell) (hk:scope.kind=.function) (hnames:∀y∈scope.names,y.2=.local->scope.names.lookup y.1=some .local)
  (hcl:∀x c,cl.lookup x=some c->X.env.cells.lookup x=some c)
  (hhas:∀C x,((compEnvC scope cl C X.env).kindOf x=some .cell\/(compEnvC scope cl C X.env).kindOf x=some .free)->∃c,cl.lookup x=some c)
  (hcap:∀C,∀p∈cap,X.N[p.2]?= some p.1/\X.env.scope.names.lookup p.1=some .cell/\((compEnvC scope cl C X.env).kindOf p.1=some .cell\/(compEnvC scope cl C X.env).kindOf p.1=some .free))
  (hs:∀v,foldedSetIterable iter X.env v=pure v):PE X (.ListComp elt [⟨tg,iter,[ct],0⟩] scope pos) (ZlT wi tn.length cap g tt te):=by
 intro pins s σ H Q I h;rw[eval_ListComp];refine wpAny_comprehension_free (use:=none) rfl hs hclos hk hnames (thn (hi pins s σ H _ I h) fun v s1 h1=>thn h1 fun itv s2 h2=>?_);obtain⟨it,fp,tnn,J,H2,e,I2,T,st2,f2,q2⟩:=h2;subst e;refine ZhW (R:=fun p H6=>Q (.ref p) H6) tn cap hg ht he hc hcell hk hcl hhas hcap I2 T st2 f2 q2 fun s3 H3 I3 f3 acc σ6 H6 s6 I6 q6=>?_;obtain⟨m,hn,_⟩:=I6.loc;refine⟨m,hn,fun h' sb=>?_⟩;have nC:∀b o,s3.heap.get? b=some o->b≠s3.heap.objs.size:=fun b o q=>Nat.ne_of_lt (Heap.lt_size q);have u:Un (frs X.stack) fp H3 H6 s3.heap h':=by
  have u0:=I6.base;refine⟨fun b o q n hb hx=>(sb.2 b (nC b o q)).trans (u0.keep b o q n hb hx),fun b o q n hb hx=>?_,u0.free,fun b o q hx=>?_,u0.tups,u0.frzs,u0.tbls⟩
  ·obtain⟨sl,e⟩:=u0.slot b o q n hb hx;exact⟨sl,(sb.2 b (nC b o q)).trans e⟩
  ·obtain⟨o',e⟩:=u0.there b o q hx;exact⟨o',(sb.2 b (nC b o q)).trans e⟩
 have free6:H6 s3.heap.objs.size=none:=I6.free;have ok6:HOk X.prog X.w H6 h':=fun b o q=>(I6.hok b o q).stay (fun c v hcv r=>(sb.2 c (by
  rcases hcv with z|z
  ·rw[z];exact Zi q free6
  ·exact Zi z free6)).trans r) (fun _ q=>q) fun _ _ q=>q
 have I':=I3.call (g':=s6.gens) (d':=s6.drawn) (t':=s6.toks) (ch:=fp) u ok6 I6.bare fun b hb=>⟨(f3 b hb).2.2.2.1,(f3 b hb).2.1,(f3 b hb).2.2.2.2.1,(f3 b hb).2.2.2.2.2⟩;have e:({ s6 with heap:=h' }:Shared)= { s3 with heap:=h',gens:=s6.gens,drawn:=s6.drawn,toks:=s6.toks }:=by
  have ho:s6.os=s3.os:=I6.os;obtain⟨a1,a2,a3,a4,a5⟩:=s6;obtain⟨b1,b2,b3,b4,b5⟩:=s3;simp only at ho;subst ho;rfl
 rw[e];exact⟨.ref _,H6,I',rfl,q6⟩
end
end L2
namespace PySem.SeqAt
open AutoSeq1 (wpAny_loadPart')
open MeetsSeq MeetsSeq2 MeetsSeq3 SeqRoads2
end PySem.SeqAt
namespace Fg
open PySem L2 FgM PySem.SeqAt
theorem Zk4(x y:Str):PyData.eqv (.str x) (.str y)=decide (x=y):=by
 show(x == y)=_;by_cases e:x=y
 ·subst e;simp
 ·rw[decide_eq_false e];exact beq_eq_false_iff_ne.mpr e
theorem Zhv:∀xs ys:List Str,PyData.eqvAll (xs.map PyData.str) (ys.map PyData.str)=decide (xs=ys)
 | [],[]=>rfl
 | [],_::_=>by simp[PyData.eqvAll]
 | _::_,[]=>by simp[PyData.eqvAll]
 | x::xs,y::ys=>by
  show(PyData.eqv (.str x) (.str y)&&PyData.eqvAll (xs.map PyData.str) (ys.map PyData.str))=_;rw[Zk4,Zhv xs ys];by_cases e:x=y <;> by_cases e2:xs=ys <;> simp[e,e2]
def OkW(ws:List Str):Prop := ∀x∈ws,PyData.strOk x=true
end Fg
namespace L2
open PySem PySem.Spec PyProof.Rows
section
variable{X:Cx}
def ZmX(K:PySem.W.Frag)(n:Nat)(neg:Bool):R2:=fun x y H Q=>∃d e,Dp K H x d/\Dp K H y e/\d.canLay0=true/\e.canLay0=true/\min d.depth e.depth<=n/\Q (.bl (if neg then !PyData.eqv d e else PyData.eqv d e)) H
end
end L2
namespace Fg
open PySem L2 FgM
def Zct:Gr Str->List PyData
 | .nil=>[]
 | .cons t w o=>.tuple [.str t,.tuple (Zct w)]::Zct o
theorem dpG{K:PySem.W.Frag}{H:Hp}:∀{xs:List V}{g:Gr Str},RepG H xs g->DpAll K H xs (Zct g)
 | _,_,.nil=>.nil
 | _,_,.cons a b c d=>.cons (.tup (SqT.of a) (.cons (.str _) (.cons (.tup (SqT.of b) (dpG c)) .nil))) (dpG d)
theorem ZmN:∀g:Gr Str,OkW (words SL g)->PyData.canLayAll0 (Zct g)=true
 | .nil,_=>rfl
 | .cons t w o,h=>by
  have ht:PyData.strOk t=true:=h t (by simp[words]);have hw:OkW (words SL w):=fun x hx=>h x (by simp[words,hx]);have ho:OkW (words SL o):=fun x hx=>h x (by simp[words,hx]);show((PyData.strOk t&&((PyData.canLayAll0 (Zct w))&&true))&&PyData.canLayAll0 (Zct o))=true;rw[ht,ZmN w hw,ZmN o ho];rfl
end Fg
namespace L2
open PySem PySem.Spec PyProof.Rows
def CW(n:Nat)(Pv:Nat->List V->St->Hp->Prop):Nat->Nat->List V->St->Hp->Prop:=fun i m ys σ H=>m=n-i/\i<=n/\Pv i ys σ H
theorem CW.next{n i:Nat}{Pv:Nat->List V->St->Hp->Prop}{ys:List V}{σ : St}{H:Hp}(hi:i<n)(h:Pv (i+1) ys σ H):∃m',m'<n-i/\CW n Pv (i+1) m' ys σ H:=⟨_,by lia,rfl,hi,h⟩
theorem nd1{x:Str}:[x].Nodup:=by simp
theorem Zil{K:PySem.W.Frag}{a p:Addr}{xs:List V}{g:TG}{te:TE}{R:Hp->Prop}{σ0:St}{H0:Hp}(Pv:Nat->List V->St->Hp->Prop)(h0:Pv 0 [] σ0 H0)
  (hl:∀i ys σ H,i<=xs.length->Pv i ys σ H->SqL K H a xs/\H p=some (.lst ys))
  (hs:∀i ys x σ H,i<xs.length->xs[i]?= some x->Pv i ys σ H->g x σ H fun σ3 H4=>te σ3 H4 fun v H5=>H5 p=some (.lst ys)/\ys.length<sizeLine/\∃m',m'<xs.length-i/\CW xs.length Pv (i+1) m' (ys ++ [v]) σ3 (upd H5 p (.lst (ys ++ [v]))))
  (hd:∀ys σ H,Pv xs.length ys σ H->R H) :
  ∃W:Nat->Nat->List V->St->Hp->Prop,(∃m,W 0 m [] σ0 H0)/\∀i m ys σc H2,W i m ys σc H2->H2 p=some (.lst ys)/\(((Itl K a).stop i H2/\R H2)\/((Itl K a).go i H2/\∀x H3,(Itl K a).yld i H2 x H3->g x σc H3 fun σ3 H4=>te σ3 H4 fun v H5 =>
   H5 p=some (.lst ys)/\ys.length<sizeLine/\∃m',m'<m/\W (i+1) m' (ys ++ [v]) σ3 (upd H5 p (.lst (ys ++ [v]))))):=by
 refine⟨CW xs.length Pv,⟨_,rfl,Nat.zero_le _,h0⟩,?_⟩;rintro i m ys σ H ⟨rfl,hi,hp⟩;obtain⟨h1,h2⟩:=hl i ys σ H hi hp;refine⟨h2,?_⟩;by_cases hlt:i<xs.length
 ·refine .inr ⟨⟨xs,xs[i],h1,List.getElem?_eq_getElem hlt⟩,?_⟩;rintro x H3 ⟨rfl,hx⟩;exact hs i ys x σ _ hlt (hx xs h1) hp
 ·refine .inl ⟨⟨xs,h1,by lia⟩,hd ys σ H ?_⟩;have e:i=xs.length:=by lia
  rw[<- e];exact hp
theorem ZfC{scope:Scope}{env:Env}(h:∀y∈scope.names,y.2 ≠ .cell/\y.2 ≠ .free){cl:List (Str×Addr)}:∀(C:Addr)(x:Str),((compEnvC scope cl C env).kindOf x=some .cell\/(compEnvC scope cl C env).kindOf x=some .free)->∃c,cl.lookup x=some c:=by
 have key:∀(l:List (Str×NameKind))(x:Str),(∀y∈l,y.2 ≠ .cell/\y.2 ≠ .free)->∀k,(l.map fun(n,k)=>if(k ==.free&&env.scope.kind ==.function&&env.kindOf n == some .cell) then(n,.cell) else(n,k)).lookup x=some k->k ≠ .cell/\k ≠ .free:=by
  intro l
  induction l with
  | nil=>intro x _ k e;simp at e
  | cons y l ih =>
   intro x hy k e;obtain⟨n,kd⟩:=y;have hk:=hy _ (List.mem_cons_self ..);have e0:(kd == NameKind.free&&env.scope.kind ==.function&&env.kindOf n == some .cell)=false:=by
    have:(kd == NameKind.free)=false:=by
     cases kd <;> first|rfl|exact absurd rfl hk.2
    rw[this];rfl
   simp only[List.map_cons,e0,Bool.false_eq_true,if_false,List.lookup_cons] at e;cases hx:x == n with
   | true =>
    rw[hx] at e;cases e;exact hk
   | false =>
    rw[hx] at e;exact ih x (fun y hm=>hy y (List.mem_cons_of_mem _ hm)) k e
 intro C x hx;rcases hx with e|e
 ·exact absurd rfl (key _ x h _ e).1
 ·exact absurd rfl (key _ x h _ e).2
end L2
namespace FgM
theorem Zcj{A:Type}[DecidableEq A]{sl:A}:∀{g:Gr A}{n:Nat}{ws:List A},ZbG sl g->Can sl n ws->Can sl n (words sl g++ws)
 | .nil,_,_,_,h=>h
 | .cons t w o,n,ws,⟨h1,h2,h3⟩,h=>by
  have e:words sl (.cons t w o)++ws=t::(words sl w++sl::(words sl o++ws)):=by simp[words]
  rw[e,ZcS h1];exact Zcj h2 (ZcL.mpr ⟨by lia,Zcj h3 (by simpa using h)⟩)
end FgM
namespace L2
open PySem PySem.Spec PyProof.Rows
section
variable{X:Cx}{elt iter tg:Expr}{scope:Scope}{pos:Pos}{wi:TI}{g:TG}{te:TE}{cl:List (Str×Addr)}
theorem Zgx{y:Str}{py spos:Pos}{n0:Nat}(hN:X.N.Nodup)(hi0:X.N[n0]?= some y)(hx:Loc X.env.scope y)(tn:List Str)(cap:List (Str×Nat))(hi:PI X tg iter wi)(hg:∀C fp s H,PG (Zat X (tn++cap.map (·.1)) scope cl C fp s H) tg g)(he:∀C fp s H,PE (Zat X (tn++cap.map (·.1)) scope cl C fp s H) elt te)
  (hc:X.calm=true) (hclos:closureFor scope X.env=pure cl) (hcell:∀y∈scope.names,y.2 ≠ .cell) (hk:scope.kind=.function) (hnames:∀y∈scope.names,y.2=.local->scope.names.lookup y.1=some .local)
  (hcl:∀x c,cl.lookup x=some c->X.env.cells.lookup x=some c)
  (hhas:∀C x,((compEnvC scope cl C X.env).kindOf x=some .cell\/(compEnvC scope cl C X.env).kindOf x=some .free)->∃c,cl.lookup x=some c)
  (hcap:∀C,∀p∈cap,X.N[p.2]?= some p.1/\X.env.scope.names.lookup p.1=some .cell/\((compEnvC scope cl C X.env).kindOf p.1=some .cell\/(compEnvC scope cl C X.env).kindOf p.1=some .free))
  (hs:∀v,foldedSetIterable iter X.env v=pure v) (hsw:swapsWith (.ListComp elt [⟨tg,iter,[],0⟩] scope pos) (some (.Name y py)) spos.line X.env=pure true) (hf:X.fn y=true\/X.env.scope.names.lookup y=some .local:=by first|exact .inl rfl|exact .inr rfl|assumption) :
  PS X (.Assign [.Name y py] (.ListComp elt [⟨tg,iter,[],0⟩] scope pos) spos) (ZmL (Zl3 wi tn.length cap g te) (Zgy n0)):=by
 intro pins s σ H D I h;rw[exec_Assign_Name_used _ _ _ _ hsw];refine wpAny_bind (wpAny_standAt (wpAny_bind ?_));show wpAny _ X.A (do let _ <- comprehension (.ListComp elt [⟨tg,iter,[],0⟩] scope pos) scope X.env _ (newList []) false (eval iter X.env) (some (assign (.Name y py) X.env))) _ _ s;refine wpAny_bind (wpAny_mono (wpAny_comprehension_free (use:=some (assign (.Name y py) X.env)) (Q:=fun _ s'=>SP X pins D .next s') rfl hs hclos hk hnames (thn (hi pins s σ H _ I h) fun v s1 h1=>thn h1 fun itv s2 h2=>?_)) (fun _ s' hq=>wpAny_pure (wpAny_pure hq)) fun _ _ e=>e)
 obtain⟨it,fp,tnn,J,H2,e,I2,T,st2,f2,q2⟩:=h2;subst e;refine Zep (R:=fun p H6=>Zgy n0 (.ref p) σ H6 (fun σ' H'=>D.nx σ' H')) tn cap hg he hc hcell hk hcl hhas hcap I2 T st2 f2 q2 fun s3 H3 I3 f3 acc σ6 H6 s6 I6 q6=>?_;obtain⟨m,hn,_⟩:=I6.loc;have I':Inv X pins σ H6 s6:=I3.call' (ch:=fp) I6.os I6.base I6.hok I6.bare fun b hb=>⟨(f3 b hb).2.2.2.1,(f3 b hb).2.1,(f3 b hb).2.2.2.2.1,(f3 b hb).2.2.2.2.2⟩;have fC:Zfh X pins H6 s3.heap.objs.size:=I3.fpOk (Nat.le_refl _) I6.free;show wpAny _ X.A (assign (.Name y py) X.env (.ref acc)) _ _ s6;refine wpAny_assign_Name (ZfY (v:=.ref acc) I' hN hi0 hx rfl (fun s7 I7 ⟨a,sb,ha⟩=>?_) hf);have nCa:s3.heap.objs.size≠a:=by
  rcases ha with z|z
  ·rw[z];exact fC.2.1
  ·exact(fC.2.2.2.2.1 _ _ z).symm
 exact⟨m,hn.sameBut sb nCa,fun h' sb'=>⟨_,H6,I7.turned (t':=s7.toks) (fun b o hb e=>(sb'.2 b hb).trans e) fC.1 fC.2.1 fC.2.2.2.1 fC.2.2.2.2.1 fC.2.2.2.2.2,q6⟩⟩
end
section
variable{κ : Type}[DecidableEq κ]
def Zbe(kvs:List (κ × V))(k : κ):Option V:=(kvs.find? fun kv=>decide (kv.1=k)).map (·.2)
def putK(kvs:List (κ × V))(k : κ)(v:V):List (κ × V) :=
 if(kvs.any fun kv=>decide (kv.1=k))=true then kvs.map (fun kv=>if kv.1=k then(kv.1,v) else kv) else kvs ++ [(k,v)]
theorem ZaC{p : κ × V}{r:List (κ × V)}{k : κ}(e:p.1=k):Zbe (p::r) k=some p.2:=by simp[Zbe,List.find?_cons,e]
theorem Zar{p : κ × V}{r:List (κ × V)}{k : κ}(e : ¬ p.1=k):Zbe (p::r) k=Zbe r k:=by simp[Zbe,List.find?_cons,e]
theorem Zbl(k : κ):∀kvs:List (κ × V),(kvs.any fun kv=>decide (kv.1=k))=(Zbe kvs k).isSome
 | []=>rfl
 | p::r=>by
  rw[List.any_cons];by_cases e:p.1=k
  ·simp only[ZaC e,decide_eq_true e,Bool.true_or,Option.isSome_some]
  ·rw[Zar e,decide_eq_false e,Bool.false_or];exact Zbl k r
theorem Zhw(k j : κ)(y:V):∀kvs:List (κ × V),Zbe (kvs.map fun kv=>if kv.1=k then(kv.1,y) else kv) j=(Zbe kvs j).map fun x=>if j=k then y else x
 | []=>rfl
 | p::r=>by
  have ih:=Zhw k j y r;rw[List.map_cons];by_cases h:p.1=k
  ·rw[if_pos h];by_cases e:p.1=j
   ·rw[ZaC (p:=(p.1,y)) e,ZaC e,Option.map_some,if_pos (e.symm.trans h)]
   ·rw[Zar (p:=(p.1,y)) e,Zar e,ih]
  ·rw[if_neg h];by_cases e:p.1=j
   ·rw[ZaC (p:=p) e,ZaC e,Option.map_some,if_neg (fun z=>h (e.trans z))]
   ·rw[Zar (p:=p) e,Zar e,ih]
theorem ZfT(k j : κ)(y:V):∀kvs:List (κ × V),Zbe kvs k=none->Zbe (kvs ++ [(k,y)]) j=if j=k then some y else Zbe kvs j
 | [],_=>by
  by_cases e:k=j
  ·rw[if_pos e.symm];exact ZaC (p:=(k,y)) e
  ·rw[if_neg (fun z=>e z.symm)];exact Zar (p:=(k,y)) e
 | p::r,hn=>by
  rw[List.cons_append];have hk : ¬ p.1=k:=fun z=>by rw[ZaC z] at hn;cases hn
  rw[Zar hk] at hn;have ih:=ZfT k j y r hn;by_cases e:p.1=j
  ·rw[ZaC e,ZaC e,if_neg (fun z=>hk (e.trans z))]
  ·rw[Zar e,Zar e,ih]
theorem Zhi(kvs:List (κ × V))(k j : κ)(y:V):Zbe (putK kvs k y) j=if j=k then some y else Zbe kvs j:=by
 unfold putK;by_cases a:(kvs.any fun kv=>decide (kv.1=k))=true
 ·rw[if_pos a,Zhw];rw[Zbl] at a;by_cases e:j=k
  ·obtain⟨x,hx⟩:=Option.isSome_iff_exists.mp a;rw[if_pos e,e,hx,Option.map_some,if_pos rfl]
  ·rw[if_neg e];cases Zbe kvs j with
   | none=>rfl
   | some x=>rw[Option.map_some,if_neg e]
 ·rw[if_neg a];refine ZfT k j y kvs ?_;rw[Zbl] at a;cases q:Zbe kvs k with
  | none=>rfl
  | some x=>rw[q] at a;exact(a rfl).elim
theorem Za3(kvs:List (κ × V))(k : κ)(v:V):(putK kvs k v).length<=kvs.length+1:=by
 unfold putK
 split
 ·rw[List.length_map];lia
 ·rw[List.length_append,List.length_cons,List.length_nil];lia
theorem Ze7{kvs:List (κ × V)}{k : κ}(v:V)(h:Zbe kvs k=none):putK kvs k v=kvs ++ [(k,v)]:=by
 unfold putK;rw[Zbl,h];exact if_neg (by decide)
theorem Zfg.isSome_eq{o:Option V}{u:Option Value}(r:Zfg o u):o.isSome=u.isSome:=by
 cases o with
 | none=>cases u with
  | none=>rfl
  | some _=>exact(show False from r).elim
 | some _=>cases u with
  | none=>exact(show False from r).elim
  | some _=>rfl
theorem Zfg.getD{o:Option V}{u:Option Value}{d:V}{d':Value}(r:Zfg o u)(rd:RelV d d'):RelV (o.getD d) (u.getD d'):=by
 cases o with
 | none=>cases u with
  | none=>exact rd
  | some _=>exact(show False from r).elim
 | some _=>cases u with
  | none=>exact(show False from r).elim
  | some _=>exact r
theorem KV.val{kvs:List (κ × V)}{vs:List (κ × Value)}(r:KV kvs vs)(k : κ):Zfg (Zbe kvs k) (valueAt vs k):=by
 unfold KV at r
 induction r with
 | nil=>exact True.intro
 | @cons p q ps qs h t ih =>
  obtain⟨h1,h2⟩:=h;by_cases e:p.1=k
  ·have e':q.1=k:=h1.symm.trans e;have b:valueAt (q::qs) k=some q.2:=by simp[valueAt,List.find?_cons,e']
   rw[ZaC e,b];exact h2
  ·have e' : ¬ q.1=k:=fun z=>e (h1.trans z);have b:valueAt (q::qs) k=valueAt qs k:=by simp[valueAt,List.find?_cons,e']
   rw[Zar e,b];exact ih
theorem KV.any{kvs:List (κ × V)}{vs:List (κ × Value)}(r:KV kvs vs)(k : κ):(kvs.any fun kv=>decide (kv.1=k))=vs.any fun kv=>decide (kv.1=k):=by
 unfold KV at r
 induction r with
 | nil=>rfl
 | cons h t ih=>rw[List.any_cons,List.any_cons,ih,h.1]
theorem KV.repl{kvs:List (κ × V)}{vs:List (κ × Value)}(r:KV kvs vs)(k : κ){y:V}{u:Value}(ry:RelV y u) :
  KV (kvs.map fun kv=>if kv.1=k then(kv.1,y) else kv) (vs.map fun kv=>if kv.1=k then(kv.1,u) else kv):=by
 unfold KV at r ⊢
 induction r with
 | nil=>exact .nil
 | @cons p q ps qs h t ih =>
  rw[List.map_cons,List.map_cons];refine .cons ?_ ih;obtain⟨h1,h2⟩:=h;by_cases e:p.1=k
  ·rw[if_pos e,if_pos (h1.symm.trans e)];exact⟨h1,ry⟩
  ·rw[if_neg e,if_neg (fun z=>e (h1.trans z))];exact⟨h1,h2⟩
theorem KV.put{kvs:List (κ × V)}{vs:List (κ × Value)}(r:KV kvs vs)(k : κ){y:V}{u:Value}(ry:RelV y u):KV (putK kvs k y) (stored vs k u):=by
 unfold putK stored;rw[r.any k];by_cases e:(vs.any fun kv=>decide (kv.1=k))=true
 ·rw[if_pos e,if_pos e];exact r.repl k ry
 ·rw[if_neg e,if_neg e];exact Paired.snoc r ⟨rfl,ry⟩
theorem KV.length{kvs:List (κ × V)}{vs:List (κ × Value)}(r:KV kvs vs):kvs.length=vs.length:=Paired.length r
end
theorem Zgh{P:Program}{w:World}{k:Key}{u:Value}(r:RelV (kV k) u):(ZX P w).is k u=true:=by
 cases k with
 | inl i=>obtain⟨t,e⟩:=(show ∃t,u=Value.int i t from r);subst e;exact Zgj P w i t
 | inr x=>obtain⟨t,e⟩:=(show ∃t,u=Value.str x t from r);subst e;exact Zf1 P w x t
theorem ZfH{P:Program}{w:World}:∀{ks:List Key}{us:List Value},Vals (ks.map kV) us->ItemsAre (ZX P w) ks us
 | [],_,r=>by rw[List.map_nil] at r;cases r;exact .nil
 | k::ks,_,r=>by
  rw[List.map_cons] at r;cases r with
  | cons h t=>exact .cons (Zgh h) (ZfH t)
abbrev KT(H:Hp):List (List Key×V)->List (List Key×Addr×Value)->Prop:=Paired fun p q=>p.1=q.1/\H q.2.1=some (.tup (p.1.map kV))/\RelV p.2 q.2.2
theorem KT.val{H:Hp}{kvs:List (List Key×V)}{xs:List (List Key×Addr×Value)}(r:KT H kvs xs)(k:List Key):Zfg (Zbe kvs k) ((atKey xs k).map (·.2)):=by
 induction r with
 | nil=>exact True.intro
 | @cons p q ps qs h t ih =>
  obtain⟨h1,_,h2⟩:=h;by_cases e:p.1=k
  ·have e':q.1=k:=h1.symm.trans e;have b:atKey (q::qs) k=some q.2:=by simp[atKey,List.find?_cons,e']
   rw[ZaC e,b];exact h2
  ·have e' : ¬ q.1=k:=fun z=>e (h1.trans z);have b:atKey (q::qs) k=atKey qs k:=by simp[atKey,List.find?_cons,e']
   rw[Zar e,b];exact ih
theorem KT.repl{H:Hp}{kvs:List (List Key×V)}{xs:List (List Key×Addr×Value)}(r:KT H kvs xs)(k:List Key){y:V}{u:Value}(ry:RelV y u) :
  KT H (kvs.map fun kv=>if kv.1=k then(kv.1,y) else kv) (xs.map (putAt k u)):=by
 induction r with
 | nil=>exact .nil
 | @cons p q ps qs h t ih =>
  rw[List.map_cons,List.map_cons];refine .cons ?_ ih;obtain⟨h1,h2,h3⟩:=h;unfold putAt;by_cases e:p.1=k
  ·rw[if_pos e,if_pos (h1.symm.trans e)];exact⟨h1,h2,ry⟩
  ·rw[if_neg e,if_neg (fun z=>e (h1.trans z))];exact⟨h1,h2,h3⟩
theorem KT.put{H:Hp}{kvs:List (List Key×V)}{xs:List (List Key×Addr×Value)}(r:KT H kvs xs)(k:List Key){b:Addr}{y:V}{u:Value}(hb:H b=some (.tup (k.map kV)))(ry:RelV y u) :
  KT H (putK kvs k y) (storedH xs k b u):=by
 have e:(kvs.any fun kv=>decide (kv.1=k))=(atKey xs k).isSome:=by
  rw[Zbl,(r.val k).isSome_eq,Option.isSome_map]
 unfold putK storedH;rw[e];by_cases q:(atKey xs k).isSome=true
 ·rw[if_pos q,if_pos q];exact r.repl k ry
 ·rw[if_neg q,if_neg q];exact Paired.snoc r ⟨rfl,hb,ry⟩
theorem KT.keeps{H H':Hp}{kvs:List (List Key×V)}{xs:List (List Key×Addr×Value)}(r:KT H kvs xs)(ht:∀b ys,H b=some (.tup ys)->H' b=some (.tup ys)):KT H' kvs xs :=
 Paired.mapP r fun _ _ z=>⟨z.1,ht _ _ z.2.1,z.2.2⟩
section
variable{P:Program}{w:World}{H:Hp}{h:Heap}{a:Addr}
theorem Zmh{u:HO}(ok:HOk P w H h)(e:Rd H a u):Zaz P w H h a u:=e.ok ok
theorem Zh0{kvs:List (Key×V)}(ok:HOk P w H h)(e:Rd H a (.dK kvs)):kvs.length<=sizeLine/\(a == sysModules)=false/\∃vs,KV kvs vs/\h.DictOf (ZX P w) a vs :=
 show Zaz P w H h a (.dK kvs) from Zmh ok e
theorem Zlh{kvs:List (Key×V)}(ok:HOk P w H h)(e:H a=some (.dK kvs)):kvs.length<=sizeLine/\(a == sysModules)=false/\∃vs,KV kvs vs/\h.DictOf (ZX P w) a vs:=Zh0 ok (.inl e)
theorem ZeD{ks:List Key}(ok:HOk P w H h)(e:H a=some (.tup (ks.map kV))):(tupleKind (ZX P w)).is h ks a:=by
 obtain⟨_,its,r,o,h1,h2,n,h3⟩:=(show Zaz P w H h a (.tup (ks.map kV)) from ok a _ e);exact⟨o,its.toArray,n,h1,h2,h3,by simpa using ZfH r⟩
theorem ZhZ{kvs:List (List Key×V)}(ok:HOk P w H h)(e:Rd H a (.dT kvs)):kvs.length<=sizeLine/\(a == sysModules)=false /\
  ∃xs,KT H kvs xs/\h.DictOfH (tupleKind (ZX P w)) a xs:=by
 obtain⟨z,y,xs,r,o,es,ep,h1,h2,h3,h4,h5⟩:=(show Zaz P w H h a (.dT kvs) from Zmh ok e);refine⟨z,y,xs,r,o,es,ep,h1,h2,h3,h4,fun x hx=>?_,h5⟩;have all:∀{l:List (List Key×V)}{m:List (List Key×Addr×Value)},KT H l m->∀x∈m,(tupleKind (ZX P w)).is h x.1 x.2.1:=by
  intro l m q
  induction q with
  | nil=>intro x hx;exact nomatch hx
  | @cons p q ps qs hq t ih =>
   intro x hx;rcases List.mem_cons.mp hx with e|hx
   ·subst e;exact ZeD ok (by rw[<- hq.1];exact hq.2.1)
   ·exact ih x hx
 exact all r x hx
theorem ZmJ{kvs:List (List Key×V)}(ok:HOk P w H h)(e:H a=some (.dT kvs)):kvs.length<=sizeLine/\(a == sysModules)=false /\
  ∃xs,KT H kvs xs/\h.DictOfH (tupleKind (ZX P w)) a xs:=ZhZ ok (.inl e)
end
def Zee(H:Hp)(a:Addr)(y:V)(r:Option V):Prop :=
 (∃kvs k,Rd H a (.dK kvs)/\y=kV k/\r=Zbe kvs k)\/∃kvs k b,Rd H a (.dT kvs)/\y=.ref b/\H b=some (.tup (k.map kV))/\r=Zbe kvs k
def ZjN(H:Hp)(a:Addr)(y v:V)(H':Hp):Prop :=
 (∃kvs k,H a=some (.dK kvs)/\y=kV k/\kvs.length<sizeLine/\H'=upd H a (.dK (putK kvs k v))) \/
 ∃kvs k b,H a=some (.dT kvs)/\y=.ref b/\H b=some (.tup (k.map kV))/\kvs.length<sizeLine/\H'=upd H a (.dT (putK kvs k v))
theorem Zee.k{H:Hp}{a:Addr}{kvs:List (Key×V)}{k:Key}(e:H a=some (.dK kvs)):Zee H a (kV k) (Zbe kvs k):=.inl ⟨kvs,k,.inl e,rfl,rfl⟩
theorem Zee.t{H:Hp}{a b:Addr}{kvs:List (List Key×V)}{k:List Key}(e:H a=some (.dT kvs))(eb:H b=some (.tup (k.map kV))):Zee H a (.ref b) (Zbe kvs k):=.inr ⟨kvs,k,b,.inl e,rfl,eb,rfl⟩
theorem ZjN.k{H:Hp}{a:Addr}{kvs:List (Key×V)}{k:Key}{v:V}(e:H a=some (.dK kvs))(hl:kvs.length<sizeLine):ZjN H a (kV k) v (upd H a (.dK (putK kvs k v))):=.inl ⟨kvs,k,e,rfl,hl,rfl⟩
theorem ZjN.t{H:Hp}{a b:Addr}{kvs:List (List Key×V)}{k:List Key}{v:V}(e:H a=some (.dT kvs))(eb:H b=some (.tup (k.map kV)))(hl:kvs.length<sizeLine) :
  ZjN H a (.ref b) v (upd H a (.dT (putK kvs k v))):=.inr ⟨kvs,k,b,e,rfl,eb,hl,rfl⟩
section
variable{X:Cx}{pins:List (Addr×Obj)}{σ : St}{H:Hp}{s:Shared}{a:Addr}{y v:V}{u r:Value}{o:Option V}{A:Around}{E:Value->Shared->Prop}
theorem Inv.big(I:Inv X pins σ H s):sysModules<s.heap.objs.size:=by
 have h:mainGlobals<s.heap.objs.size:=(I.mod.glob.keeps I.bk).lt;exact Nat.lt_trans (by decide) h
theorem Zi3{Q:Value->Shared->Prop}(hu:A.units+1<cLine)(I:Inv X pins σ H s)(g:Zee H a y (some v))(ry:RelV y u)(h:∀w' s',Inv X pins σ H s'->RelV v w'->Q w' s') :
  wpAny (model X.prog X.w) A (getItem (.ref a) u) Q E s:=by
 rcases g with⟨kvs,k,e,ey,l⟩|⟨kvs,k,b,e,ey,eb,l⟩
 ·subst ey;obtain⟨z,hd,vs,rel,dd⟩:=Zh0 I.hok e;obtain⟨w',hw,rw'⟩:=Zfg.some_of (v:=v) (o:=valueAt vs k) (by rw[l];exact rel.val k);exact wpAny_getItem_of (Zgh ry) dd.mapOf hw (h w' _ (I.tok _) rw')
 ·subst ey;cases (show u=Value.ref b from ry);obtain⟨z,hd,xs,rel,dd⟩:=ZhZ I.hok e;obtain⟨w',hw,rw'⟩:=Zfg.some_of (v:=v) (o:=(atKey xs k).map (·.2)) (by rw[l];exact rel.val k);obtain⟨p,hp,hp2⟩:=Option.map_eq_some_iff.mp hw;refine wpAny_getItem_heap (tupleKind_room_in1 hu) (ZeD I.hok eb) dd hp ?_;rw[hp2];exact h w' _ (I.tok _) rw'
theorem ZnL{Q:Value->Shared->Prop}(hu:A.units+1<cLine)(I:Inv X pins σ H s)(g:Zee H a y o)(ry:RelV y u)(h:∀s',Inv X pins σ H s'->Q (.bool o.isSome) s') :
  wpAny (model X.prog X.w) A (compareOp .In u (.ref a)) Q E s:=by
 rcases g with⟨kvs,k,e,ey,l⟩|⟨kvs,k,b,e,ey,eb,l⟩
 ·subst ey;obtain⟨z,hd,vs,rel,dd⟩:=Zh0 I.hok e;refine wpAny_in_of (Zgh ry) hd dd.mapOf ?_;rw[<- (rel.val k).isSome_eq,<- l];exact h _ (I.tok _)
 ·subst ey;cases (show u=Value.ref b from ry);obtain⟨z,hd,xs,rel,dd⟩:=ZhZ I.hok e;refine wpAny_in_heap (tupleKind_room_in1 hu) (ZeD I.hok eb) hd dd ?_;have q:=(rel.val k).isSome_eq;rw[Option.isSome_map] at q;rw[<- q,<- l];exact h _ (I.tok _)
theorem ZgJ{h':Heap}{t':Nat}{ob:HO}(I:Inv X pins σ H s)(mu:Mut (H a))(hs:Heap.SameBut a s.heap h')(he:∃q,h'.get? a=some q)(new:Zaz X.prog X.w (upd H a ob) h' a ob) :
  Inv X pins σ (upd H a ob) { s with heap:=h',toks:=t' } :=
 I.write (x:=a) (e:=a) mu (.inl rfl) (fun b q hb z=>(hs.2 b hb).trans z) he new
theorem ZkL{P:Program}{w:World}{H':Hp}{h':Heap}{kvs:List (Key×V)}{vs:List (Key×Value)}(z:kvs.length<=sizeLine)(hd:(a == sysModules)=false)(rel:KV kvs vs)(dd:h'.DictOf (ZX P w) a vs) :
  Zaz P w H' h' a (.dK kvs):=⟨z,hd,vs,rel,dd⟩
theorem ZiD{H':Hp}{Q:Unit->Shared->Prop}(hu:A.units+1<cLine)(I:Inv X pins σ H s)(g:ZjN H a y v H')(ry:RelV y u)(rv:RelV v r)(h:∀s',Inv X pins σ H' s'->Q () s') :
  wpAny (model X.prog X.w) A (setItem (.ref a) u r) Q E s:=by
 rcases g with⟨kvs,k,e,ey,l,eH⟩|⟨kvs,k,b,e,ey,eb,l,eH⟩
 ·subst ey eH;obtain⟨z,hd,vs,rel,dd⟩:=Zlh I.hok e;have hz:vs.length<=sizeLine:=by rw[<- rel.length];exact z
  have hl:(putK kvs k v).length<=sizeLine:=by have:=Za3 kvs k v;lia
  refine wpAny_setItem_pairs (hsz:=hz) (Zgh ry) dd fun h' dd' hs=>h _ ?_;have he:∃q,h'.get? a=some q:=let ⟨q,_,_,hq,_⟩:=dd';⟨q,hq⟩;exact ZgJ I (by rw[e];exact True.intro) hs he (ZkL hl hd (rel.put k rv) dd')
 ·subst ey eH;cases (show u=Value.ref b from ry);obtain⟨z,hd,xs,rel,dd⟩:=ZmJ I.hok e;have hz:xs.length<=sizeLine:=by rw[<- Paired.length rel];exact z
  have hl:(putK kvs k v).length<=sizeLine:=by have:=Za3 kvs k v;lia
  refine wpAny_setItem_heap (hsz:=hz) (tupleKind_room_in1 hu) (ZeD I.hok eb) dd fun h' dd' hs=>h _ ?_;obtain⟨q,es,ep,hq,h2,h3,h4,_,h5⟩:=dd';refine ZgJ I (by rw[e];exact True.intro) hs ⟨q,hq⟩ ⟨hl,hd,_,(rel.put k eb rv).keeps fun c ys ec=>?_,q,es,ep,hq,h2,h3,h4,h5⟩;rw[Zc (ZgH ec e (fun z=>nomatch z))]
  exact ec
end
def Zne(i:Expr):Prop := ∀ov iv,subscripted i false ov iv=operate [ov,iv] (getItem ov iv)
theorem Zlk{prog:Program}{w:World}{A:Around}{E:Value->Shared->Prop}{s:Shared}{env:Env}{value slice:Expr}{pos:Pos}{T id:String}{Q:Value->Shared->Prop}
  (hl:typeLookup (.type T) "__getitem__" = pure (some (.builtin id))) (hs:Zne slice)
  (h:wpAny (model prog w) A (eval value env) (fun o s₁=>wpAny (model prog w) A (eval slice env) (fun i s₂=>s₂.TypeIs o T/\wpAny (model prog w) A (getItem o i) Q E s₂) E s₁) E s) :
  wpAny (model prog w) A (eval (.Subscript value slice pos) env) Q E s:=by
 refine Subscript_ (wpAny_mono h (fun o s₁ h₁=>wpAny_mono h₁ (fun i s₂ h₂=>?_) fun _ _ x=>x) fun _ _ x=>x);obtain⟨hT,h₂⟩:=h₂;unfold subscriptTail;refine wpAny_bind ?_;rw[getitemInPython_of_ne hT.not_modules];refine wpAny_bind (wpAny_specialOf hT hl ?_);have fin:wpAny (model prog w) A (subscripted slice false o i) (fun r s₃=>wpAny (model prog w) A (letTemporaryGo value o r >>= fun _=>pure r) Q E s₃) E s₂ := by
  rw[hs o i];exact wpAny_operating (wpAny_mono h₂ (fun r s₃ h₃=>wpAny_bind (wpAny_letTemporaryGo (wpAny_pure h₃))) fun _ _ x=>x)
 first
  | exact wpAny_pure (wpAny_bind fin)
  | exact wpAny_bind (wpAny_pure (wpAny_bind fin))
  | exact wpAny_bind fin
theorem Zf2{X:Cx}{pins:List (Addr×Obj)}{σ : St}{H:Hp}{s:Shared}{a:Addr}{y:V}{o:Option V}(I:Inv X pins σ H s)(g:Zee H a y o):s.TypeIs (.ref a) "dict" := by
 rcases g with⟨kvs,k,e,_,_⟩|⟨kvs,k,b,e,_,_,_⟩
 ·obtain⟨_,_,vs,_,dd⟩:=Zh0 I.hok e;exact dd.typeIs
 ·obtain⟨_,_,xs,_,dd⟩:=ZhZ I.hok e;exact dd.typeIs
def ZmZ(td ty:TE):TE:=fun σ H Q=>td σ H fun x H1=>ty σ H1 fun y H2=>∃a v,x=.ref a/\Zee H2 a y (some v)/\Q v H2
def ZnJ(ty td:TE):TE:=fun σ H Q=>ty σ H fun y H1=>td σ H1 fun x H2=>∃a o,x=.ref a/\Zee H2 a y o/\Q (.bl o.isSome) H2
def ZmW(td ty tv:TE):TS:=fun D σ H=>tv σ H fun v H1=>td σ H1 fun x H2=>ty σ H2 fun y H3=>∃a H4,x=.ref a/\ZjN H3 a y v H4/\D.nx σ H4
section
variable{X:Cx}{o i e value:Expr}{pos pos' tpos:Pos}{td ty tv:TE}
theorem ZcE(hu:X.A.units+1<cLine)(ho:PE X o td)(hi:PE X i ty)(hs:Zne i):PE X (.Subscript o i pos) (ZmZ td ty):=by
 intro pins s σ H Q I h;refine Zlk PySem.F.slot_dict_getitem.lookup hs (thn (ho pins s σ H _ I h) fun u s1 ⟨x,H1,I1,rx,q1⟩=>thn (hi pins s1 σ H1 _ I1 q1) fun iv s2 ⟨y,H2,I2,ry,a,v,ex,g,q2⟩=>?_);subst ex;obtain rfl:u=Value.ref a:=rx;exact⟨Zf2 I2 g,Zi3 hu I2 g ry fun w' s3 I3 rw'=>⟨v,H2,I3,rw',q2⟩⟩
theorem Zl4(hu:X.A.units+1<cLine)(hi:PE X i ty)(ho:PE X o td):PC X .In i o (ZnJ ty td):=by
 intro pins s σ H Q I h;refine thn (hi pins s σ H _ I h) fun iv s1 ⟨y,H1,I1,ry,q1⟩=>thn (ho pins s1 σ H1 _ I1 q1) fun u s2 ⟨x,H2,I2,rx,a,ov,ex,g,q2⟩=>?_;subst ex;obtain rfl:u=Value.ref a:=rx;exact ZnL hu I2 g ry fun s3 I3=>⟨.bl ov.isSome,H2,I3,rfl,q2⟩
theorem ZeK(hu:X.A.units+1<cLine)(ho:PE X o td)(hi:PE X i ty)(hv:PE X value tv)(hs:swapsWith value (some (.Subscript o i pos')) pos.line X.env=pure false) :
  PS X (.Assign [.Subscript o i pos'] value pos) (ZmW td ty tv):=by
 intro pins s σ H D I h;refine wpAny_Assign_Subscript (thn (hv pins s σ H _ I h) fun r s1 ⟨v,H1,I1,rv,q1⟩=>thn (ho pins s1 σ H1 _ I1 q1) fun u s2 ⟨x,H2,I2,rx,q2⟩=>thn (hi pins s2 σ H2 _ I2 q2) fun iv s3 ⟨y,H3,I3,ry,a,H4,ex,g,q3⟩=>?_) hs;subst ex;obtain rfl:u=Value.ref a:=rx;exact ZiD hu I3 g ry rv fun s4 I4=>⟨σ,H4,I4,q3⟩
end
theorem Zg5{P:Program}{w:World}{H:Hp}(h:Heap)(hb:sysModules<h.objs.size):Zaz P w H (h.push { cls:=.type "dict",data:=.dict #[] }) h.objs.size (.dK []) :=
 ⟨Nat.zero_le _,beq_eq_false_iff_ne.mpr (Ne.symm (Nat.ne_of_lt hb)),[],.nil,Heap.DictOf.new h⟩
theorem Zko{P:Program}{w:World}{H:Hp}(h:Heap)(hb:sysModules<h.objs.size):Zaz P w H (h.push { cls:=.type "dict",data:=.dict #[] }) h.objs.size (.dT []) :=
 ⟨Nat.zero_le _,beq_eq_false_iff_ne.mpr (Ne.symm (Nat.ne_of_lt hb)),[],.nil,_,#[],0,Heap.get?_push_size _ rfl,⟨rfl,rfl,rfl⟩,rfl,rfl,List.nodup_nil⟩
def ZlP:TE:=fun _ H Q=>∀p,H p=none->Q (.ref p) (upd H p (.dK []))
def Zl6:TE:=fun _ H Q=>∀p,H p=none->Q (.ref p) (upd H p (.dT []))
section
variable{X:Cx}{pos:Pos}
theorem ZeT:PE X (.Dict [] [] pos) ZlP:=fun pins s σ H Q I h =>
 wpAny_Dict_empty ⟨.ref s.heap.objs.size,_,I.laid (a:=s.heap.objs.size) (o:=.dK []) (t':=s.toks) (fun _ _ q=>Heap.get?_push_of_some _ q) (Nat.le_refl _) (Zg5 s.heap I.big),rfl,h _ (I.hok.fresh (Nat.le_refl _))⟩
theorem ZjR:PE X (.Dict [] [] pos) Zl6:=fun pins s σ H Q I h =>
 wpAny_Dict_empty ⟨.ref s.heap.objs.size,_,I.laid (a:=s.heap.objs.size) (o:=.dT []) (t':=s.toks) (fun _ _ q=>Heap.get?_push_of_some _ q) (Nat.le_refl _) (Zko s.heap I.big),rfl,h _ (I.hok.fresh (Nat.le_refl _))⟩
end
def Zij:List (TE×TE)->St->Hp->(List (V×V)->Hp->Prop)->Prop
 | [],_,H,Q=>Q [] H
 | (tk,tv)::r,σ,H,Q=>tk σ H fun x H1=>tv σ H1 fun y H2=>Zij r σ H2 fun ps H3=>Q ((x,y)::ps) H3
abbrev VV:List (V×V)->List (Value×Value)->Prop:=Paired fun p q=>RelV p.1 q.1/\RelV p.2 q.2
def PPs(X:Cx)(pos:Pos)(keys:List (Option Expr))(values:List Expr)(trs:List (TE×TE)):Prop :=
 ∀(pins:List (Addr×Obj))(s:Shared)(σ : St)(H:Hp)(Q:List (V×V)->Hp->Prop),Inv X pins σ H s->Zij trs σ H Q ->
  wpAny (model X.prog X.w) X.A (evalPairs (pairTrees keys values X.env pos)) (fun vs s'=>∃ps H',Inv X pins σ H' s'/\VV ps vs/\Q ps H') X.xe s
theorem Zk5{X:Cx}{pos:Pos}:PPs X pos [] [] []:=fun pins s σ H Q I h=>pairTrees_nil_walk ⟨[],H,I,.nil,h⟩
theorem Zkj{X:Cx}{pos:Pos}{k v:Expr}{ks:List (Option Expr)}{vs:List Expr}{tk tv:TE}{trs:List (TE×TE)}(hk:PE X k tk)(hv:PE X v tv)(hr:PPs X pos ks vs trs) :
  PPs X pos (some k::ks) (v::vs) ((tk,tv)::trs):=fun pins s σ H Q I h =>
 pairTrees_cons_walk (thn (hk pins s σ H _ I h) fun u s1 ⟨x,H1,I1,rx,q1⟩=>thn (hv pins s1 σ H1 _ I1 q1) fun w2 s2 ⟨y,H2,I2,ry,q2⟩ =>
  thn (hr pins s2 σ H2 _ I2 q2) fun ws s3 ⟨ps,H3,I3,rel,q3⟩=>⟨(x,y)::ps,H3,I3,.cons ⟨rx,ry⟩ rel,q3⟩)
def Zfz(kvs more:List (Key×V)):List (Key×V):=more.foldl (fun acc kv=>putK acc kv.1 kv.2) kvs
theorem KV.merge:∀{more:List (Key×V)}{rs:List (Key×Value)}{kvs:List (Key×V)}{vs:List (Key×Value)},KV more rs->KV kvs vs->KV (Zfz kvs more) (merged vs rs):=by
 intro more rs kvs vs r;unfold KV at r
 induction r generalizing kvs vs with
 | nil=>intro q;exact q
 | @cons p q ps qs h t ih =>
  intro r0;have e:KV (putK kvs p.1 p.2) (stored vs q.1 q.2):=by
   have:=r0.put p.1 h.2;rw[<- h.1];exact this
  exact ih e
theorem Zci:∀(more kvs:List (Key×V)),(Zfz kvs more).length<=kvs.length+more.length
 | [],kvs=>by show kvs.length<=kvs.length+0;lia
 | p::r,kvs=>by
  have h1:=Zci r (putK kvs p.1 p.2);have h2:=Za3 kvs p.1 p.2;show(Zfz (putK kvs p.1 p.2) r).length<=_;rw[List.length_cons];lia
theorem Zey{P:Program}{w:World}:∀{kvs:List (Key×V)}{ws:List (Value×Value)},VV (kvs.map fun kv=>(kV kv.1,kv.2)) ws->∃rs,Carries (ZX P w) ws rs/\KV kvs rs
 | [],_,r=>by rw[List.map_nil] at r;cases r;exact⟨[],True.intro,.nil⟩
 | p::kvs,_,r=>by
  rw[List.map_cons] at r;cases r with
  | @cons a b as bs h t =>
   obtain⟨rs,c,q⟩:=Zey (P:=P) (w:=w) t;obtain⟨b1,b2⟩:=b;exact⟨(p.1,b2)::rs,⟨Zgh h.1,rfl,c⟩,.cons ⟨rfl,h.2⟩ q⟩
def Zm4(trs:List (TE×TE)):TE:=fun σ H Q=>∀p,H p=none->Zij trs σ (upd H p (.dK [])) fun ps H2=>H2 p=some (.dK [])/\∃kvs:List (Key×V),ps=kvs.map (fun kv=>(kV kv.1,kv.2))/\kvs.length<=15/\Q (.ref p) (upd H2 p (.dK (Zfz [] kvs)))
theorem ZlJ{X:Cx}{pos:Pos}{keys:List (Option Expr)}{values:List Expr}{trs:List (TE×TE)}(h:PPs X pos keys values trs)(hall:keys.all (·.isSome)=true)(hl:keys.length=values.length)(h0:keys ≠ [])
  (h15:keys.length<=15):PE X (.Dict keys values pos) (Zm4 trs):=by
 intro pins s σ H Q I q;have hn:=I.hok.fresh (Nat.le_refl s.heap.objs.size);have I1:=I.laid (a:=s.heap.objs.size) (o:=.dK []) (h':=s.heap.push { cls:=.type "dict",data:=.dict #[] }) (t':=s.toks) (fun _ _ q=>Heap.get?_push_of_some _ q) (Nat.le_refl _) (Zg5 s.heap I.big);refine wpAny_Dict_walk (knd:=ZX X.prog X.w) hall hl h0 h15 (thn (h pins _ σ _ _ I1 (q _ hn)) fun ws s2 ⟨ps,H2,I2,rel,e,kvs,ep,lk,q2⟩=>?_);subst ep;obtain⟨rs,c,rk⟩:=Zey (P:=X.prog) (w:=X.w) rel;obtain⟨z,hd,vs0,r0,dd⟩:=Zlh I2.hok e;cases r0;refine⟨rs,c,dd,fun h' dd' hs=>⟨.ref s.heap.objs.size,_,?_,rfl,q2⟩⟩;have hz:(Zfz [] kvs).length<=sizeLine:=by
  have h1:=Zci kvs [];rw[List.length_nil] at h1;rw[sizeLine_eq];lia
 have he:∃q,h'.get? s.heap.objs.size=some q:=let ⟨q,_,_,hq,_⟩:=dd';⟨q,hq⟩;exact ZgJ I2 (by rw[e];exact True.intro) hs he (ZkL hz hd (rk.merge .nil) dd')
structure M2(X:Cx)(o:Expr)(m:Str)(apos:Pos)(e f:Expr)(cpos:Pos):Prop where
 base:attributeBase o m X.env (eval o X.env)=eval o X.env
 few:((backTo cpos (starEach [e,f] X.env)).all (fun x=>!x.1)&&(backToKw cpos (keywordEach [] X.env)).all (fun x=>x.1.isSome)
  && decide (([e,f]:List Expr).length+([]:List Keyword).length+(if([]:List Keyword).isEmpty then 0 else 1)<30))=true
 line:(apos.endLine == cpos.line)=true
 trees:backTo cpos (starEach [e,f] X.env)=[(false,eval e X.env),(false,eval f X.env)]
def IsD(H:Hp)(a:Addr):Prop:=(∃kvs,Rd H a (.dK kvs))\/∃kvs,Rd H a (.dT kvs)
theorem Zmq{X:Cx}{pins:List (Addr×Obj)}{σ : St}{H:Hp}{s:Shared}{a:Addr}(I:Inv X pins σ H s)(d:IsD H a) :
  s.TypeIs (.ref a) "dict" /\ (∀b,Value.ref a=.ref b->∃ob,s.heap.get? b=some ob/\ob.dict=none)/\(a == sysModules)=false:=by
 rcases d with⟨kvs,e⟩|⟨kvs,e⟩
 ·obtain⟨_,hd,vs,_,dd⟩:=Zh0 I.hok e;refine⟨dd.typeIs,fun b q=>?_,hd⟩;cases q;obtain⟨ob,_,_,h1,h2,_⟩:=dd;exact⟨ob,h1,h2.2.1⟩
 ·obtain⟨_,hd,xs,_,dd⟩:=ZhZ I.hok e;refine⟨dd.typeIs,fun b q=>?_,hd⟩;cases q;obtain⟨ob,_,_,h1,h2,_⟩:=dd;exact⟨ob,h1,h2.2.1⟩
section
variable{X:Cx}{pins:List (Addr×Obj)}{σ : St}{H:Hp}{s:Shared}{a:Addr}{y d:V}{u r:Value}{o:Option V}{A:Around}{E:Value->Shared->Prop}
theorem Zmd{Q:Value->Shared->Prop}(hu:A.units+1<cLine)(I:Inv X pins σ H s)(g:Zee H a y o)(ry:RelV y u)(rd:RelV d r)(h:∀w' s',Inv X pins σ H s'->RelV (o.getD d) w'->Q w' s') :
  wpAny (model X.prog X.w) A (call (.builtin "dict.get") [.ref a,u,r]) Q E s:=by
 rcases g with⟨kvs,k,e,ey,l⟩|⟨kvs,k,b,e,ey,eb,l⟩
 ·subst ey;obtain⟨z,hd,vs,rel,dd⟩:=Zh0 I.hok e;refine call_meetsIn PySem.F.slot_dict_get dd.typeIs PySem.F.entry_dict_get (PySem.F.args_dict_get_3 _ _ _) (meets_dict_get_default (ZX X.prog X.w) a (Zgh ry) hd r) ⟨_,dd.mapOf,h _ _ (I.tok _) ?_⟩;rw[l];exact(rel.val k).getD rd
 ·subst ey;cases (show u=Value.ref b from ry);obtain⟨z,hd,xs,rel,dd⟩:=ZhZ I.hok e;refine call_meetsIn PySem.F.slot_dict_get dd.typeIs PySem.F.entry_dict_get (PySem.F.args_dict_get_3 _ _ _) (meetsH_dict_get_default (tupleKind (ZX X.prog X.w)) a b hd r) ⟨tupleKind_room_in1 hu,k,xs,ZeD I.hok eb,dd,h _ _ (I.tok _) ?_⟩;rw[l];exact(rel.val k).getD rd
end
def Zmc(td ty tx:TE):TE:=fun σ H Q=>td σ H fun x H1=>∃a,x=.ref a/\IsD H1 a/\ty σ H1 fun y H2=>tx σ H2 fun z H3=>∃o,Zee H3 a y o/\Q (o.getD z) H3
section
variable{X:Cx}{o e f:Expr}{apos cpos:Pos}{td ty tx:TE}
theorem Zki(hu:X.A.units+1<cLine)(ho:PE X o td)(he:PE X e ty)(hf:PE X f tx)(m:M2 X o "get" apos e f cpos):PE X (.Call (.Attribute o "get" apos) [e,f] [] cpos) (Zmc td ty tx):=by
 intro pins s σ H Q I h;refine wpAny_Call_method m.base m.few m.line PySem.F.plainAttrs_dict PySem.F.slot_dict_get PySem.F.type_dict_get (thn (ho pins s σ H _ I h) fun u s1 ⟨x,H1,I1,rx,a,ex,d,q1⟩=>?_);subst ex;obtain rfl:u=Value.ref a:=rx;obtain⟨t1,t2,_⟩:=Zmq I1 d;refine⟨t1,t2,?_⟩;rw[m.trees];refine Calls.callWith_builtin rfl (Calls.evalArgs_plain (Calls.spliced_cons (thn (he pins s1 σ H1 _ I1 q1) fun iv s2 ⟨y,H2,I2,ry,q2⟩ =>
  Calls.spliced_cons (thn (hf pins s2 σ H2 _ I2 q2) fun fv s3 ⟨z,H3,I3,rz,ov,g,q3⟩=>Calls.spliced_nil ?_))))
 exact Zmd hu I3 g ry rz fun w' s4 I4 rw'=>⟨_,H3,I4,rw',q3⟩
end
section
variable{κ : Type}[DecidableEq κ]
theorem Zky{kvs:List (κ × V)}{k : κ}(h:Zbe kvs k=none) : ¬ k∈kvs.map (·.1):=by
 intro m;obtain⟨p,hp,e⟩:=List.mem_map.mp m;have q:(kvs.any fun kv=>decide (kv.1=k))=true:=List.any_eq_true.mpr ⟨p,hp,decide_eq_true e⟩;rw[Zbl,h] at q;exact absurd q (by simp)
end
structure HasM(P:Program)(w:World)(K:PySem.W.Frag)(mg:Str->Option Value)(base:Heap)(C:Addr)(m:Str)(ps:List Str)(j:Nat)(sp:Sp):Prop where
 ex:∃f fd,FnOk P w K mg base CX0 j f fd ps sp/\Binds K fd ps []/\Meth K C m f
structure HasC(P:Program)(w:World)(K:PySem.W.Frag)(mg:Str->Option Value)(base:Heap)(C:Addr)(x:Str)(ps:List Str)(j:Nat)(sp:Sp):Prop where
 ex:∃f fd,FnOk P w K mg base CX0 j f fd ps sp/\Binds K fd ps []/\Mk K C f/\mg x=some (.ref C)
section
variable{X:Cx}{C:Addr}{m x:Str}{ps:List Str}{j k:Nat}{sp:Sp}{o e:Expr}{es:List Expr}{ta:TE}{t:TA}{p pos apos:Pos}
theorem ZcU{pl:Sem Bool}(G:HasM X.prog X.w X.K X.mg X.base C m ps j sp)(hr:Room k X.A)(he:PE X o ta)(c:Cls X.K C)(ha:PA X (e::es) t)(hk:j<=k:=by decide)
  (hst:starEach (e::es) X.env=(false,eval e X.env)::starEach es X.env:=by rfl) (hpl:(backTo pos (starEach es X.env)).any (·.1)=false:=by rfl)
  (ht:eval (.Call (.Attribute o m apos) (e::es) [] pos) X.env=(do
   let ov <- eval o X.env
   standAt apos.atName
   let (f,first) <- holding [ov] (getMethod ov m pl)
   callWith pos f first (backTo pos (starEach (e::es) X.env)) (backToKw pos (keywordEach [] X.env))):=by rfl):PE X (.Call (.Attribute o m apos) (e::es) [] pos) (Zkp C m sp [] E0 ta t):=by
 obtain⟨f,fd,F,b,hm⟩:=G.ex;exact Zk9 (pl:=pl) he c hm (F.room hk) hr b .nil Zjy ha hst hpl ht
theorem Zdf{pl:Sem Bool}(G:HasM X.prog X.w X.K X.mg X.base C m ps j sp)(hr:Room k X.A)(he:PE X o ta)(c:Cls X.K C)(hk:j<=k:=by decide)
  (ht:eval (.Call (.Attribute o m apos) [] [] pos) X.env=(do
   let ov <- eval o X.env
   standAt apos.atName
   let (f,first) <- holding [ov] (getMethod ov m pl)
   callWith pos f first (backTo pos (starEach [] X.env)) (backToKw pos (keywordEach [] X.env))):=by rfl):PE X (.Call (.Attribute o m apos) [] [] pos) (Zkp C m sp [] E0 ta ZmE):=by
 obtain⟨f,fd,F,b,hm⟩:=G.ex;exact ZjQ (pl:=pl) he c hm (F.room hk) hr b .nil Zjy ht
end
section
variable{X:Cx}
def ZmH(K:PySem.W.Frag):R2:=fun x y H Q=>∃l b xs zs,x=.ref l/\y=.ref b/\H l=some (.tup xs)/\H b=some (.tup zs)/\xs.length+zs.length<=sizeLine/\∀p H',Zn H H'->H' p=some (.tup (xs++zs))->Q (.ref p) H'
theorem ZdC:OpR X (binaryOp .Add) (ZmH X.K):=by
 intro pins s σ H x y v u Q I rx ry h;obtain⟨l,b,xs,zs,rfl,rfl,hl,hb,hz,q⟩:=h;cases rx;cases ry;obtain⟨its,r,p1,z1⟩:=I.tuple (SqT.of hl);obtain⟨its2,r2,p2,z2⟩:=I.tuple (SqT.of hb);obtain⟨⟨c1,d1,t1,s1⟩,ho,hc,n,hd⟩:=p1;obtain⟨⟨c2,d2,t2,s2⟩,ho2,hc2,n2,hd2⟩:=p2;simp only at hc hd hc2 hd2;subst hc hd hc2 hd2;have k1:=r.length;have k2:=r2.length;by_cases e1:its=[]
 ·subst e1;cases r;refine concat_meets ⟨_,ho,rfl⟩ ⟨_,ho2,rfl⟩ noFill_tuple_add seq_tuple_add PySem.F.slot_tuple_add PySem.F.entry_tuple_add (PySem.F.args_tuple_add_2 _ _) (tuple_addW0 l b _ _ n n2 d1 d2 s1 s2 rfl) ⟨ho,ho2,?_⟩;exact⟨.ref b,H,I.tok _,rfl,q b H (Zn.refl H) hb⟩
 by_cases e2:its2=[]
 ·subst e2;cases r2;refine concat_meets ⟨_,ho,rfl⟩ ⟨_,ho2,rfl⟩ noFill_tuple_add seq_tuple_add PySem.F.slot_tuple_add PySem.F.entry_tuple_add (PySem.F.args_tuple_add_2 _ _) (tuple_addW1 l b _ _ n n2 d1 d2 s1 s2 (by simpa using e1) rfl) ⟨ho,ho2,?_⟩;exact⟨.ref l,H,I.tok _,rfl,q l H (Zn.refl H) (by rw[List.append_nil];exact hl)⟩
 ·refine concat_meets ⟨_,ho,rfl⟩ ⟨_,ho2,rfl⟩ noFill_tuple_add seq_tuple_add PySem.F.slot_tuple_add PySem.F.entry_tuple_add (PySem.F.args_tuple_add_2 _ _) (tuple_addW2 l b _ _ n n2 d1 d2 s1 s2 (by simpa using e1) (by simpa using e2) (by rw[List.size_toArray,List.size_toArray];lia)) ⟨ho,ho2,?_⟩;have ea:its.toArray++its2.toArray=(its++its2).toArray:=by simp
  rw[ea];have hf:H s.heap.objs.size=none:=I.hok.fresh (Nat.le_refl _);refine⟨.ref s.heap.objs.size,upd H s.heap.objs.size (.tup (xs++zs)),I.laid (t':=s.toks) (fun b u e=>Heap.get?_push_of_some _ e) (Nat.le_refl _) ?_,rfl,q _ _ (Zn.new hf) Zb⟩;exact⟨by rw[List.length_append];exact hz,its++its2,r.append r2,_,Heap.get?_push_size _ rfl,rfl,_,rfl⟩
end
end L2
namespace Fg
open PySem L2 FgM
theorem ZiO{K:PySem.W.Frag}{H:Hp}{a b:Addr}{xs ys:List Str}{n:Nat}{neg:Bool}{Q:VK}(hA:SqL K H a (xs.map V.str))(hB:SqL K H b (ys.map V.str))(o1:OkW xs)(o2:OkW ys)(hn:1<=n)
  (q:Q (.bl (if neg then !decide (xs=ys) else decide (xs=ys))) H):ZmX K n neg (.ref a) (.ref b) H Q:=by
 refine⟨.list (xs.map PyData.str),.list (ys.map PyData.str),.lst hA (ZgF xs),.lst hB (ZgF ys),Ze0 o1,Ze0 o2,?_,?_⟩
 ·show min (PyData.depthAll (xs.map PyData.str)+1) (PyData.depthAll (ys.map PyData.str)+1)<=n;rw[ZcF,ZcF];exact hn
 ·have e:PyData.eqv (.list (xs.map PyData.str)) (.list (ys.map PyData.str))=decide (xs=ys):=Zhv xs ys;rw[e];exact q
end Fg
namespace FgM
section
variable{A:Type}
def ZaK:Gr A->Gr A->Gr A
 | .nil,h=>h
 | .cons t w o,h=>.cons t w (ZaK o h)
theorem Zbu(sl:A):∀g h:Gr A,words sl (ZaK g h)=words sl g++words sl h
 | .nil,h=>rfl
 | .cons t w o,h=>by simp[ZaK,words,Zbu sl o h]
variable[DecidableEq A]
end
end FgM
namespace Fg
open PySem L2 FgM
theorem RepG.ZaK{H:Hp}:∀{xs ys:List V}{g h:Gr Str},RepG H xs g->RepG H ys h->RepG H (xs++ys) (ZaK g h)
 | _,_,_,_,.nil,k=>k
 | _,_,_,_,.cons a b c d,k=>.cons a b c (RepG.ZaK d k)
end Fg
namespace L2
open PySem PySem.Spec PyProof.Rows
theorem FnOk.none{P:Program}{w:World}{K:PySem.W.Frag}{mg:Str->Option Value}{base:Heap}{CX:CXT}{k:Nat}{f:Addr}{fd:FuncData}{ps:List Str}{sp:Sp}(h:∀vs H Q E,¬ sp vs H Q E):FnOk P w K mg base CX k f fd ps sp :=
 ⟨fun vs H Q E z=>absurd z (h vs H Q E),fun A outer s H args us vs Q E hr e0 hb r z=>absurd z (h vs H Q E)⟩
theorem lookup_mem{β : Type}{x:Str}{c : β}:∀{l:List (Str × β)},l.lookup x=some c->(x,c)∈l
 | [],h=>by cases h
 | (y,d)::l,h=>by
  rw[List.lookup_cons] at h;cases e:x == y with
  | true =>
   rw[e] at h;cases h;rw[beq_iff_eq.mp e];exact List.mem_cons_self ..
  | false =>
   rw[e] at h;exact List.mem_cons_of_mem _ (lookup_mem h)
theorem ZjE{env:Env}{cl:List (Str×Addr)}(h:∀p∈cl,env.cells.lookup p.1=some p.2):∀x c,cl.lookup x=some c->env.cells.lookup x=some c:=fun x c e=>h (x,c) (lookup_mem e)
theorem ZgG{scope:Scope}{env:Env}{cl:List (Str×Addr)}(h:∀y∈scope.names,(y.2=.cell\/y.2=.free)->∃c,cl.lookup y.1=some c):∀(C:Addr)(x:Str),((compEnvC scope cl C env).kindOf x=some .cell\/(compEnvC scope cl C env).kindOf x=some .free)->∃c,cl.lookup x=some c:=by
 have key:∀(k:NameKind)(x:Str),(k=.cell\/k=.free)->(scope.names.map fun(n,k)=>if(k ==.free&&env.scope.kind ==.function&&env.kindOf n == some .cell) then(n,.cell) else(n,k)).lookup x=some k->∃c,cl.lookup x=some c:=by
  intro k x hk e;obtain⟨⟨n,k0⟩,hy,he⟩:=List.mem_map.mp (lookup_mem e);by_cases hc:(k0 ==.free&&env.scope.kind ==.function&&env.kindOf n == some .cell)=true
  ·simp only[hc,if_true] at he;have h0:k0=.free:=by
    simp only[Bool.and_eq_true] at hc;have:=hc.1.1;cases k0 <;> first|rfl|exact absurd this (by decide)
   injection he with e1 e2;subst e1;exact h _ hy (.inr h0)
  ·simp only[hc] at he;injection he with e1 e2;subst e1 e2;exact h _ hy hk
 intro C x hx;rcases hx with e|e
 ·exact key _ x (.inl rfl) e
 ·exact key _ x (.inr rfl) e
theorem ZgB{X:Cx}{K:PySem.W.Frag}(h:X.K=K):IxR X (Znj K):=by
 subst h;exact Z3
def ZZ:Stmt->List Stmt
 | .For _ _ b _ _=>b
 | .While _ b _ _=>b
 | .If _ b _ _=>b
 | _=>[]
def Zdb:Stmt->List Stmt
 | .If _ _ b _=>b
 | _=>[]
theorem Zu{X:Cx}{b:List Stmt}{D:Ends}{σ : St}{H:Hp}(s:List Stmt){t:TS}(h:PSs X s t)(k:∀u,PSs X s u->u=t->∃t,PSs X b t/\t D σ H):∃t,PSs X b t/\t D σ H:=k t h rfl
theorem Zw{u t:TS}(e:u=t){D:Ends}{σ : St}{H:Hp}(h:t D σ H):u D σ H:=e ▸ h
theorem ZgV{α : Type}:∀{us:List α},us.length=1->∃a,us=[a]
 | [a],_=>⟨a,rfl⟩
theorem ZmS{α : Type}{n:Nat}:∀{us:List α},us.length=n+1->∃a vs,us=a::vs/\vs.length=n
 | a::vs,h=>⟨a,vs,rfl,Nat.succ.inj h⟩
theorem ZkB{α : Type}{us:List α}(h:us.length=2):∃a b,us=[a,b]:=by
 obtain⟨a,vs,rfl,h2⟩:=ZmS h;obtain⟨b,rfl⟩:=ZgV h2;exact⟨a,b,rfl⟩
theorem Zhs{α : Type}{us:List α}(h:us.length=3):∃a b c,us=[a,b,c]:=by
 obtain⟨a,vs,rfl,h2⟩:=ZmS h;obtain⟨b,c,rfl⟩:=ZkB h2;exact⟨a,b,c,rfl⟩
theorem Znl{α : Type}{us:List α}(h:us.length=4):∃a b c d,us=[a,b,c,d]:=by
 obtain⟨a,vs,rfl,h2⟩:=ZmS h;obtain⟨b,c,d,rfl⟩:=Zhs h2;exact⟨a,b,c,d,rfl⟩
theorem Vals.inv{v:V}{vs:List V}{us:List Value}(h:Vals (v::vs) us):∃u us',us=u::us'/\RelV v u/\Vals vs us':=by
 cases h with
 | cons r t=>exact⟨_,_,rfl,r,t⟩
theorem Vals.end_{us:List Value}(h:Vals [] us):us=[]:=by
 cases h;rfl
end L2
namespace L2
open PySem PySem.Spec PyProof.Rows PySem.W
variable{X:Cx}
end L2
namespace Srt
open PySem PyProof.Rows
def ZgK:Bool->Keyed->Array Keyed->Nat->Nat->Nat->StateT SortSt Sem (Option Nat):=sortPriv% PySem.Builtin.gallop
def Zj7:Array Keyed->Array Keyed->StateT SortSt Sem (Array Keyed):=sortPriv% PySem.Builtin.mergeLo
def Zkr:Array Keyed->Array Keyed->StateT SortSt Sem (Array Keyed):=sortPriv% PySem.Builtin.mergeHi
structure Like(st st':SortSt):Prop where
 arr:arrOf st'=arrOf st
 kind:kindOf st'=kindOf st
 fail:failedOf st'=failedOf st
 pend:pendingOf st'=pendingOf st
theorem Like.refl(st:SortSt):Like st st:=⟨rfl,rfl,rfl,rfl⟩
theorem Like.trans{a b c:SortSt}(x:Like a b)(y:Like b c):Like a c:=⟨y.arr.trans x.arr,y.kind.trans x.kind,y.fail.trans x.fail,y.pend.trans x.pend⟩
section
variable{prog:Program}{w:World}{A:Around}{E:Value->Shared->Prop}{s:Shared}{κ : SortKind}{Ok:Keyed->Prop}{st:SortSt}
theorem ZG{arr:Array Keyed}{i:Nat}{Q:Keyed->SortSt->Prop}(hi:i<arr.size)(h:∀p,p∈arr.toList->arr[i]?= some p->Q p st):wpS (model prog w) A E s (elem' arr i) Q st:=by
 have e:arr[i]?= some arr[i]:=getElem?_pos arr i hi;rw[elem'_eq,e];exact wpS_pure (h _ (by simp) e)
end
def Out(a b:Array Keyed)(out:Array Keyed)(ia ib:Nat):Prop:=out.toList.Perm (a.toList.take ia++b.toList.take ib)
section
variable{a b out:Array Keyed}{ia ib:Nat}
theorem ZmB{α : Type}(x y z w:List α):(x++y++(z++w)).Perm (x++z++(y++w)):=by
 rw[List.append_assoc,List.append_assoc];refine List.Perm.append_left x ?_;rw[<- List.append_assoc,<- List.append_assoc];exact List.Perm.append_right w List.perm_append_comm
theorem Out.done(h:Out a b out ia ib):(out++a.extract ia a.size++b.extract ib b.size).toList.Perm (a.toList++b.toList):=by
 rw[Array.toList_append,Array.toList_append,Array.toList_extract,Array.toList_extract];have e1:a.toList.extract ia a.size=a.toList.drop ia:=by rw[List.extract_eq_drop_take];apply List.take_of_length_le;rw[List.length_drop,Array.length_toList];exact Nat.le_refl _
 have e2:b.toList.extract ib b.size=b.toList.drop ib:=by rw[List.extract_eq_drop_take];apply List.take_of_length_le;rw[List.length_drop,Array.length_toList];exact Nat.le_refl _
 rw[e1,e2,List.append_assoc];refine(List.Perm.append_right _ h).trans ((ZmB ..).trans ?_);rw[List.take_append_drop,List.take_append_drop]
theorem Out.last(h:Out a b out ia ib):(out++b.extract ib b.size++a.extract ia a.size).toList.Perm (a.toList++b.toList):=by
 refine List.Perm.trans ?_ h.done;rw[Array.toList_append,Array.toList_append,Array.toList_append,Array.toList_append,List.append_assoc,List.append_assoc];exact List.Perm.append_left _ List.perm_append_comm
theorem Out.extA{k:Nat}(h:Out a b out ia ib)(hk:ia+k<=a.size):Out a b (out++a.extract ia (ia+k)) (ia+k) ib:=by
 unfold Out;rw[Array.toList_append,Array.toList_extract,List.extract_eq_drop_take];have e:a.toList.take (ia+k)=a.toList.take ia++(a.toList.drop ia).take k:=List.take_add ..;rw[e,show ia+k-ia=k by lia];refine(List.Perm.append_right _ h).trans ?_;rw[List.append_assoc,List.append_assoc];exact List.Perm.append_left _ List.perm_append_comm
theorem Out.extB{k:Nat}(h:Out a b out ia ib)(hk:ib+k<=b.size):Out a b (out++b.extract ib (ib+k)) ia (ib+k):=by
 unfold Out;rw[Array.toList_append,Array.toList_extract,List.extract_eq_drop_take];have e:b.toList.take (ib+k)=b.toList.take ib++(b.toList.drop ib).take k:=List.take_add ..;rw[e,show ib+k-ib=k by lia];refine(List.Perm.append_right _ h).trans ?_;rw[List.append_assoc]
theorem Ze9{α : Type}{xs:List α}{i:Nat}{p : α}(h:xs[i]?= some p):xs.take (i+1)=xs.take i ++ [p]:=by
 obtain⟨hi,e⟩:=List.getElem?_eq_some_iff.mp h;rw[List.take_succ_eq_append_getElem hi,e]
theorem Out.pushA{p:Keyed}(h:Out a b out ia ib)(hp:a[ia]?= some p):Out a b (out.push p) (ia+1) ib:=by
 have hp':a.toList[ia]?= some p:=by rw[<- hp];simp
 unfold Out;rw[Array.toList_push,Ze9 hp'];refine(List.Perm.append_right _ h).trans ?_;rw[List.append_assoc,List.append_assoc];exact List.Perm.append_left _ List.perm_append_comm
theorem Out.pushB{p:Keyed}(h:Out a b out ia ib)(hp:b[ib]?= some p):Out a b (out.push p) ia (ib+1):=by
 have hp':b.toList[ib]?= some p:=by rw[<- hp];simp
 unfold Out;rw[Array.toList_push,Ze9 hp'];refine(List.Perm.append_right _ h).trans ?_;rw[List.append_assoc]
theorem Zny{p:Keyed}(hp:b[0]?= some p):Out a b #[p] 0 1:=by
 have h0:Out a b #[] 0 0:=by
  unfold Out;rw[List.take_zero,List.take_zero];exact List.Perm.refl _
 exact h0.pushB hp
end
section
variable{prog:Program}{w:World}{A:Around}{E:Value->Shared->Prop}{s:Shared}{κ : SortKind}{Ok:Keyed->Prop}{st:SortSt}
theorem ZaY(st:SortSt)(g:Nat):Like st (SortSt.mk' (kindOf st) (arrOf st) (pendingOf st) g (failedOf st)):=⟨rfl,rfl,rfl,rfl⟩
end
def Zdk(a b:Array Keyed)(out:Array Keyed)(na nb:Nat):Prop:=out.toList.Perm (a.toList.drop na++b.toList.drop nb)
section
variable{a b out:Array Keyed}{na nb:Nat}
theorem ex0(a:Array Keyed)(n:Nat):(a.extract 0 n).toList=a.toList.take n:=by
 rw[Array.toList_extract,List.extract_eq_drop_take,List.drop_zero,Nat.sub_zero]
theorem Zdk.done(h:Zdk a b out na nb):(a.extract 0 na++b.extract 0 nb++out.reverse).toList.Perm (a.toList++b.toList):=by
 rw[Array.toList_append,Array.toList_append,ex0,ex0,Array.toList_reverse];refine(List.Perm.append_left _ ((List.reverse_perm _).trans h)).trans ((ZmB ..).trans ?_);rw[List.take_append_drop,List.take_append_drop]
theorem Zdk.first(h:Zdk a b out na nb):(b.extract 0 nb++a.extract 0 na++out.reverse).toList.Perm (a.toList++b.toList):=by
 refine List.Perm.trans ?_ h.done;rw[Array.toList_append,Array.toList_append,Array.toList_append,Array.toList_append];exact List.Perm.append_right _ List.perm_append_comm
theorem Zhm{α : Type}{xs:List α}{i:Nat}{p : α}(h:xs[i]?= some p):xs.drop i=p::xs.drop (i+1):=by
 obtain⟨hi,e⟩:=List.getElem?_eq_some_iff.mp h;rw[<- e];exact List.drop_eq_getElem_cons hi
theorem Zdk.pushA{p:Keyed}(h:Zdk a b out na nb)(h1:1<=na)(hp:a[na-1]?= some p):Zdk a b (out.push p) (na-1) nb:=by
 have hp':a.toList[na-1]?= some p:=by rw[<- hp];simp
 unfold Zdk;rw[Array.toList_push,Zhm hp',Nat.sub_add_cancel h1];refine(List.Perm.append_right _ h).trans ?_;exact List.perm_append_comm
theorem Zdk.pushB{p:Keyed}(h:Zdk a b out na nb)(h1:1<=nb)(hp:b[nb-1]?= some p):Zdk a b (out.push p) na (nb-1):=by
 have hp':b.toList[nb-1]?= some p:=by rw[<- hp];simp
 unfold Zdk;rw[Array.toList_push,Zhm hp',Nat.sub_add_cancel h1];refine(List.Perm.append_right _ h).trans ?_;rw[List.append_assoc];refine List.Perm.append_left _ ?_;exact List.perm_append_comm
theorem Zg0{α : Type}(xs:List α){i j:Nat}(h:i<=j):xs.drop i=(xs.drop i).take (j-i)++xs.drop j:=by
 have:=List.take_append_drop (j-i) (xs.drop i);rw[List.drop_drop,Nat.add_sub_cancel' h] at this;exact this.symm
theorem Zdk.extA{k:Nat}(h:Zdk a b out na nb)(hk:k<=na):Zdk a b (out++(a.extract k na).reverse) k nb:=by
 unfold Zdk;rw[Array.toList_append,Array.toList_reverse,Array.toList_extract,List.extract_eq_drop_take];refine(List.Perm.append h (List.reverse_perm _)).trans ?_;refine List.perm_append_comm.trans ?_;rw[<- List.append_assoc,<- Zg0 a.toList hk]
theorem Zdk.extB{k:Nat}(h:Zdk a b out na nb)(hk:k<=nb):Zdk a b (out++(b.extract k nb).reverse) na k:=by
 unfold Zdk;rw[Array.toList_append,Array.toList_reverse,Array.toList_extract,List.extract_eq_drop_take];refine(List.Perm.append h (List.reverse_perm _)).trans ?_;rw[List.append_assoc];refine List.Perm.append_left _ (List.perm_append_comm.trans ?_);rw[<- Zg0 b.toList hk]
theorem ZmT{p:Keyed}(h1:1<=a.size)(hp:a[a.size-1]?= some p):Zdk a b #[p] (a.size-1) b.size:=by
 have h0:Zdk a b #[] a.size b.size:=by
  unfold Zdk;rw[List.drop_eq_nil_of_le (by rw[Array.length_toList];exact Nat.le_refl _),List.drop_eq_nil_of_le (by rw[Array.length_toList];exact Nat.le_refl _)];exact List.Perm.refl _
 exact h0.pushA h1 hp
end
structure Pm(st st':SortSt):Prop where
 arr:(arrOf st').toList.Perm (arrOf st).toList
 kind:kindOf st'=kindOf st
 fail:failedOf st'=failedOf st
 pend:pendingOf st'=pendingOf st
theorem Pm.refl(st:SortSt):Pm st st:=⟨List.Perm.refl _,rfl,rfl,rfl⟩
theorem Pm.trans{a b c:SortSt}(x:Pm a b)(y:Pm b c):Pm a c:=⟨y.arr.trans x.arr,y.kind.trans x.kind,y.fail.trans x.fail,y.pend.trans x.pend⟩
theorem Pm.size{a b:SortSt}(x:Pm a b):(arrOf b).size=(arrOf a).size:=by
 have:=x.arr.length_eq;rw[Array.length_toList,Array.length_toList] at this;exact this
theorem Pm.ok{a b:SortSt}{Ok:Keyed->Prop}(x:Pm a b)(h:∀p∈(arrOf a).toList,Ok p):∀p∈(arrOf b).toList,Ok p:=fun p hp=>h p (x.arr.mem_iff.mp hp)
theorem Pm.mirror(st:SortSt)(i j:Nat):Pm st (setArr st (mirror (arrOf st) i j ((j-i) / 2))):=⟨Array.perm_iff_toList_perm.mp (mirror_perm _ _ _ _),rfl,rfl,rfl⟩
theorem Pm.bubble(st:SortSt)(i j:Nat):Pm st (setArr st (bubble (arrOf st) i (i-j))):=⟨Array.perm_iff_toList_perm.mp (bubble_perm _ _ _),rfl,rfl,rfl⟩
def Cov:List (Nat×Nat×Nat)->Nat->Nat->Prop
 | [],lo,hi=>lo=hi
 | x::r,lo,hi=>x.1=lo/\1<=x.2.1/\Cov r (lo+x.2.1) hi
theorem Cov.le:∀{l:List (Nat×Nat×Nat)}{lo hi:Nat},Cov l lo hi->lo+l.length<=hi
 | [],lo,hi,h=>Nat.le_of_eq h
 | x::r,lo,hi,⟨_,h1,h2⟩=>by
  have:=Cov.le h2;rw[List.length_cons];lia
theorem Cov.push:∀{l:List (Nat×Nat×Nat)}{lo hi n p:Nat},Cov l lo hi->1<=n->Cov (l ++ [(hi,n,p)]) lo (hi+n)
 | [],lo,hi,n,p,h,h1=>by
  have e:lo=hi:=h;subst e;exact⟨rfl,h1,rfl⟩
 | x::r,lo,hi,n,p,⟨a,b,c⟩,h1=>⟨a,b,c.push h1⟩
theorem Cov.at:∀{l:List (Nat×Nat×Nat)}{i lo hi sa na p sb nb q:Nat},Cov l lo hi->l[i]?= some (sa,na,p)->l[i+1]?= some (sb,nb,q) ->
  sb=sa+na/\1<=na/\1<=nb/\sb+nb<=hi/\Cov ((l.set i (sa,na+nb,p)).eraseIdx (i+1)) lo hi
 | x::y::r,0,lo,hi,sa,na,p,sb,nb,q,⟨a,b,c1,c2,c3⟩,h1,h2=>by
  have e1:x=(sa,na,p):=by simpa using h1
  have e2:y=(sb,nb,q):=by simpa using h2
  subst e1;subst e2;have a':sa=lo:=a;have c1':sb=lo+na:=c1;have hle:=c3.le;subst a';refine⟨c1',b,c2,?_,rfl,?_,?_⟩
  ·have:sa+na+nb<=hi:=by
    have h3:sa+na+nb+r.length<=hi:=hle;lia
   lia
  ·show 1<=na+nb;have:1<=na:=b;lia
  ·show Cov r (sa+(na+nb)) hi;rw[<- Nat.add_assoc];exact c3
 | x::r,i+1,lo,hi,sa,na,p,sb,nb,q,⟨a,b,c⟩,h1,h2=>by
  obtain⟨k1,k2,k3,k4,k5⟩:=Cov.at (l:=r) (i:=i) c (by simpa using h1) (by simpa using h2);exact⟨k1,k2,k3,k4,a,b,k5⟩
 | [x],0,_,_,_,_,_,_,_,_,_,_,h2=>by simp at h2
 | [],_,_,_,_,_,_,_,_,_,_,h1,_=>by simp at h1
theorem Cov.last:∀{l:List (Nat×Nat×Nat)}{lo hi:Nat}(f:Nat×Nat×Nat->Nat×Nat×Nat)(_:∀x,(f x).1=x.1/\(f x).2.1=x.2.1)(i:Nat),Cov l lo hi->Cov (l.modify i f) lo hi
 | [],lo,hi,f,hf,i,h=>by cases i <;> exact h
 | x::r,lo,hi,f,hf,0,⟨a,b,c⟩=>by
  refine⟨(hf x).1.trans a,by rw[(hf x).2];exact b,?_⟩;rw[(hf x).2];exact c
 | x::r,lo,hi,f,hf,i+1,⟨a,b,c⟩=>⟨a,b,Cov.last f hf i c⟩
theorem splice(base:Nat):∀(m:List Keyed)(n:Nat)(arr:Array Keyed),base+n+m.length<=arr.size ->
  ((m.zipIdx n).foldl (fun(a:Array Keyed)(x:Keyed×Nat)=>match x with|(p,j)=>a.setIfInBounds (base+j) p) arr).toList=arr.toList.take (base+n)++m++arr.toList.drop (base+n+m.length)
 | [],n,arr,_=>by
  show arr.toList=_;rw[List.append_nil,List.length_nil,Nat.add_zero,List.take_append_drop]
 | p::m,n,arr,h=>by
  rw[List.length_cons] at h;rw[List.zipIdx_cons,List.foldl_cons];have hs:(arr.setIfInBounds (base+n) p).size=arr.size:=Array.size_setIfInBounds;rw[splice base m (n+1) _ (by rw[hs];lia),Array.toList_setIfInBounds];have hl:base+n<arr.toList.length:=by rw[Array.length_toList];lia
  rw[<- Nat.add_assoc,List.take_set,List.drop_set_of_lt (by lia)];have e1:(arr.toList.take (base+n+1)).set (base+n) p=arr.toList.take (base+n) ++ [p]:=by
   rw[List.take_succ_eq_append_getElem hl,List.set_append_right _ _ (by rw[List.length_take];lia)];rw[show base+n-(arr.toList.take (base+n)).length=0 by rw[List.length_take];lia];rfl
  rw[e1,List.length_cons,show base+n+1+m.length=base+n+(m.length+1) by lia];simp
section
variable{prog:Program}{w:World}{A:Around}{E:Value->Shared->Prop}{s:Shared}{κ : SortKind}{Ok:Keyed->Prop}{st:SortSt}
structure SB(a₀ : Array Keyed)(κ : SortKind)(hi:Nat)(st:SortSt):Prop where
 arr:(arrOf st).toList.Perm a₀.toList
 kind:kindOf st= κ
 fail:failedOf st=none
 cov:Cov (pendingOf st).toList 0 hi
theorem SB.size{a₀ : Array Keyed}{hi:Nat}(x:SB a₀ κ hi st):(arrOf st).size=a₀.size:=by
 have:=x.arr.length_eq;rw[Array.length_toList,Array.length_toList] at this;exact this
theorem SB.ok{a₀ : Array Keyed}{hi:Nat}(x:SB a₀ κ hi st)(h:∀p∈a₀.toList,Ok p):∀p∈(arrOf st).toList,Ok p:=fun p hp=>h p (x.arr.mem_iff.mp hp)
theorem SB.pm{a₀ : Array Keyed}{hi:Nat}{st':SortSt}(x:SB a₀ κ hi st)(p:Pm st st'):SB a₀ κ hi st':=⟨p.arr.trans x.arr,p.kind.trans x.kind,p.fail.trans x.fail,by rw[p.pend];exact x.cov⟩
theorem ZlC{v:SortSt}{Q:PUnit->SortSt->Prop}(h:Q ⟨⟩ v):wpS (model prog w) A E s (set v:StateT SortSt Sem PUnit) Q st:=by
 unfold wpS;rw[StateT.run_set];exact wpAny_pure ⟨rfl,h⟩
theorem Ziz(base:Nat)(m:List Keyed)(arr:Array Keyed)(h:base+m.length<=arr.size) :
  (m.zipIdx.foldl (fun(a:Array Keyed)(x:Keyed×Nat)=>a.setIfInBounds (base+x.2) x.1) arr).toList=arr.toList.take base++m++arr.toList.drop (base+m.length):=splice base m 0 arr h
theorem ZkG(L:List Keyed){m b e:Nat}(h1:m<=b)(h2:b<=e):L.extract m b++L.extract b e=(L.drop m).take (e-m):=by
 rw[List.extract_eq_drop_take,List.extract_eq_drop_take,show e-m=(b-m)+(e-b) by lia,List.take_add,List.drop_drop,Nat.add_sub_cancel' h1]
theorem Zhp{L r:List Keyed}{m c:Nat}(h:r.Perm ((L.drop m).take c))(hc:r.length=c):(L.take m++r++L.drop (m+r.length)).Perm L:=by
 subst hc;have e:L=L.take m++(L.drop m).take r.length++L.drop (m+r.length):=by
  rw[List.append_assoc,<- List.drop_drop,List.take_append_drop,List.take_append_drop]
 refine List.Perm.trans ?_ (List.Perm.of_eq e.symm);exact List.Perm.append_right _ (List.Perm.append_left _ h)
end
section
variable{prog:Program}{w:World}{A:Around}{E:Value->Shared->Prop}{s:Shared}
theorem ZfD{vs:List Value}{xs:Array Keyed}(h:xs.toList.Perm (pairsOf vs).toList):(xs.map (·.2)).toList.Perm vs:=by
 rw[Array.toList_map];refine(h.map (·.2)).trans (List.Perm.of_eq ?_);rw[pairsOf_toList,show(fun p:Keyed=>p.2)=Prod.snd from rfl,List.map_snd_zip (Nat.le_refl _)]
end
end Srt
namespace L2
open PySem PySem.Spec PyProof.Rows
theorem Zdr:∀{vs:List V}{us:List Value},Vals vs us->∀u∈us,∃v∈vs,RelV v u
 | _,_,.cons a t,u,hu=>by
  rcases List.mem_cons.mp hu with rfl|hu
  ·exact⟨_,List.mem_cons_self ..,a⟩
  ·obtain⟨v,hv,r⟩:=Zdr t u hu;exact⟨v,List.mem_cons_of_mem _ hv,r⟩
end L2
namespace L2
open PySem PySem.Spec PyProof.Rows PySem.W
def Zie(h:Heap)(d:Addr)(es:Array DictEntry)(ep:Nat):Prop := ∃o,h.get? d=some o/\o.ExactDict/\o.data=.dict es ep
theorem Zie.tyIs{s:Shared}{d:Addr}{es:Array DictEntry}{ep:Nat}(x:Zie s.heap d es ep):s.TypeIs (.ref d) "dict" := let ⟨o,ho,hc,_⟩:=x;⟨o,ho,hc.1⟩
theorem Zie.to{h h':Heap}{d:Addr}{es:Array DictEntry}{ep:Nat}(x:Zie h d es ep)(e:∀o,h.get? d=some o->h'.get? d=some o):Zie h' d es ep:=let ⟨o,ho,r⟩:=x;⟨o,e _ ho,r⟩
section
variable{prog:Program}{w:World}{A:Around}{E:Value->Shared->Prop}{s:Shared}{it d:Addr}{es:Array DictEntry}{i ep:Nat}
theorem ZjW{Q:Value->Shared->Prop}(lo:(d == sysModules)=false)(x:Zie s.heap d es ep)
  (q:Q (.ref s.heap.objs.size) { s with heap:=s.heap.push { cls:=.type "dict_keyiterator",data:=.fields #[.ref d,.int 0 0,.int es.size 0,.int ep 0] } }):wpAny (model prog w) A (pyIter (.ref d)) Q E s:=by
 obtain⟨o,ho,hx,hdat⟩:=id x;have hT:=x.tyIs;refine wpAny_pyIter_slot hT PySem.F.slot_dict_iter (wpAny_call_entry PySem.F.slot_dict_iter hT PySem.F.entry_dict_iter ?_ (PySem.F.args_dict_iter_1 _));unfold Builtin.«dict.__iter__»;refine wpAny_bind ?_;unfold Builtin.Dict.dictSlotNone;refine wpAny_bind (wpAny_notOrdered_dict hT ?_);refine wpAny_pure (?_:wpAny _ _ (Builtin.Dict.showsAll d >>= _) _ _ s);unfold Builtin.Dict.showsAll;rw[if_neg (by rw[lo];exact Bool.false_ne_true)];refine wpAny_bind (wpAny_pure (wpAny_bind (wpAny_dictEntries ho hdat (wpAny_bind (wpAny_dictEpoch ho hdat ?_)))));exact wpAny_bind (wpAny_newObj_type (wpAny_pure ⟨_,rfl,"dict_keyiterator",_,⟨_,Heap.get?_push_size _ rfl,rfl⟩,PySem.F.slot_dict_keyiterator_next.lookup,q⟩))
theorem ZjU{Q:Option Value->Shared->Prop}(st:s.heap.IsKeyIter it d i es.size ep)(x:Zie s.heap d es ep)(hi:i<es.size)
  (q:∀h',h'.IsKeyIter it d (i+1) es.size ep->Heap.SameBut it s.heap h'->Q (some es[i].key) { s with heap:=h' }):wpAny (model prog w) A (pyNext (.ref it)) Q E s:=by
 obtain⟨o,ho,hc,hd⟩:=id st;obtain⟨od,hod,hxd,hdd⟩:=id x;unfold pyNext;refine wpAny_bind (wpAny_attempt (wpAny_callSpecial?_slot (name:=Str.ofString "__next__") st.typeIs PySem.F.slot_dict_keyiterator_next (wpAny_call_entry PySem.F.slot_dict_keyiterator_next st.typeIs PySem.F.entry_dict_keyiterator_next ?_ (PySem.F.args_dict_keyiterator_next_1 _))));refine wpAny_bind (wpAny_pure (wpAny_bind (wpAny_bind ?_)))
 first|refine wpAny_bind (wpAny_typeNameOfWhole_keyiter st.typeIs (wpAny_pure (wpAny_bind (wpAny_fieldsOf ho hd ?_))))|refine wpAny_bind (wpAny_typeNameOf_keyiter st.typeIs (wpAny_pure (wpAny_bind (wpAny_fieldsOf ho hd ?_))))
 have own:Builtin.Dict_items.ownsTuple "dict_keyiterator" = false:=by decide
 simp only[own,Bool.false_eq_true,if_false];change wpAny _ _ (if(Value.ref d == Value.none)=true then _ else _) _ _ s
 rw[if_neg (fun z:(Value.ref d == Value.none)=true=>Bool.false_ne_true z)];refine wpAny_bind (wpAny_pure (wpAny_bind (wpAny_dictEntries hod hdd ?_)));rw[if_neg (by simp)];refine wpAny_bind (wpAny_pure (wpAny_bind (wpAny_dictEpoch hod hdd ?_)));rw[if_neg (by simp)];refine wpAny_pure ?_;simp only[show ¬ ((i:Int)<0) by lia,if_false,Int.toNat_natCast,Array.getElem?_eq_getElem hi];refine wpAny_bind ?_;first|refine wpAny_bind (wpAny_typeNameOfWhole_keyiter st.typeIs (wpAny_pure (wpAny_bind (wpAny_isOneOf_keyiter st.typeIs ?_))))|refine wpAny_bind (wpAny_typeNameOf_keyiter st.typeIs (wpAny_pure (wpAny_bind (wpAny_isOneOf_keyiter st.typeIs ?_))))
 change wpAny _ _ (setField (.ref it) 1 (rawInt ((i:Int)+1)) >>= _) _ _ s;refine wpAny_bind (wpAny_setField ho hd (by simp) ?_);have st2:(s.heap.update it (Obj.mapFields (·.setIfInBounds 1 (rawInt ((i:Int)+1))))).IsKeyIter it d (i+1) es.size ep:=⟨_,Heap.get?_update_self _ ho (Obj.isFreed_of_fields (Obj.data_mapFields hd _)),(Obj.cls_mapFields ..).trans hc,by rw[Obj.data_mapFields hd];simp[rawInt]⟩;refine wpAny_bind (wpAny_holding (wpAny_bind (wpAny_isOneOf_keyiter (s:={ s with heap:=s.heap.update it (Obj.mapFields (·.setIfInBounds 1 (rawInt ((i:Int)+1)))) }) st2.typeIs ?_)));change wpAny _ _ (pure es[i].key) _ _ _;exact wpAny_pure (wpAny_pure ⟨_,rfl,wpAny_pure (q _ st2 (Heap.SameBut.update ..))⟩)
theorem Zlm{Q:Option Value->Shared->Prop}(hh:A.handled=none)(st:s.heap.IsKeyIter it d i es.size ep)(x:Zie s.heap d es ep)(hi:es.size<=i)
  (q:∀h',Heap.ExtBut it s.heap h'->Q none { s with heap:=h' }):wpAny (model prog w) A (pyNext (.ref it)) Q E s:=by
 obtain⟨o,ho,hc,hd⟩:=id st;obtain⟨od,hod,hxd,hdd⟩:=id x;unfold pyNext;refine wpAny_bind (wpAny_attempt (wpAny_callSpecial?_slot (name:=Str.ofString "__next__") st.typeIs PySem.F.slot_dict_keyiterator_next (wpAny_call_entry PySem.F.slot_dict_keyiterator_next st.typeIs PySem.F.entry_dict_keyiterator_next ?_ (PySem.F.args_dict_keyiterator_next_1 _))));refine wpAny_bind (wpAny_pure (wpAny_bind (wpAny_bind ?_)))
 first|refine wpAny_bind (wpAny_typeNameOfWhole_keyiter st.typeIs (wpAny_pure (wpAny_bind (wpAny_fieldsOf ho hd ?_))))|refine wpAny_bind (wpAny_typeNameOf_keyiter st.typeIs (wpAny_pure (wpAny_bind (wpAny_fieldsOf ho hd ?_))))
 have own:Builtin.Dict_items.ownsTuple "dict_keyiterator" = false:=by decide
 simp only[own,Bool.false_eq_true,if_false];change wpAny _ _ (if(Value.ref d == Value.none)=true then _ else _) _ _ s
 rw[if_neg (fun z:(Value.ref d == Value.none)=true=>Bool.false_ne_true z)];refine wpAny_bind (wpAny_pure (wpAny_bind (wpAny_dictEntries hod hdd ?_)));rw[if_neg (by simp)];refine wpAny_bind (wpAny_pure (wpAny_bind (wpAny_dictEpoch hod hdd ?_)));rw[if_neg (by simp)];refine wpAny_pure ?_;simp only[show ¬ ((i:Int)<0) by lia,if_false,Int.toNat_natCast,Array.getElem?_eq_none hi];refine wpAny_bind ?_;first|refine wpAny_bind (wpAny_typeNameOfWhole_keyiter st.typeIs (wpAny_pure ?_))|refine wpAny_bind (wpAny_typeNameOf_keyiter st.typeIs (wpAny_pure ?_))
 change wpAny _ _ (setField (.ref it) 0 .none >>= _) _ _ s;refine wpAny_bind (wpAny_setField ho hd (by simp) ?_);change wpAny _ _ (newExc (.type "StopIteration") [] >>= _) _ _ _;refine wpAny_bind ?_;simp only[newExc,newTuple];refine wpAny_bind (wpAny_newObj_type (wpAny_bind (m:=firstArgMember _ _) (wpAny_of_eq (a:=Value.none) (by first|rfl|(simp only[firstArgMember];rfl)) (wpAny_newObj_type ?_ (by size_fits)))) (by size_fits))
 simp only[raiseNew];refine wpAny_bind (wpAny_handled ?_);rw[show A.in1.handled=none from hh];refine wpAny_bind (wpAny_pure (wpAny_throw ?_));refine wpAny_bind (wpAny_isInstance (T := "StopIteration") (b:=true) (v:=.ref _) (by exact⟨_,Heap.get?_push_size _ rfl,rfl⟩) isSubtype_stop ?_);exact wpAny_pure (q _ (((Heap.SameBut.update ..).extBut.push _).push _))
theorem Zjg(hh:A.handled=none)(hne:d≠it):Walks prog w A it [it,d] [it] es.size (fun i v=>∃e,es[i]?= some e/\v=e.key) (fun i h=>h.IsKeyIter it d i es.size ep/\Zie h d es ep) where
 sub:=fun b hb=>List.mem_cons.mpr (.inl (List.mem_singleton.mp hb))
 frame:=fun _ _ _ st hk=>⟨st.1.at fun o e=>hk it (List.mem_cons_self ..) o e,st.2.to fun o e=>hk d (List.mem_cons_of_mem _ (List.mem_cons_self ..)) o e⟩
 item:=fun j s Q E hj st hQ=>ZjU st.1 st.2 hj fun h' st' sb=>hQ _ h' s.toks ⟨_,Array.getElem?_eq_getElem hj,rfl⟩ ⟨st',st.2.to fun o e=>sb.extBut d o hne e⟩ fun b o hb e=>sb.extBut b o (fun z=>hb (List.mem_singleton.mpr z)) e
 done:=fun s Q E st hQ=>Zlm hh st.1 st.2 (Nat.le_refl _) fun h' he=>hQ h' s.toks fun b o hb e=>he b o (fun z=>hb (List.mem_singleton.mpr z)) e
 self:=fun _ _ _ _ st hQ=>wpAny_pyIter_keyiter st.1 hQ
theorem ZiL(lo:(d == sysModules)=false):KdlSrc prog w "dict" d d es.size (fun i v=>∃e,es[i]?= some e/\v=e.key) (fun h=>Zie h d es ep) where
 type:=fun _ x=>x.tyIs
 there:=fun _ ⟨o,ho,_⟩=>⟨Heap.lt_size ho,Heap.lt_size ho⟩
 keep:=fun _ _ x hk=>x.to fun o e=>hk d (.inl rfl) o e
 notList:=by decide
 notTuple:=by decide
 hint:=fun _ _ _ _ x hq=>kdl_hint_dict x.tyIs hq
 iter:=fun _ _ hh x=>⟨_,_,(fun _ _ hq=>ZjW lo x hq),Zjg hh (let ⟨o,ho,_⟩:=x;Nat.ne_of_lt (Heap.lt_size ho)),⟨⟨_,Heap.get?_push_size _ rfl,rfl,rfl⟩,x.to fun _ e=>Heap.get?_push_of_some _ e⟩⟩
end
end L2
namespace Sts
open PySem PyProof.Rows PySem.W Srt
end Sts
namespace L2
open PySem PySem.Spec PyProof.Rows PySem.W
section
variable{X:Cx}{e:Expr}{te:TE}{p p' pos pos':Pos}
theorem Inv.draws{pins:List (Addr×Obj)}{σ : St}{H:Hp}{s:Shared}{d:Drawn}(I:Inv X pins σ H s):Inv X pins σ H { s with drawn:=d } :=
 I.step (g':=s.gens) (d':=d) (t':=s.toks) (ch:=[]) (fun _ z=>nomatch z) (fun _ _ _ _ _ e _=>e) (fun _ o _ _ _ e _=>⟨o.slots,e⟩) (fun _ _ _ _ n=>n) (fun _ o _ e=>⟨o,e⟩) (fun _ _ h=>h) (fun _ _ _ h=>h) (fun _ ps h=>⟨#[],by simpa using h⟩) (fun _ h=>h) I.hok I.bare
theorem Zh7:bootBuiltins "sorted" = some (.builtin "sorted"):=by decide +kernel
end
end L2
namespace Srd
open PySem PyProof.Rows Srt
structure Swo(lt:Keyed->Keyed->Bool):Prop where
 asym:∀x y,lt x y=true->lt y x=false
 neg:∀x y z,lt x y=false->lt y z=false->lt x z=false
def Le(lt:Keyed->Keyed->Bool)(x y:Keyed):Prop:=lt y x=false
section
variable{lt:Keyed->Keyed->Bool}(o:Swo lt){x y z:Keyed}
include o
theorem Swo.le_trans(h1:Le lt x y)(h2:Le lt y z):Le lt x z:=o.neg z y x h2 h1
theorem Swo.le_of(h:lt x y=true):Le lt x y:=o.asym x y h
theorem Swo.lt_le(h1:lt x y=true)(h2:Le lt y z):lt x z=true:=by
 cases h:lt x z with
 | true=>rfl
 | false=>rw[o.neg x z y h h2] at h1;cases h1
theorem Swo.le_lt(h1:Le lt x y)(h2:lt y z=true):lt x z=true:=by
 cases h:lt x z with
 | true=>rfl
 | false=>rw[o.neg y x z h1 h] at h2;cases h2
theorem Swo.le_refl(x:Keyed):Le lt x x:=by
 show lt x x=false;cases h:lt x x with
 | false=>rfl
 | true=>have:=o.asym x x h;rw[h] at this;exact this
end
def Zhy(prog:Program)(w:World)(A:Around)(s:Shared)(κ : SortKind)(Ok:Keyed->Prop)(lt:Keyed->Keyed->Bool):Prop :=
 ∀x y,Ok x->Ok y->∀E:Value->Shared->Prop,wpAny (model prog w) A (keyLt' κ x.1 y.1) (fun b s'=>s'=s/\b=lt x y) E s
def Up(lt:Keyed->Keyed->Bool)(arr:Array Keyed)(i j:Nat):Prop := ∀x y p q,i<=x->x<y->y<j->arr[x]?= some p->arr[y]?= some q->Le lt p q
def bv(lt:Keyed->Keyed->Bool)(l:Bool)(key p:Keyed):Bool:=if l=true then lt p key else !lt key p
def BV(lt:Keyed->Keyed->Bool)(l:Bool)(key:Keyed)(a:Array Keyed)(base i:Nat):Bool:=match a[base+i]? with|some p=>bv lt l key p|none=>false
theorem BV.anti{lt:Keyed->Keyed->Bool}(o:Swo lt){l:Bool}{key:Keyed}{a:Array Keyed}{base n:Nat}(hb:base+n<=a.size)(hu:Up lt a base (base+n)){i j:Nat}(hij:i<=j)(hj:j<n)(h:BV lt l key a base j=true):BV lt l key a base i=true:=by
 rcases Nat.eq_or_lt_of_le hij with rfl|hlt
 ·exact h
 have ei:a[base+i]?= some a[base+i]:=getElem?_pos a _ (by lia);have ej:a[base+j]?= some a[base+j]:=getElem?_pos a _ (by lia);have hle:=hu (base+i) (base+j) _ _ (by lia) (by lia) (by lia) ei ej;unfold BV at h ⊢;rw[ej] at h;rw[ei];dsimp only at h ⊢;unfold bv at h ⊢;cases l with
 | true =>
  rw[if_pos rfl] at h ⊢;exact o.le_lt hle h
 | false =>
  rw[if_neg (by decide)] at h ⊢;have h1:lt key a[base+j]=false:=by simpa using h
  have:lt key a[base+i]=false:=o.le_trans (lt:=lt) hle h1;rw[this];rfl
section
variable{prog:Program}{w:World}{A:Around}{E:Value->Shared->Prop}{s:Shared}{κ : SortKind}{Ok:Keyed->Prop}{st:SortSt}{lt:Keyed->Keyed->Bool}
theorem Zd6{x y:Keyed}{Q:Option Bool->SortSt->Prop}(hc:Zhy prog w A s κ Ok lt)(hk:kindOf st= κ)(hx:Ok x)(hy:Ok y)(h:Q (some (lt x y)) st):wpS (model prog w) A E s (lt' x y) Q st:=by
 rw[lt'_eq];refine wpS_bind (wpS_get ?_);rw[hk];refine wpS_bind (wpS_lift (wpAny_attempt (wpAny_mono (hc x y hx hy _) (fun b s' e=>⟨e.1,?_⟩) fun _ _ z=>z)));rw[e.2];exact wpS_pure h
theorem ZnU{l:Bool}{key:Keyed}{a:Array Keyed}{base n i:Nat}{Q:Option Bool->SortSt->Prop}(hc:Zhy prog w A s κ Ok lt)(hk:kindOf st= κ)(hkey:Ok key)(ha:∀p∈a.toList,Ok p)(hb:base+n<=a.size)(hi:i<n)(h:Q (some (BV lt l key a base i)) st) :
  wpS (model prog w) A E s (elem' a (base+i) >>= fun x=>if l=true then lt' x key else(lt' key x >>= fun r=>pure (Option.map (fun z=>!z) r))) Q st:=by
 refine wpS_bind (ZG (by lia) fun p hp e=>?_);unfold BV at h;rw[e] at h;dsimp only at h;unfold bv at h;cases l with
 | true =>
  rw[if_pos rfl] at h ⊢;exact Zd6 hc hk (ha p hp) hkey h
 | false =>
  rw[if_neg Bool.false_ne_true] at h ⊢;exact wpS_bind (Zd6 hc hk hkey (ha p hp) (wpS_pure h))
set_option maxHeartbeats 1000000 in
theorem Zax{l:Bool}{key:Keyed}{a:Array Keyed}{base n hint:Nat}{Q:Option Nat->SortSt->Prop}(o:Swo lt)(hc:Zhy prog w A s κ Ok lt)(hk:kindOf st= κ)(hkey:Ok key)(ha:∀p∈a.toList,Ok p)(hb:base+n<=a.size)(hh:hint<n)(hu:Up lt a base (base+n))
  (h:∀k,k<=n->(∀i,i<k->BV lt l key a base i=true)->(∀i,k<=i->i<n->BV lt l key a base i=false)->Q (some k) st):wpS (model prog w) A E s (ZgK l key a base n hint) Q st:=by
 have up:∀{i j},i<=j->j<n->BV lt l key a base j=true->BV lt l key a base i=true:=fun hij hj h=>BV.anti o hb hu hij hj h;have dn:∀{i j},i<=j->j<n->BV lt l key a base i=false->BV lt l key a base j=false:=fun{i j} hij hj h=>by
  cases e:BV lt l key a base j with
  | false=>rfl
  | true=>rw[up hij hj e] at h;cases h
 generalize hBB:BV lt l key a base=BB at up dn h;have bey:∀{st':SortSt}{i:Nat}{Q':Option Bool->SortSt->Prop},st'=st->i<n->Q' (some (BB i)) st'->wpS (model prog w) A E s (elem' a (base+i) >>= fun x=>if l=true then lt' x key else(lt' key x >>= fun r=>pure (Option.map (fun z=>!z) r))) Q' st':=fun{st' i Q'} e hi hq=>by
  subst e;exact ZnU hc hk hkey ha hb hi (by rw[hBB];exact hq)
 refine wpS_bind (bey rfl hh ?_);cases hright:BB hint with
 | true =>
  dsimp only;rw[if_pos rfl];refine wpS_bind (wpS_mono (wpS_forRange (I:=fun x c st'=>st'=st/\∃lo of,c=(none,lo,of)/\lo<n-hint/\lo<of/\BB (hint+lo)=true/\x+1<=of) (Q:=fun c st'=>st'=st/\∃lo of,c=(none,lo,of)/\lo<n-hint/\lo<of/\BB (hint+lo)=true/\(n-hint<=of\/BB (hint+of)=false)) ?_ ?_ ⟨rfl,0,1,rfl,by lia,by lia,hright,by lia⟩) ?_)
  ·rintro i c st' _ _ ⟨rfl,lo,of,rfl,h1,h2,h3,h4⟩;dsimp only;by_cases hlt:of>=n-hint
   ·rw[if_pos hlt];exact wpS_pure ⟨rfl,lo,of,rfl,h1,h2,h3,.inl hlt⟩
   ·rw[if_neg hlt];refine wpS_bind (bey rfl (by lia) ?_);cases hb2:BB (hint+of) with
    | true=>exact wpS_pure ⟨rfl,_,_,rfl,by lia,by lia,hb2,by lia⟩
    | false=>exact wpS_pure ⟨rfl,lo,of,rfl,h1,h2,h3,.inr hb2⟩
  ·rintro c st' ⟨rfl,lo,of,rfl,h1,h2,h3,h4⟩;exact⟨rfl,lo,of,rfl,h1,h2,h3,.inl (by lia)⟩
  ·rintro c st'' ⟨rfl,lo,of,rfl,h1,h2,h3,h4⟩;dsimp only;have g1:hint+lo+1<=hint+min of (n-hint):=by lia
   have g2:hint+min of (n-hint)<=n:=by lia
   have g3:∀i,i<hint+lo+1->BB i=true:=fun i hi=>up (show i<=hint+lo by lia) (by lia) h3;have g4:∀i,hint+min of (n-hint)<=i->i<n->BB i=false:=fun i hi hin=>by
    rcases h4 with h4|h4
    ·lia
    ·exact dn (show hint+of<=i by lia) hin h4
   generalize hint+lo+1=lo1 at g1 g3;generalize hint+min of (n-hint)=hi1 at g1 g2 g4;refine wpS_bind (wpS_mono (wpS_forRange (I:=fun x c st'=>st'=st''/\∃lo hi,c=(none,lo,hi)/\lo<=hi/\hi<=n/\(∀i,i<lo->BB i=true)/\(∀i,hi<=i->i<n->BB i=false)/\hi-lo+x<=n) (Q:=fun c st'=>st'=st''/\∃lo hi,c=(none,lo,hi)/\lo=hi/\hi<=n/\(∀i,i<lo->BB i=true)/\(∀i,hi<=i->i<n->BB i=false)) ?_ ?_ ⟨rfl,lo1,hi1,rfl,g1,g2,g3,g4,by lia⟩) ?_)
   ·rintro i c st' _ _ ⟨rfl,lo,hi,rfl,h1,h2,h3,h4,h5⟩;dsimp only;by_cases hlt:lo>=hi
    ·rw[if_pos hlt];exact wpS_pure ⟨rfl,lo,hi,rfl,by lia,h2,h3,h4⟩
    ·rw[if_neg hlt];refine wpS_bind (bey rfl (by lia) ?_);cases hb2:BB (lo+(hi-lo) / 2) with
     | true=>exact wpS_pure ⟨rfl,_,_,rfl,by lia,by lia,fun i hi'=>up (show i<=lo+(hi-lo) / 2 by lia) (by lia) hb2,h4,by lia⟩
     | false=>exact wpS_pure ⟨rfl,_,_,rfl,by lia,by lia,h3,fun i hi' hin=>dn hi' hin hb2,by lia⟩
   ·rintro c st' ⟨rfl,lo,hi,rfl,h1,h2,h3,h4,h5⟩;exact⟨rfl,lo,hi,rfl,by lia,h2,h3,h4⟩
   ·rintro c st' ⟨rfl,lo,hi,rfl,h1,h2,h3,h4⟩;exact wpS_pure (h hi h2 (fun i hi'=>h3 i (by lia)) h4)
 | false =>
  dsimp only;rw[if_neg Bool.false_ne_true];refine wpS_bind (wpS_mono (wpS_forRange (I:=fun x c st'=>st'=st/\∃lo of,c=(none,lo,of)/\lo<hint+1/\lo<of/\BB (hint-lo)=false/\x+1<=of) (Q:=fun c st'=>st'=st/\∃lo of,c=(none,lo,of)/\lo<hint+1/\lo<of/\BB (hint-lo)=false/\(hint+1<=of\/BB (hint-of)=true)) ?_ ?_ ⟨rfl,0,1,rfl,by lia,by lia,hright,by lia⟩) ?_)
  ·rintro i c st' _ _ ⟨rfl,lo,of,rfl,h1,h2,h3,h4⟩;dsimp only;by_cases hlt:of>=hint+1
   ·rw[if_pos hlt];exact wpS_pure ⟨rfl,lo,of,rfl,h1,h2,h3,.inl hlt⟩
   ·rw[if_neg hlt];refine wpS_bind (bey rfl (by lia) ?_);cases hb2:BB (hint-of) with
    | true=>exact wpS_pure ⟨rfl,lo,of,rfl,h1,h2,h3,.inr hb2⟩
    | false=>exact wpS_pure ⟨rfl,_,_,rfl,by lia,by lia,hb2,by lia⟩
  ·rintro c st' ⟨rfl,lo,of,rfl,h1,h2,h3,h4⟩;exact⟨rfl,lo,of,rfl,h1,h2,h3,.inl (by lia)⟩
  ·rintro c st'' ⟨rfl,lo,of,rfl,h1,h2,h3,h4⟩;dsimp only;have g1:hint+1-min of (hint+1)<=hint-lo:=by lia
   have g2:hint-lo<=n:=by lia
   have g3:∀i,i<hint+1-min of (hint+1)->BB i=true:=fun i hi=>by
    rcases h4 with h4|h4
    ·lia
    ·exact up (show i<=hint-of by lia) (by lia) h4
   have g4:∀i,hint-lo<=i->i<n->BB i=false:=fun i hi hin=>dn hi hin h3;generalize hint+1-min of (hint+1)=lo1 at g1 g3;generalize hint-lo=hi1 at g1 g2 g4;refine wpS_bind (wpS_mono (wpS_forRange (I:=fun x c st'=>st'=st''/\∃lo hi,c=(none,lo,hi)/\lo<=hi/\hi<=n/\(∀i,i<lo->BB i=true)/\(∀i,hi<=i->i<n->BB i=false)/\hi-lo+x<=n) (Q:=fun c st'=>st'=st''/\∃lo hi,c=(none,lo,hi)/\lo=hi/\hi<=n/\(∀i,i<lo->BB i=true)/\(∀i,hi<=i->i<n->BB i=false)) ?_ ?_ ⟨rfl,lo1,hi1,rfl,g1,g2,g3,g4,by lia⟩) ?_)
   ·rintro i c st' _ _ ⟨rfl,lo,hi,rfl,h1,h2,h3,h4,h5⟩;dsimp only;by_cases hlt:lo>=hi
    ·rw[if_pos hlt];exact wpS_pure ⟨rfl,lo,hi,rfl,by lia,h2,h3,h4⟩
    ·rw[if_neg hlt];refine wpS_bind (bey rfl (by lia) ?_);cases hb2:BB (lo+(hi-lo) / 2) with
     | true=>exact wpS_pure ⟨rfl,_,_,rfl,by lia,by lia,fun i hi'=>up (show i<=lo+(hi-lo) / 2 by lia) (by lia) hb2,h4,by lia⟩
     | false=>exact wpS_pure ⟨rfl,_,_,rfl,by lia,by lia,h3,fun i hi' hin=>dn hi' hin hb2,by lia⟩
   ·rintro c st' ⟨rfl,lo,hi,rfl,h1,h2,h3,h4,h5⟩;exact⟨rfl,lo,hi,rfl,by lia,h2,h3,h4⟩
   ·rintro c st' ⟨rfl,lo,hi,rfl,h1,h2,h3,h4⟩;exact wpS_pure (h hi h2 (fun i hi'=>h3 i (by lia)) h4)
end
section
variable{lt:Keyed->Keyed->Bool}{a b out:Array Keyed}{ia ib k:Nat}{p q:Keyed}
abbrev So(lt:Keyed->Keyed->Bool)(l:List Keyed):Prop:=l.Pairwise (Le lt)
theorem Zkf(h:a[ia]?= some p):a.toList[ia]?= some p:=by rw[<- h];simp
theorem Zai{i:Nat}{x y:Keyed}(h1:a[i]?= some x)(h2:a[i]?= some y):x=y:=by
 rw[h1] at h2;exact Option.some.inj h2
theorem Zcr(h:a[ia]?= some p):a.toList.drop ia=p::a.toList.drop (ia+1):=by
 obtain⟨hi,e⟩:=List.getElem?_eq_some_iff.mp (Zkf h);rw[List.drop_eq_getElem_cons hi,e]
theorem So.drop{l:List Keyed}(h:So lt l)(n:Nat):So lt (l.drop n):=List.Pairwise.sublist (List.drop_sublist n l) h
theorem So.head(h:So lt a.toList)(hp:a[ia]?= some p):∀y∈a.toList.drop (ia+1),Le lt p y:=by
 have:=h.drop ia;rw[Zcr hp] at this;exact(List.pairwise_cons.mp this).1
theorem Zfu(o:Swo lt)(h:So lt a.toList)(hp:a[ia]?= some p){x:Keyed}(hx:Le lt x p):∀y∈a.toList.drop ia,Le lt x y:=fun y hy=>by
 rw[Zcr hp] at hy;rcases List.mem_cons.mp hy with rfl|hy
 ·exact hx
 ·exact o.le_trans hx (h.head hp y hy)
theorem Zf0(h:So lt a.toList)(i j:Nat):Up lt a i j:=fun x y p q _ hxy _ ex ey=>by
 obtain⟨hx,rfl⟩:=List.getElem?_eq_some_iff.mp (Zkf ex);obtain⟨hy,rfl⟩:=List.getElem?_eq_some_iff.mp (Zkf ey);exact(List.pairwise_iff_getElem.mp h) x y hx hy hxy
theorem ZlU{n:Nat}(h:Up lt a 0 n)(hn:a.size<=n):So lt a.toList:=by
 refine List.pairwise_iff_getElem.mpr fun i j hi hj hij=>?_;have hi':i<a.size:=by rw[<- Array.length_toList];exact hi
 have hj':j<a.size:=by rw[<- Array.length_toList];exact hj
 exact h i j _ _ (Nat.zero_le _) hij (by lia) (by rw[<- Array.getElem?_toList];exact List.getElem?_eq_getElem hi) (by rw[<- Array.getElem?_toList];exact List.getElem?_eq_getElem hj)
theorem ZdI{l:List Keyed}{n:Nat}{y:Keyed}(h:y∈l.drop n):∃i,l[n+i]?= some y:=by
 obtain⟨i,hi⟩:=List.mem_iff_getElem?.mp h;rw[List.getElem?_drop] at hi;exact⟨i,hi⟩
theorem ZmF(F:∀i,k<=i->i<a.size-ia->BV lt false p a ia i=false)(o:Swo lt):∀y∈a.toList.drop (ia+k),Le lt p y:=fun y hy=>by
 obtain⟨i,hi⟩:=ZdI hy;obtain⟨hl,_⟩:=List.getElem?_eq_some_iff.mp hi;rw[Array.length_toList] at hl;have h1:=F (k+i) (by lia) (by lia);unfold BV at h1;rw[show ia+(k+i)=ia+k+i by lia,<- Array.getElem?_toList,hi] at h1;have h2:(!lt p y)=false:=h1;exact o.le_of (by simpa using h2)
theorem Zmv(F:∀i,i<k->BV lt false p a ia i=true):∀x∈(a.toList.drop ia).take k,Le lt x p:=fun x hx=>by
 obtain⟨i,hi⟩:=List.mem_iff_getElem?.mp hx;have hik:i<k:=by
  have:=(List.getElem?_eq_some_iff.mp hi).1;rw[List.length_take] at this;lia
 rw[List.getElem?_take_of_lt hik,List.getElem?_drop] at hi;have h1:=F i hik;unfold BV at h1;rw[<- Array.getElem?_toList,hi] at h1;have h2:(!lt p x)=true:=h1;show lt p x=false
 simpa using h2
theorem Znh(F:∀i,k<=i->i<b.size-ib->BV lt true q b ib i=false):∀y∈b.toList.drop (ib+k),Le lt q y:=fun y hy=>by
 obtain⟨i,hi⟩:=ZdI hy;obtain⟨hl,_⟩:=List.getElem?_eq_some_iff.mp hi;rw[Array.length_toList] at hl;have h1:=F (k+i) (by lia) (by lia);unfold BV at h1;rw[show ib+(k+i)=ib+k+i by lia,<- Array.getElem?_toList,hi] at h1;exact h1
theorem Zm0(F:∀i,i<k->BV lt true q b ib i=true)(o:Swo lt):∀x∈(b.toList.drop ib).take k,Le lt x q:=fun x hx=>by
 obtain⟨i,hi⟩:=List.mem_iff_getElem?.mp hx;have hik:i<k:=by
  have:=(List.getElem?_eq_some_iff.mp hi).1;rw[List.length_take] at this;lia
 rw[List.getElem?_take_of_lt hik,List.getElem?_drop] at hi;have h1:=F i hik;unfold BV at h1;rw[<- Array.getElem?_toList,hi] at h1;exact o.le_of h1
structure OutL(lt:Keyed->Keyed->Bool)(a b out:Array Keyed)(ia ib:Nat):Prop where
 perm:Out a b out ia ib
 sort:So lt out.toList
 lowA:∀x∈out.toList,∀y∈a.toList.drop ia,Le lt x y
 lowB:∀x∈out.toList,∀y∈b.toList.drop ib,Le lt x y
structure Rs(lt:Keyed->Keyed->Bool)(a b r:Array Keyed):Prop where
 perm:r.toList.Perm (a.toList++b.toList)
 sort:So lt r.toList
theorem mem_push{x:Keyed}(h:x∈(out.push p).toList):x∈out.toList\/x=p:=by
 rw[Array.toList_push] at h;rcases List.mem_append.mp h with h|h
 ·exact .inl h
 ·exact .inr (List.mem_singleton.mp h)
theorem Zjs(h:So lt out.toList)(hp:∀x∈out.toList,Le lt x p):So lt (out.push p).toList:=by
 rw[Array.toList_push];refine List.pairwise_append.mpr ⟨h,List.pairwise_singleton _ _,fun x hx y hy=>?_⟩;rw[List.mem_singleton.mp hy];exact hp x hx
theorem ZeM{l:List Keyed}{i j:Nat}(h:i<=j){y:Keyed}(hy:y∈l.drop j):y∈l.drop i:=by
 rw[show j=i+(j-i) by lia,<- List.drop_drop] at hy;exact List.mem_of_mem_drop hy
theorem OutL.pushA(h:OutL lt a b out ia ib)(SA:So lt a.toList)(hp:a[ia]?= some p)(hb:∀y∈b.toList.drop ib,Le lt p y):OutL lt a b (out.push p) (ia+1) ib:=by
 have hm:p∈a.toList.drop ia:=by rw[Zcr hp];exact List.mem_cons_self ..
 refine⟨h.perm.pushA hp,Zjs h.sort fun x hx=>h.lowA x hx p hm,fun x hx y hy=>?_,fun x hx y hy=>?_⟩
 ·rcases mem_push hx with hx|rfl
  ·exact h.lowA x hx y (ZeM (by lia) hy)
  ·exact SA.head hp y hy
 ·rcases mem_push hx with hx|rfl
  ·exact h.lowB x hx y hy
  ·exact hb y hy
theorem OutL.pushB(h:OutL lt a b out ia ib)(SB:So lt b.toList)(hp:b[ib]?= some p)(ha:∀y∈a.toList.drop ia,Le lt p y):OutL lt a b (out.push p) ia (ib+1):=by
 have hm:p∈b.toList.drop ib:=by rw[Zcr hp];exact List.mem_cons_self ..
 refine⟨h.perm.pushB hp,Zjs h.sort fun x hx=>h.lowB x hx p hm,fun x hx y hy=>?_,fun x hx y hy=>?_⟩
 ·rcases mem_push hx with hx|rfl
  ·exact h.lowA x hx y hy
  ·exact ha y hy
 ·rcases mem_push hx with hx|rfl
  ·exact h.lowB x hx y (ZeM (by lia) hy)
  ·exact SB.head hp y hy
theorem Zdo(a:Array Keyed)(i k:Nat):(a.extract i (i+k)).toList=(a.toList.drop i).take k:=by
 rw[Array.toList_extract,List.extract_eq_drop_take,show i+k-i=k by lia]
theorem ZcD(a:Array Keyed)(i:Nat):(a.extract i a.size).toList=a.toList.drop i:=by
 rw[Array.toList_extract,List.extract_eq_drop_take];apply List.take_of_length_le;rw[List.length_drop,Array.length_toList];exact Nat.le_refl _
theorem Zc1{l:List Keyed}{i k:Nat}(h:So lt l){x y:Keyed}(hx:x∈(l.drop i).take k)(hy:y∈l.drop (i+k)):Le lt x y:=by
 have h1:=h.drop i;rw[<- List.take_append_drop k (l.drop i),List.drop_drop] at h1;exact(List.pairwise_append.mp h1).2.2 x hx y hy
theorem OutL.extA(h:OutL lt a b out ia ib)(SA:So lt a.toList)(hk:ia+k<=a.size)(hb:∀x∈(a.toList.drop ia).take k,∀y∈b.toList.drop ib,Le lt x y):OutL lt a b (out++a.extract ia (ia+k)) (ia+k) ib:=by
 have hm:∀x,x∈(out++a.extract ia (ia+k)).toList->x∈out.toList\/x∈(a.toList.drop ia).take k:=fun x hx=>by
  rw[Array.toList_append,Zdo] at hx;exact List.mem_append.mp hx
 refine⟨h.perm.extA hk,?_,fun x hx y hy=>?_,fun x hx y hy=>?_⟩
 ·rw[Array.toList_append,Zdo];exact List.pairwise_append.mpr ⟨h.sort,List.Pairwise.sublist (List.take_sublist _ _) (SA.drop ia),fun x hx y hy=>h.lowA x hx y (List.mem_of_mem_take hy)⟩
 ·rcases hm x hx with hx|hx
  ·exact h.lowA x hx y (ZeM (by lia) hy)
  ·exact Zc1 SA hx hy
 ·rcases hm x hx with hx|hx
  ·exact h.lowB x hx y hy
  ·exact hb x hx y hy
theorem OutL.extB(h:OutL lt a b out ia ib)(SB:So lt b.toList)(hk:ib+k<=b.size)(ha:∀x∈(b.toList.drop ib).take k,∀y∈a.toList.drop ia,Le lt x y):OutL lt a b (out++b.extract ib (ib+k)) ia (ib+k):=by
 have hm:∀x,x∈(out++b.extract ib (ib+k)).toList->x∈out.toList\/x∈(b.toList.drop ib).take k:=fun x hx=>by
  rw[Array.toList_append,Zdo] at hx;exact List.mem_append.mp hx
 refine⟨h.perm.extB hk,?_,fun x hx y hy=>?_,fun x hx y hy=>?_⟩
 ·rw[Array.toList_append,Zdo];exact List.pairwise_append.mpr ⟨h.sort,List.Pairwise.sublist (List.take_sublist _ _) (SB.drop ib),fun x hx y hy=>h.lowB x hx y (List.mem_of_mem_take hy)⟩
 ·rcases hm x hx with hx|hx
  ·exact h.lowA x hx y hy
  ·exact ha x hx y hy
 ·rcases hm x hx with hx|hx
  ·exact h.lowB x hx y (ZeM (by lia) hy)
  ·exact Zc1 SB hx hy
theorem OutL.doneB(h:OutL lt a b out ia ib)(SA:So lt a.toList)(e:(ib == b.size)=true):Rs lt a b (out++a.extract ia a.size++b.extract ib b.size):=by
 refine⟨h.perm.done,?_⟩;have e':b.toList.drop ib=[]:=List.drop_eq_nil_of_le (by rw[Array.length_toList,eq_of_beq e];exact Nat.le_refl _);rw[Array.toList_append,Array.toList_append,ZcD,ZcD,e',List.append_nil];exact List.pairwise_append.mpr ⟨h.sort,SA.drop ia,fun x hx y hy=>h.lowA x hx y hy⟩
theorem OutL.doneA(h:OutL lt a b out ia ib)(SB:So lt b.toList)(e:(ia == a.size)=true):Rs lt a b (out++a.extract ia a.size++b.extract ib b.size):=by
 refine⟨h.perm.done,?_⟩;have e':a.toList.drop ia=[]:=List.drop_eq_nil_of_le (by rw[Array.length_toList,eq_of_beq e];exact Nat.le_refl _);rw[Array.toList_append,Array.toList_append,ZcD,ZcD,e',List.append_nil];exact List.pairwise_append.mpr ⟨h.sort,SB.drop ib,fun x hx y hy=>h.lowB x hx y hy⟩
theorem OutL.lastL(h:OutL lt a b out ia ib)(SA:So lt a.toList)(SB:So lt b.toList)(LA:∀x∈b.toList,∀q,a[a.size-1]?= some q->Le lt x q)(e:(ia+1 == a.size)=true):Rs lt a b (out++b.extract ib b.size++a.extract ia a.size):=by
 refine⟨h.perm.last,?_⟩;have e1:=eq_of_beq e;rw[Array.toList_append,Array.toList_append,ZcD,ZcD];refine List.pairwise_append.mpr ⟨List.pairwise_append.mpr ⟨h.sort,SB.drop ib,fun x hx y hy=>h.lowB x hx y hy⟩,SA.drop ia,fun x hx y hy=>?_⟩;rcases List.mem_append.mp hx with hx|hx
 ·exact h.lowA x hx y hy
 ·refine LA x (List.mem_of_mem_drop hx) y ?_;obtain⟨i,hi⟩:=ZdI hy;have hl:=(List.getElem?_eq_some_iff.mp hi).1;rw[Array.length_toList] at hl;rw[show a.size-1=ia+i by lia,<- Array.getElem?_toList];exact hi
theorem ZmR(SB:So lt b.toList)(hp:b[0]?= some p)(hb0:∀p,b[0]?= some p->∀y∈a.toList,Le lt p y):OutL lt a b #[p] 0 1:=by
 refine⟨Zny hp,List.pairwise_singleton _ _,fun x hx y hy=>?_,fun x hx y hy=>?_⟩
 ·obtain rfl:x=p:=by simpa using hx
  exact hb0 x hp y hy
 ·obtain rfl:x=p:=by simpa using hx
  exact SB.head hp y hy
end
section
variable{prog:Program}{w:World}{A:Around}{E:Value->Shared->Prop}{s:Shared}{κ : SortKind}{Ok:Keyed->Prop}{st:SortSt}{lt:Keyed->Keyed->Bool}
abbrev LoT:=Option (Array Keyed)×Array Keyed×Nat×Nat×Nat×Nat×Nat
def lo3(a b out:Array Keyed)(ia ib g ac bc:Nat):StateT SortSt Sem (ForInStep LoT) :=
 elem' a ia >>= fun p=>if(ia+1+1 == a.size)=true then pure (.done (some (out.push p++b.extract ib b.size++a.extract (ia+1) a.size),out.push p,ia+1,ib,g,ac,bc))
  else if(decide (ac<7)&&decide (bc<7))=true then pure (.done (none,out.push p,ia+1,ib,g,ac,bc)) else pure (.yield (none,out.push p,ia+1,ib,g,ac,bc))
def LoP(lt:Keyed->Keyed->Bool)(a b:Array Keyed)(st:SortSt)(x:Nat):ForInStep LoT->SortSt->Prop:=fun r st'=>match r with
 | .done c=>Like st st'/\((∃r out ia ib g ac bc,c=(some r,out,ia,ib,g,ac,bc)/\Rs lt a b r)\/∃out ia ib g ac bc,c=(none,out,ia,ib,g,ac,bc)/\OutL lt a b out ia ib/\ia+1<a.size/\ib<b.size/\x+2<=ia+ib)
 | .yield c=>Like st st'/\∃out ia ib g ac bc,c=(none,out,ia,ib,g,ac,bc)/\OutL lt a b out ia ib/\ia+1<a.size/\ib<b.size/\x+2<=ia+ib
structure LoQ(lt:Keyed->Keyed->Bool)(a b:Array Keyed)(st:SortSt)(N:Nat)(Q:ForInStep LoT->SortSt->Prop):Prop where
 R:∀r out ia ib g ac bc,Rs lt a b r->Q (.done (some r,out,ia,ib,g,ac,bc)) st
 N:∀out ia ib g ac bc,OutL lt a b out ia ib->ia+1<a.size->ib<b.size->N<=ia+ib->Q (.done (none,out,ia,ib,g,ac,bc)) st/\Q (.yield (none,out,ia,ib,g,ac,bc)) st
section
variable{a b out:Array Keyed}{ia ib g ac bc N:Nat}{Q:ForInStep LoT->SortSt->Prop}
theorem ZkP(SA:So lt a.toList)(SB:So lt b.toList)(LA:∀x∈b.toList,∀q,a[a.size-1]?= some q->Le lt x q)(q:LoQ lt a b st N Q)(ho:OutL lt a b out ia ib)(h1:ia+1<a.size)(h2:ib<b.size)(hN:N<=ia+ib)(hp:∀p,a[ia]?= some p->∀y∈b.toList.drop ib,Le lt p y) :
  wpS (model prog w) A E s (lo3 a b out ia ib g ac bc) Q st:=by
 unfold lo3;refine wpS_bind (ZG (by lia) fun p4 h4 e4=>?_);have o4:=ho.pushA SA e4 (hp p4 e4);by_cases f1:(ia+1+1 == a.size)=true
 ·rw[if_pos f1];exact wpS_pure (q.R _ _ _ _ _ _ _ (o4.lastL SA SB LA f1))
 rw[if_neg f1];have n4:ia+1+1<a.size:=by
  have : ¬ ia+1+1=a.size:=fun e=>f1 (by simp[<- e]);lia
 have z:=q.N _ _ _ g ac bc o4 n4 h2 (by lia);by_cases f2:(decide (ac<7)&&decide (bc<7))=true
 ·rw[if_pos f2];exact wpS_pure z.1
 ·rw[if_neg f2];exact wpS_pure z.2
theorem Zhl(o:Swo lt)(hc:Zhy prog w A s κ Ok lt)(hk:kindOf st= κ)(ha:∀p∈a.toList,Ok p)(hb:∀p∈b.toList,Ok p)(SA:So lt a.toList)(SB:So lt b.toList)(LA:∀x∈b.toList,∀q,a[a.size-1]?= some q->Le lt x q)(q:LoQ lt a b st N Q)(ho:OutL lt a b out ia ib)(h1:ia+1<a.size)(h2:ib<b.size)(hN:N<=ia+ib)(hp:∀p,b[ib]?= some p->∀y∈a.toList.drop ia,Le lt p y)
  {T:Keyed->Option Nat->StateT SortSt Sem (ForInStep LoT)} (hT:∀p k,T p (some k)=if k > 0 then(if(ib+1+k == b.size)=true then pure (.done (some (out.push p++b.extract (ib+1) (ib+1+k)++a.extract ia a.size++b.extract (ib+1+k) b.size),out.push p++b.extract (ib+1) (ib+1+k),ia,ib+1+k,g,ac,k))
     else lo3 a b (out.push p++b.extract (ib+1) (ib+1+k)) ia (ib+1+k) g ac k)
    else lo3 a b (out.push p) ia (ib+1) g ac k) :
  wpS (model prog w) A E s (elem' b ib >>= fun p=>if(ib+1 == b.size)=true then pure (.done (some (out.push p++a.extract ia a.size++b.extract (ib+1) b.size),out.push p,ia,ib+1,g,ac,bc))
   else elem' a ia >>= fun q=>ZgK true q b (ib+1) (b.size-(ib+1)) 0 >>= T p) Q st:=by
 refine wpS_bind (ZG (by lia) fun p3 h3 e3=>?_);have o2:=ho.pushB SB e3 (hp p3 e3);by_cases c3:(ib+1 == b.size)=true
 ·rw[if_pos c3];exact wpS_pure (q.R _ _ _ _ _ _ _ (o2.doneB SA c3))
 rw[if_neg c3];have n3:ib+1<b.size:=by
  have : ¬ ib+1=b.size:=fun e=>c3 (by simp[<- e]);lia
 refine wpS_bind (ZG (by lia) fun q3 g3 u3=>?_);refine wpS_bind (Zax o hc hk (ha q3 g3) hb (by lia) (by lia) (Zf0 SB _ _) fun k2 hk2 G1 G2=>?_);rw[hT];by_cases k20:k2 > 0
 ·rw[if_pos k20];have o3:=o2.extB SB (k:=k2) (by lia) (fun x hx=>Zfu o SA u3 (Zm0 G1 o x hx));by_cases c4:(ib+1+k2 == b.size)=true
  ·rw[if_pos c4];exact wpS_pure (q.R _ _ _ _ _ _ _ (o3.doneB SA c4))
  rw[if_neg c4];have n5:ib+1+k2<b.size:=by
   have : ¬ ib+1+k2=b.size:=fun e=>c4 (by simp[<- e]);lia
  exact ZkP SA SB LA q o3 h1 n5 (by lia) fun p e=>by rw[Zai e u3];exact Znh G2
 ·rw[if_neg k20];exact ZkP SA SB LA q o2 h1 n3 (by lia) fun p e=>by rw[Zai e u3];exact Znh (k:=0) (fun i _ hi=>G2 i (by lia) hi)
end
set_option maxHeartbeats 2000000 in
theorem Zfr{a b:Array Keyed}{Q:Array Keyed->SortSt->Prop}(o:Swo lt)(hc:Zhy prog w A s κ Ok lt)(hk:kindOf st= κ)(ha:∀p∈a.toList,Ok p)(hb:∀p∈b.toList,Ok p)(ha1:1<=a.size)(hb1:1<=b.size)(SA:So lt a.toList)(SB:So lt b.toList)(hb0:∀p,b[0]?= some p->∀y∈a.toList,Le lt p y)(LA:∀x∈b.toList,∀q,a[a.size-1]?= some q->Le lt x q)
  (h:∀r st',Like st st'->Rs lt a b r->Q r st'):wpS (model prog w) A E s (Zj7 a b) Q st:=by
 refine wpS_bind (wpS_lift (wpAny_rule ⟨rfl,?_⟩));refine wpS_bind (ZG (by lia) fun p hp he=>?_)
 try dsimp -zeta only
 have o0:OutL lt a b #[p] 0 1:=ZmR SB he hb0;by_cases c1:(1 == b.size)=true
 ·rw[if_pos c1];exact wpS_pure (h _ _ (Like.refl _) (o0.doneB SA c1))
 rw[if_neg c1];by_cases c2:(0+1 == a.size)=true
 ·rw[if_pos c2];exact wpS_pure (h _ _ (Like.refl _) (o0.lastL SA SB LA c2))
 rw[if_neg c2];have n1:1<b.size:=by
  have : ¬ 1=b.size:=fun e=>c1 (by simp[<- e]);lia
 have n2:1<a.size:=by
  have : ¬ 1=a.size:=fun e=>c2 (by simp[<- e]);lia
 refine wpS_bind (wpS_get ?_);refine wpS_bind (wpS_mono (wpS_forRange (I:=fun x c st'=>Like st st'/\∃out ia ib g,c=(none,out,ia,ib,g)/\OutL lt a b out ia ib/\ia+1<a.size/\ib<b.size/\x+1<=ia+ib)
  (Q:=fun c st'=>Like st st'/\∃r out ia ib g,c=(some r,out,ia,ib,g)/\Rs lt a b r) ?_ ?_ ⟨Like.refl _,_,0,1,_,rfl,o0,by lia,by lia,by lia⟩) ?_)
 ·rintro x c st1 _ hx ⟨lk,out,ia,ib,g,rfl,ho,hia,hib,hxx⟩
  try dsimp -zeta only
  refine wpS_bind (wpS_mono (wpS_forRange (I:=fun y c st'=>Like st st'/\∃out ia ib ac bc,c=(none,out,ia,ib,ac,bc)/\OutL lt a b out ia ib/\ia+1<a.size/\ib<b.size/\x+1+(if y=0 then 0 else 1)<=ia+ib)
   (Q:=fun c st'=>Like st st'/\((∃r out ia ib ac bc,c=(some r,out,ia,ib,ac,bc)/\Rs lt a b r)\/∃out ia ib ac bc,c=(none,out,ia,ib,ac,bc)/\OutL lt a b out ia ib/\ia+1<a.size/\ib<b.size/\x+2<=ia+ib)) ?_ ?_ ⟨lk,out,ia,ib,0,0,rfl,ho,hia,hib,by simp;lia⟩) ?_)
  ·rintro y c st2 _ hy ⟨lk2,out,ia,ib,ac,bc,rfl,ho,hia,hib,hxx⟩;dsimp only;have hxx2:x+1<=ia+ib:=by split at hxx <;> lia
   refine wpS_bind (ZG (by lia) fun p hp ep=>?_);refine wpS_bind (ZG (by lia) fun q hq eq=>?_);refine wpS_bind (Zd6 hc (lk2.kind.trans hk) (hb p hp) (ha q hq) ?_);cases hbw:lt p q with
   | true =>
    try dsimp -zeta only
    rw[if_pos rfl];refine wpS_bind (ZG (by lia) fun p2 hp2 ep2=>?_);have o1:=ho.pushB SB ep2 (by rw[Zai ep2 ep];exact Zfu o SA eq (o.le_of hbw));by_cases d1:(ib+1 == b.size)=true
    ·rw[if_pos d1];exact wpS_pure ⟨lk2,.inl ⟨_,_,_,_,_,_,rfl,(o1.doneB SA d1)⟩⟩
    rw[if_neg d1];have m1:ib+1<b.size:=by
     have : ¬ ib+1=b.size:=fun e=>d1 (by simp[<- e]);lia
    by_cases d2:bc+1>=g
    ·rw[if_pos d2];exact wpS_pure ⟨lk2,.inr ⟨_,_,_,_,_,rfl,o1,hia,m1,by lia⟩⟩
    ·rw[if_neg d2];exact wpS_pure ⟨lk2,_,_,_,_,_,rfl,o1,hia,m1,by rw[if_neg (by lia)];lia⟩
   | false =>
    try dsimp -zeta only
    rw[if_neg Bool.false_ne_true];refine wpS_bind (ZG (by lia) fun p2 hp2 ep2=>?_);have o1:=ho.pushA SA ep2 (by rw[Zai ep2 eq];exact Zfu o SB ep hbw);by_cases d1:(ia+1+1 == a.size)=true
    ·rw[if_pos d1];exact wpS_pure ⟨lk2,.inl ⟨_,_,_,_,_,_,rfl,(o1.lastL SA SB LA d1)⟩⟩
    rw[if_neg d1];have m1:ia+1+1<a.size:=by
     have : ¬ ia+1+1=a.size:=fun e=>d1 (by simp[<- e]);lia
    by_cases d2:ac+1>=g
    ·rw[if_pos d2];exact wpS_pure ⟨lk2,.inr ⟨_,_,_,_,_,rfl,o1,m1,hib,by lia⟩⟩
    ·rw[if_neg d2];exact wpS_pure ⟨lk2,_,_,_,_,_,rfl,o1,m1,hib,by rw[if_neg (by lia)];lia⟩
  ·rintro c st2 ⟨lk2,out,ia,ib,ac,bc,rfl,ho,hia,hib,hxx⟩;refine⟨lk2,.inr ⟨_,_,_,_,_,rfl,ho,hia,hib,?_⟩⟩;rw[if_neg (by lia)] at hxx;lia
  ·rintro c st2 ⟨lk2,⟨r,out,ia,ib,ac,bc,rfl,hr⟩|⟨out,ia,ib,ac,bc,rfl,ho,hia,hib,hxx⟩⟩
   ·exact wpS_pure ⟨lk2,_,_,_,_,_,rfl,hr⟩
   try dsimp -zeta only
   refine wpS_bind (wpS_lift (wpAny_rule ⟨rfl,?_⟩))
   try dsimp -zeta only
   refine wpS_bind (wpS_mono (wpS_forRange (I:=fun y c st'=>Like st st'/\∃out ia ib g ac bc,c=(none,out,ia,ib,g,ac,bc)/\OutL lt a b out ia ib/\ia+1<a.size/\ib<b.size/\x+2<=ia+ib)
    (Q:=fun c st'=>Like st st'/\((∃r out ia ib g ac bc,c=(some r,out,ia,ib,g,ac,bc)/\Rs lt a b r)\/∃out ia ib g ac bc,c=(none,out,ia,ib,g,ac,bc)/\OutL lt a b out ia ib/\ia+1<a.size/\ib<b.size/\x+2<=ia+ib)) ?_ ?_ ⟨lk2,out,ia,ib,_,_,_,rfl,ho,hia,hib,hxx⟩) ?_)
   ·rintro y c st3 _ hy ⟨lk3,out,ia,ib,g3,ac,bc,rfl,ho,hia,hib,hxx⟩;dsimp only;refine wpS_mono (Q:=LoP lt a b st x) ?_ (fun r st' h=>by cases r <;> exact h)
    have loq:∀{st4},Like st st4->LoQ lt a b st4 (ia+ib) (LoP lt a b st x):=fun lk4=>⟨fun r out ia ib g ac bc hr=>⟨lk4,.inl ⟨r,out,ia,ib,g,ac,bc,rfl,hr⟩⟩,fun out ia ib g ac bc ho h1 h2 hN=>⟨⟨lk4,.inr ⟨out,ia,ib,g,ac,bc,rfl,ho,h1,h2,by lia⟩⟩,⟨lk4,out,ia,ib,g,ac,bc,rfl,ho,h1,h2,by lia⟩⟩⟩;by_cases g1:g3 > 1
    ·rw[if_pos g1];refine wpS_bind (wpS_modify ?_);have lk4:=lk3.trans (ZaY st3 (g3-1));refine wpS_bind (ZG (by lia) fun p0 h0 e0=>?_);refine wpS_bind (Zax o hc (lk4.kind.trans hk) (hb p0 h0) ha (by lia) (by lia) (Zf0 SA _ _) fun k hk1 F1 F2=>?_)
     try dsimp -zeta only
     by_cases k0:k > 0
     ·rw[if_pos k0];have o1:=ho.extA SA (k:=k) (by lia) (fun x hx=>Zfu o SB e0 (Zmv F1 x hx));by_cases c1:(ia+k+1 == a.size)=true
      ·rw[if_pos c1];exact wpS_pure ⟨lk4,.inl ⟨_,_,_,_,_,_,_,rfl,(o1.lastL SA SB LA c1)⟩⟩
      rw[if_neg c1];by_cases c2:(ia+k == a.size)=true
      ·rw[if_pos c2];exact wpS_pure ⟨lk4,.inl ⟨_,_,_,_,_,_,_,rfl,(o1.doneA SB c2)⟩⟩
      rw[if_neg c2];have n1:ia+k+1<a.size:=by
       have h1 : ¬ ia+k+1=a.size:=fun e=>c1 (by simp[<- e]);have h2 : ¬ ia+k=a.size:=fun e=>c2 (by simp[<- e]);lia
      refine Zhl o hc (lk4.kind.trans hk) ha hb SA SB LA (N:=ia+ib) (loq lk4) o1 n1 hib (by lia) (fun p e=>by rw[Zai e e0];exact ZmF F2 o) ?_;exact fun _ _=>rfl
     ·rw[if_neg k0];refine Zhl o hc (lk4.kind.trans hk) ha hb SA SB LA (N:=ia+ib) (loq lk4) ho hia hib (Nat.le_refl _) (fun p e=>by rw[Zai e e0];exact ZmF (k:=0) (fun i _ hi=>F2 i (by lia) hi) o) ?_;exact fun _ _=>rfl
    ·rw[if_neg g1];refine wpS_bind (wpS_modify ?_);have lk4:=lk3.trans (ZaY st3 g3);refine wpS_bind (ZG (by lia) fun p0 h0 e0=>?_);refine wpS_bind (Zax o hc (lk4.kind.trans hk) (hb p0 h0) ha (by lia) (by lia) (Zf0 SA _ _) fun k hk1 F1 F2=>?_)
     try dsimp -zeta only
     by_cases k0:k > 0
     ·rw[if_pos k0];have o1:=ho.extA SA (k:=k) (by lia) (fun x hx=>Zfu o SB e0 (Zmv F1 x hx));by_cases c1:(ia+k+1 == a.size)=true
      ·rw[if_pos c1];exact wpS_pure ⟨lk4,.inl ⟨_,_,_,_,_,_,_,rfl,(o1.lastL SA SB LA c1)⟩⟩
      rw[if_neg c1];by_cases c2:(ia+k == a.size)=true
      ·rw[if_pos c2];exact wpS_pure ⟨lk4,.inl ⟨_,_,_,_,_,_,_,rfl,(o1.doneA SB c2)⟩⟩
      rw[if_neg c2];have n1:ia+k+1<a.size:=by
       have h1 : ¬ ia+k+1=a.size:=fun e=>c1 (by simp[<- e]);have h2 : ¬ ia+k=a.size:=fun e=>c2 (by simp[<- e]);lia
      refine Zhl o hc (lk4.kind.trans hk) ha hb SA SB LA (N:=ia+ib) (loq lk4) o1 n1 hib (by lia) (fun p e=>by rw[Zai e e0];exact ZmF F2 o) ?_;exact fun _ _=>rfl
     ·rw[if_neg k0];refine Zhl o hc (lk4.kind.trans hk) ha hb SA SB LA (N:=ia+ib) (loq lk4) ho hia hib (Nat.le_refl _) (fun p e=>by rw[Zai e e0];exact ZmF (k:=0) (fun i _ hi=>F2 i (by lia) hi) o) ?_;exact fun _ _=>rfl
   ·rintro c st3 ⟨lk3,out,ia,ib,g3,ac,bc,rfl,ho,hia,hib,hxx⟩;exact⟨lk3,.inr ⟨_,_,_,_,_,_,rfl,ho,hia,hib,hxx⟩⟩
   ·rintro c st3 ⟨lk3,⟨r,out,ia,ib,g3,ac,bc,rfl,hr⟩|⟨out,ia,ib,g3,ac,bc,rfl,ho,hia,hib,hxx⟩⟩
    ·exact wpS_pure ⟨lk3,_,_,_,_,_,rfl,hr⟩
    ·try dsimp -zeta only
     refine wpS_bind (wpS_modify ?_);exact wpS_pure ⟨lk3.trans (ZaY _ _),_,_,_,_,rfl,ho,hia,hib,by lia⟩
 ·rintro c st1 ⟨lk,out,ia,ib,g,rfl,ho,hia,hib,hx⟩;exfalso;lia
 ·rintro c st1 ⟨lk,r,out,ia,ib,g,rfl,hr⟩;exact wpS_pure (h r st1 lk hr)
end
section
variable{lt:Keyed->Keyed->Bool}{a b out:Array Keyed}{na nb k:Nat}{p q:Keyed}
structure OutHL(lt:Keyed->Keyed->Bool)(a b out:Array Keyed)(na nb:Nat):Prop where
 perm:Zdk a b out na nb
 sort:So lt out.toList.reverse
 hiA:∀x∈out.toList,∀y∈a.toList.take na,Le lt y x
 hiB:∀x∈out.toList,∀y∈b.toList.take nb,Le lt y x
theorem Zch(h1:1<=na)(hp:a[na-1]?= some p):a.toList.take na=a.toList.take (na-1) ++ [p]:=by
 have:=Ze9 (Zkf hp);rw[Nat.sub_add_cancel h1] at this;exact this
theorem So.take{l:List Keyed}(h:So lt l)(n:Nat):So lt (l.take n):=List.Pairwise.sublist (List.take_sublist n l) h
theorem So.last(h:So lt a.toList)(h1:1<=na)(hp:a[na-1]?= some p):∀y∈a.toList.take (na-1),Le lt y p:=fun y hy=>by
 have:=h.take na;rw[Zch h1 hp] at this;exact(List.pairwise_append.mp this).2.2 y hy p (List.mem_singleton.mpr rfl)
theorem Zfk(o:Swo lt)(h:So lt a.toList)(h1:1<=na)(hp:a[na-1]?= some p){x:Keyed}(hx:Le lt p x):∀y∈a.toList.take na,Le lt y x:=fun y hy=>by
 rw[Zch h1 hp] at hy;rcases List.mem_append.mp hy with hy|hy
 ·exact o.le_trans (h.last h1 hp y hy) hx
 ·rw[List.mem_singleton.mp hy];exact hx
theorem ZeS{l:List Keyed}{i j:Nat}(h:i<=j){y:Keyed}(hy:y∈l.take i):y∈l.take j:=by
 rw[show i=min i j by lia,<- List.take_take] at hy;exact List.mem_of_mem_take hy
theorem ZbV{l:List Keyed}{n:Nat}{y:Keyed}(h:y∈l.take n):∃i,i<n/\l[i]?= some y:=by
 obtain⟨i,hi⟩:=List.mem_iff_getElem?.mp h;have hik:i<n:=by
  have:=(List.getElem?_eq_some_iff.mp hi).1;rw[List.length_take] at this;lia
 rw[List.getElem?_take_of_lt hik] at hi;exact⟨i,hik,hi⟩
theorem ZbR{i j:Nat}{x:Keyed}(h:x∈(a.extract i j).toList):∃m,i<=m/\m<j/\a[m]?= some x:=by
 rw[Array.toList_extract,List.extract_eq_drop_take] at h;obtain⟨m,hm,e⟩:=ZbV h;rw[List.getElem?_drop] at e;exact⟨i+m,by lia,by lia,by rw[<- Array.getElem?_toList];exact e⟩
theorem Zmn(F:∀i,k<=i->i<na->BV lt false p a 0 i=false)(o:Swo lt):∀x∈(a.extract k na).toList,Le lt p x:=fun x hx=>by
 obtain⟨m,h1,h2,e⟩:=ZbR hx;have h3:=F m h1 h2;unfold BV at h3;rw[Nat.zero_add,e] at h3;have h4:(!lt p x)=false:=h3;exact o.le_of (by simpa using h4)
theorem Zg6(F:∀i,i<k->BV lt false p a 0 i=true):∀y∈a.toList.take k,Le lt y p:=fun y hy=>by
 obtain⟨i,hi,e⟩:=ZbV hy;have h3:=F i hi;unfold BV at h3;rw[Nat.zero_add,<- Array.getElem?_toList,e] at h3;have h4:(!lt p y)=true:=h3;show lt p y=false
 simpa using h4
theorem ZmO(F:∀i,k<=i->i<nb->BV lt true q b 0 i=false):∀x∈(b.extract k nb).toList,Le lt q x:=fun x hx=>by
 obtain⟨m,h1,h2,e⟩:=ZbR hx;have h3:=F m h1 h2;unfold BV at h3;rw[Nat.zero_add,e] at h3;exact h3
theorem ZkK(F:∀i,i<k->BV lt true q b 0 i=true)(o:Swo lt):∀y∈b.toList.take k,Le lt y q:=fun y hy=>by
 obtain⟨i,hi,e⟩:=ZbV hy;have h3:=F i hi;unfold BV at h3;rw[Nat.zero_add,<- Array.getElem?_toList,e] at h3;exact o.le_of h3
theorem Zhb(h:So lt out.toList.reverse)(hp:∀x∈out.toList,Le lt p x):So lt (out.push p).toList.reverse:=by
 rw[Array.toList_push,List.reverse_append];exact List.pairwise_cons.mpr ⟨fun x hx=>hp x (List.mem_reverse.mp hx),h⟩
theorem OutHL.pushA(h:OutHL lt a b out na nb)(SA:So lt a.toList)(h1:1<=na)(hp:a[na-1]?= some p)(hb:∀y∈b.toList.take nb,Le lt y p):OutHL lt a b (out.push p) (na-1) nb:=by
 have hm:p∈a.toList.take na:=by rw[Zch h1 hp];exact List.mem_append_right _ (List.mem_singleton.mpr rfl)
 refine⟨h.perm.pushA h1 hp,Zhb h.sort fun x hx=>h.hiA x hx p hm,fun x hx y hy=>?_,fun x hx y hy=>?_⟩
 ·rcases mem_push hx with hx|rfl
  ·exact h.hiA x hx y (ZeS (by lia) hy)
  ·exact SA.last h1 hp y hy
 ·rcases mem_push hx with hx|rfl
  ·exact h.hiB x hx y hy
  ·exact hb y hy
theorem OutHL.pushB(h:OutHL lt a b out na nb)(SB:So lt b.toList)(h1:1<=nb)(hp:b[nb-1]?= some p)(ha:∀y∈a.toList.take na,Le lt y p):OutHL lt a b (out.push p) na (nb-1):=by
 have hm:p∈b.toList.take nb:=by rw[Zch h1 hp];exact List.mem_append_right _ (List.mem_singleton.mpr rfl)
 refine⟨h.perm.pushB h1 hp,Zhb h.sort fun x hx=>h.hiB x hx p hm,fun x hx y hy=>?_,fun x hx y hy=>?_⟩
 ·rcases mem_push hx with hx|rfl
  ·exact h.hiA x hx y hy
  ·exact ha y hy
 ·rcases mem_push hx with hx|rfl
  ·exact h.hiB x hx y (ZeS (by lia) hy)
  ·exact SB.last h1 hp y hy
theorem ZkY(h:So lt a.toList)(i j:Nat):So lt (a.extract i j).toList:=by
 rw[Array.toList_extract,List.extract_eq_drop_take];exact(h.drop i).take _
theorem Ziu{i j:Nat}{x:Keyed}(h:x∈(a.extract i j).toList):x∈a.toList.take j:=by
 obtain⟨m,h1,h2,e⟩:=ZbR h;rw[<- Array.getElem?_toList] at e;refine List.mem_iff_getElem?.mpr ⟨m,?_⟩;rw[List.getElem?_take_of_lt h2];exact e
theorem Zeo(h:So lt a.toList){i j:Nat}{x y:Keyed}(hy:y∈a.toList.take i)(hx:x∈(a.extract i j).toList):Le lt y x:=by
 obtain⟨m,h1,h2,e⟩:=ZbR hx;obtain⟨l,hl,e2⟩:=ZbV hy;rw[Array.getElem?_toList] at e2;exact Zf0 h 0 (m+1) l m _ _ (Nat.zero_le _) (by lia) (by lia) e2 e
theorem OutHL.extA(h:OutHL lt a b out na nb)(SA:So lt a.toList)(hk:k<=na)(hb:∀x∈(a.extract k na).toList,∀y∈b.toList.take nb,Le lt y x):OutHL lt a b (out++(a.extract k na).reverse) k nb:=by
 have hm:∀x,x∈(out++(a.extract k na).reverse).toList->x∈out.toList\/x∈(a.extract k na).toList:=fun x hx=>by
  rw[Array.toList_append,Array.toList_reverse] at hx;rcases List.mem_append.mp hx with hx|hx
  ·exact .inl hx
  ·exact .inr (List.mem_reverse.mp hx)
 refine⟨h.perm.extA hk,?_,fun x hx y hy=>?_,fun x hx y hy=>?_⟩
 ·rw[Array.toList_append,Array.toList_reverse,List.reverse_append,List.reverse_reverse];exact List.pairwise_append.mpr ⟨ZkY SA _ _,h.sort,fun x hx y hy=>h.hiA y (List.mem_reverse.mp hy) x (Ziu hx)⟩
 ·rcases hm x hx with hx|hx
  ·exact h.hiA x hx y (ZeS (by lia) hy)
  ·exact Zeo SA hy hx
 ·rcases hm x hx with hx|hx
  ·exact h.hiB x hx y hy
  ·exact hb x hx y hy
theorem OutHL.extB(h:OutHL lt a b out na nb)(SB:So lt b.toList)(hk:k<=nb)(ha:∀x∈(b.extract k nb).toList,∀y∈a.toList.take na,Le lt y x):OutHL lt a b (out++(b.extract k nb).reverse) na k:=by
 have hm:∀x,x∈(out++(b.extract k nb).reverse).toList->x∈out.toList\/x∈(b.extract k nb).toList:=fun x hx=>by
  rw[Array.toList_append,Array.toList_reverse] at hx;rcases List.mem_append.mp hx with hx|hx
  ·exact .inl hx
  ·exact .inr (List.mem_reverse.mp hx)
 refine⟨h.perm.extB hk,?_,fun x hx y hy=>?_,fun x hx y hy=>?_⟩
 ·rw[Array.toList_append,Array.toList_reverse,List.reverse_append,List.reverse_reverse];exact List.pairwise_append.mpr ⟨ZkY SB _ _,h.sort,fun x hx y hy=>h.hiB y (List.mem_reverse.mp hy) x (Ziu hx)⟩
 ·rcases hm x hx with hx|hx
  ·exact h.hiA x hx y hy
  ·exact ha x hx y hy
 ·rcases hm x hx with hx|hx
  ·exact h.hiB x hx y (ZeS (by lia) hy)
  ·exact Zeo SB hy hx
theorem OutHL.doneA(h:OutHL lt a b out na nb)(SB:So lt b.toList)(e:(na == 0)=true):Rs lt a b (a.extract 0 na++b.extract 0 nb++out.reverse):=by
 refine⟨h.perm.done,?_⟩;rw[Array.toList_append,Array.toList_append,ex0,ex0,Array.toList_reverse,eq_of_beq e,List.take_zero,List.nil_append];exact List.pairwise_append.mpr ⟨SB.take nb,h.sort,fun x hx y hy=>h.hiB y (List.mem_reverse.mp hy) x hx⟩
theorem OutHL.doneB(h:OutHL lt a b out na nb)(SA:So lt a.toList)(e:(nb == 0)=true):Rs lt a b (a.extract 0 na++b.extract 0 nb++out.reverse):=by
 refine⟨h.perm.done,?_⟩;rw[Array.toList_append,Array.toList_append,ex0,ex0,Array.toList_reverse,eq_of_beq e,List.take_zero,List.append_nil];exact List.pairwise_append.mpr ⟨SA.take na,h.sort,fun x hx y hy=>h.hiA y (List.mem_reverse.mp hy) x hx⟩
theorem OutHL.firstL(h:OutHL lt a b out na nb)(SA:So lt a.toList)(SB:So lt b.toList)(hb0:∀p,b[0]?= some p->∀y∈a.toList,Le lt p y)(e:(nb == 1)=true):Rs lt a b (b.extract 0 nb++a.extract 0 na++out.reverse):=by
 refine⟨h.perm.first,?_⟩
 rw[Array.toList_append,Array.toList_append,ex0,ex0,Array.toList_reverse];refine List.pairwise_append.mpr ⟨List.pairwise_append.mpr ⟨SB.take nb,SA.take na,fun x hx y hy=>?_⟩,h.sort,fun x hx y hy=>?_⟩
 ·obtain⟨i,hi,e2⟩:=ZbV hx;rw[eq_of_beq e] at hi;obtain rfl:i=0:=by lia
  rw[Array.getElem?_toList] at e2;exact hb0 x e2 y (List.mem_of_mem_take hy)
 ·rcases List.mem_append.mp hx with hx|hx
  ·exact h.hiB y (List.mem_reverse.mp hy) x hx
  ·exact h.hiA y (List.mem_reverse.mp hy) x hx
theorem ZlY(SA:So lt a.toList)(h1:1<=a.size)(hp:a[a.size-1]?= some p)(LA:∀x∈b.toList,∀q,a[a.size-1]?= some q->Le lt x q):OutHL lt a b #[p] (a.size-1) b.size:=by
 refine⟨ZmT h1 hp,List.pairwise_singleton _ _,fun x hx y hy=>?_,fun x hx y hy=>?_⟩
 ·obtain rfl:x=p:=by simpa using hx
  exact SA.last h1 hp y hy
 ·obtain rfl:x=p:=by simpa using hx
  exact LA y (List.mem_of_mem_take hy) x hp
end
section
variable{prog:Program}{w:World}{A:Around}{E:Value->Shared->Prop}{s:Shared}{κ : SortKind}{Ok:Keyed->Prop}{st:SortSt}{lt:Keyed->Keyed->Bool}
abbrev HiT:=Option (Array Keyed)×Nat×Nat×Array Keyed×Nat×Nat×Nat
def hi3(a b:Array Keyed)(na nb:Nat)(out:Array Keyed)(g ac bc:Nat):StateT SortSt Sem (ForInStep HiT) :=
 elem' a (na-1) >>= fun p=>if(na-1 == 0)=true then pure (.done (some (a.extract 0 (na-1)++b.extract 0 nb++(out.push p).reverse),na-1,nb,out.push p,g,ac,bc))
  else if(decide (ac<7)&&decide (bc<7))=true then pure (.done (none,na-1,nb,out.push p,g,ac,bc)) else pure (.yield (none,na-1,nb,out.push p,g,ac,bc))
structure HiQ(lt:Keyed->Keyed->Bool)(a b:Array Keyed)(st:SortSt)(N:Nat)(Q:ForInStep HiT->SortSt->Prop):Prop where
 R:∀r na nb out g ac bc,Rs lt a b r->Q (.done (some r,na,nb,out,g,ac,bc)) st
 N:∀na nb out g ac bc,OutHL lt a b out na nb->1<=na->na<=a.size->2<=nb->nb<=b.size->na+nb<=N->Q (.done (none,na,nb,out,g,ac,bc)) st/\Q (.yield (none,na,nb,out,g,ac,bc)) st
def HiP(lt:Keyed->Keyed->Bool)(a b:Array Keyed)(st:SortSt)(x:Nat):ForInStep HiT->SortSt->Prop:=fun r st'=>match r with
 | .done c=>Like st st'/\((∃r na nb out g ac bc,c=(some r,na,nb,out,g,ac,bc)/\Rs lt a b r)\/∃na nb out g ac bc,c=(none,na,nb,out,g,ac,bc)/\OutHL lt a b out na nb/\1<=na/\na<=a.size/\2<=nb/\nb<=b.size/\na+nb+x+2<=a.size+b.size)
 | .yield c=>Like st st'/\∃na nb out g ac bc,c=(none,na,nb,out,g,ac,bc)/\OutHL lt a b out na nb/\1<=na/\na<=a.size/\2<=nb/\nb<=b.size/\na+nb+x+2<=a.size+b.size
section
variable{a b out:Array Keyed}{na nb g ac bc N:Nat}{Q:ForInStep HiT->SortSt->Prop}
theorem ZkC(SA:So lt a.toList)(SB:So lt b.toList)(q:HiQ lt a b st N Q)(ho:OutHL lt a b out na nb)(h1:1<=na)(h2:na<=a.size)(h3:2<=nb)(h4:nb<=b.size)(hN:na+nb<=N)(hp:∀p,a[na-1]?= some p->∀y∈b.toList.take nb,Le lt y p) :
  wpS (model prog w) A E s (hi3 a b na nb out g ac bc) Q st:=by
 unfold hi3;refine wpS_bind (ZG (by lia) fun p4 w4 e4=>?_);have o4:=ho.pushA SA h1 e4 (hp p4 e4);by_cases f1:(na-1 == 0)=true
 ·rw[if_pos f1];exact wpS_pure (q.R _ _ _ _ _ _ _ (o4.doneA SB f1))
 rw[if_neg f1];have n4 : ¬ na-1=0:=fun e=>f1 (by simp[e]);have z:=q.N _ _ _ g ac bc o4 (by lia) (by lia) h3 h4 (by lia);by_cases f2:(decide (ac<7)&&decide (bc<7))=true
 ·rw[if_pos f2];exact wpS_pure z.1
 ·rw[if_neg f2];exact wpS_pure z.2
theorem Zg7(o:Swo lt)(hc:Zhy prog w A s κ Ok lt)(hk:kindOf st= κ)(ha:∀p∈a.toList,Ok p)(hb:∀p∈b.toList,Ok p)(hb0:∀p,b[0]?= some p->∀y∈a.toList,Le lt p y)(SA:So lt a.toList)(SB:So lt b.toList)(q:HiQ lt a b st N Q)(ho:OutHL lt a b out na nb)(h1:1<=na)(h2:na<=a.size)(h3:2<=nb)(h4:nb<=b.size)(hN:na+nb<=N)(hp:∀p,b[nb-1]?= some p->∀y∈a.toList.take na,Le lt y p)
  {T:Keyed->Option Nat->StateT SortSt Sem (ForInStep HiT)} (hT:∀p k,T p (some k)=if nb-1-k > 0 then(if(k == 1)=true then pure (.done (some (b.extract 0 k++a.extract 0 na++(out.push p++(b.extract k (nb-1)).reverse).reverse),na,k,out.push p++(b.extract k (nb-1)).reverse,g,ac,nb-1-k))
     else if(k == 0)=true then pure (.done (some (a.extract 0 na++b.extract 0 k++(out.push p++(b.extract k (nb-1)).reverse).reverse),na,k,out.push p++(b.extract k (nb-1)).reverse,g,ac,nb-1-k))
     else hi3 a b na k (out.push p++(b.extract k (nb-1)).reverse) g ac (nb-1-k))
    else hi3 a b na (nb-1) (out.push p) g ac (nb-1-k)) :
  wpS (model prog w) A E s (elem' b (nb-1) >>= fun p=>if(nb-1 == 1)=true then pure (.done (some (b.extract 0 (nb-1)++a.extract 0 na++(out.push p).reverse),na,nb-1,out.push p,g,ac,bc))
   else elem' a (na-1) >>= fun q=>ZgK true q b 0 (nb-1) (nb-1-1) >>= T p) Q st:=by
 refine wpS_bind (ZG (by lia) fun p3 w3 e3=>?_);have o2:=ho.pushB SB (by lia) e3 (hp p3 e3);by_cases c3:(nb-1 == 1)=true
 ·rw[if_pos c3];exact wpS_pure (q.R _ _ _ _ _ _ _ (o2.firstL SA SB hb0 c3))
 rw[if_neg c3];have n3 : ¬ nb-1=1:=fun e=>c3 (by simp[e]);refine wpS_bind (ZG (by lia) fun q3 v3 u3=>?_);refine wpS_bind (Zax o hc hk (ha q3 v3) hb (by lia) (by lia) (Zf0 SB _ _) fun k2 hk2 G1 G2=>?_);rw[hT];by_cases k20:nb-1-k2 > 0
 ·rw[if_pos k20];have o3:=o2.extB SB (k:=k2) (by lia) (fun x hx=>Zfk o SA (by lia) u3 (ZmO G2 x hx));by_cases c4:(k2 == 1)=true
  ·rw[if_pos c4];exact wpS_pure (q.R _ _ _ _ _ _ _ (o3.firstL SA SB hb0 c4))
  rw[if_neg c4];by_cases c5:(k2 == 0)=true
  ·rw[if_pos c5];exact wpS_pure (q.R _ _ _ _ _ _ _ (o3.doneB SA c5))
  rw[if_neg c5];have n5 : ¬ k2=1:=fun e=>c4 (by simp[e]);have n6 : ¬ k2=0:=fun e=>c5 (by simp[e]);exact ZkC SA SB q o3 h1 h2 (by lia) (by lia) (by lia) fun p e=>by rw[Zai e u3];exact ZkK G1 o
 ·rw[if_neg k20];exact ZkC SA SB q o2 h1 h2 (by lia) (by lia) (by lia) fun p e=>by rw[Zai e u3];exact ZkK (fun i hi=>G1 i (by lia)) o
end
set_option maxHeartbeats 2000000 in
theorem ZfU{a b:Array Keyed}{Q:Array Keyed->SortSt->Prop}(o:Swo lt)(hc:Zhy prog w A s κ Ok lt)(hk:kindOf st= κ)(ha:∀p∈a.toList,Ok p)(hb:∀p∈b.toList,Ok p)(ha1:1<=a.size)(hb1:1<=b.size)(SA:So lt a.toList)(SB:So lt b.toList)(hb0:∀p,b[0]?= some p->∀y∈a.toList,Le lt p y)(LA:∀x∈b.toList,∀q,a[a.size-1]?= some q->Le lt x q)
  (h:∀r st',Like st st'->Rs lt a b r->Q r st'):wpS (model prog w) A E s (Zkr a b) Q st:=by
 refine wpS_bind (wpS_lift (wpAny_rule ⟨rfl,?_⟩));refine wpS_bind (ZG (by lia) fun p hp he=>?_)
 try dsimp -zeta only
 have o0:OutHL lt a b #[p] (a.size-1) b.size:=ZlY SA ha1 he LA;by_cases c1:(a.size-1 == 0)=true
 ·rw[if_pos c1];exact wpS_pure (h _ _ (Like.refl _) (o0.doneA SB c1))
 rw[if_neg c1];by_cases c2:(b.size == 1)=true
 ·rw[if_pos c2];exact wpS_pure (h _ _ (Like.refl _) (o0.firstL SA SB hb0 c2))
 rw[if_neg c2];have n1:1<b.size:=by
  have : ¬ b.size=1:=fun e=>c2 (by simp[e]);lia
 have n2:1<a.size:=by
  have : ¬ a.size-1=0:=fun e=>c1 (by simp[e]);lia
 refine wpS_bind (wpS_get ?_);refine wpS_bind (wpS_mono (wpS_forRange (I:=fun x c st'=>Like st st'/\∃na nb out g,c=(none,na,nb,out,g)/\OutHL lt a b out na nb/\1<=na/\na<=a.size/\2<=nb/\nb<=b.size/\na+nb+x+1<=a.size+b.size)
  (Q:=fun c st'=>Like st st'/\∃r na nb out g,c=(some r,na,nb,out,g)/\Rs lt a b r) ?_ ?_ ⟨Like.refl _,_,_,_,_,rfl,o0,by lia,by lia,by lia,by lia,by lia⟩) ?_)
 ·rintro x c st1 _ hx ⟨lk,na,nb,out,g,rfl,ho,h1,h2,h3,h4,hxx⟩
  try dsimp -zeta only
  refine wpS_bind (wpS_mono (wpS_forRange (I:=fun y c st'=>Like st st'/\∃na nb out ac bc,c=(none,na,nb,out,ac,bc)/\OutHL lt a b out na nb/\1<=na/\na<=a.size/\2<=nb/\nb<=b.size/\na+nb+x+1+(if y=0 then 0 else 1)<=a.size+b.size)
   (Q:=fun c st'=>Like st st'/\((∃r na nb out ac bc,c=(some r,na,nb,out,ac,bc)/\Rs lt a b r)\/∃na nb out ac bc,c=(none,na,nb,out,ac,bc)/\OutHL lt a b out na nb/\1<=na/\na<=a.size/\2<=nb/\nb<=b.size/\na+nb+x+2<=a.size+b.size)) ?_ ?_ ⟨lk,na,nb,out,0,0,rfl,ho,h1,h2,h3,h4,by simp;lia⟩) ?_)
  ·rintro y c st2 _ hy ⟨lk2,na,nb,out,ac,bc,rfl,ho,h1,h2,h3,h4,hxx⟩;have hxx2:na+nb+x+1<=a.size+b.size:=by split at hxx <;> lia
   try dsimp only
   refine wpS_bind (ZG (by lia) fun p hp ep=>?_);refine wpS_bind (ZG (by lia) fun q hq eq=>?_);refine wpS_bind (Zd6 hc (lk2.kind.trans hk) (hb p hp) (ha q hq) ?_);cases hbw:lt p q with
   | true =>
    try dsimp only
    rw[if_pos rfl];refine wpS_bind (ZG (by lia) fun p2 hp2 ep2=>?_);have o1:=ho.pushA SA h1 ep2 (by rw[Zai ep2 eq];exact Zfk o SB (by lia) ep (o.le_of hbw));by_cases d1:(na-1 == 0)=true
    ·rw[if_pos d1];exact wpS_pure ⟨lk2,.inl ⟨_,_,_,_,_,_,rfl,(o1.doneA SB d1)⟩⟩
    rw[if_neg d1];have m1 : ¬ na-1=0:=fun e=>d1 (by simp[e]);by_cases d2:ac+1>=g
    ·rw[if_pos d2];exact wpS_pure ⟨lk2,.inr ⟨_,_,_,_,_,rfl,o1,by lia,by lia,h3,h4,by lia⟩⟩
    ·rw[if_neg d2];exact wpS_pure ⟨lk2,_,_,_,_,_,rfl,o1,by lia,by lia,h3,h4,by rw[if_neg (by lia)];lia⟩
   | false =>
    try dsimp only
    rw[if_neg Bool.false_ne_true];refine wpS_bind (ZG (by lia) fun p2 hp2 ep2=>?_);have o1:=ho.pushB SB (by lia) ep2 (by rw[Zai ep2 ep];exact Zfk o SA h1 eq hbw);by_cases d1:(nb-1 == 1)=true
    ·rw[if_pos d1];exact wpS_pure ⟨lk2,.inl ⟨_,_,_,_,_,_,rfl,(o1.firstL SA SB hb0 d1)⟩⟩
    rw[if_neg d1];have m1 : ¬ nb-1=1:=fun e=>d1 (by simp[e]);by_cases d2:bc+1>=g
    ·rw[if_pos d2];exact wpS_pure ⟨lk2,.inr ⟨_,_,_,_,_,rfl,o1,h1,h2,by lia,by lia,by lia⟩⟩
    ·rw[if_neg d2];exact wpS_pure ⟨lk2,_,_,_,_,_,rfl,o1,h1,h2,by lia,by lia,by rw[if_neg (by lia)];lia⟩
  ·rintro c st2 ⟨lk2,na,nb,out,ac,bc,rfl,ho,h1,h2,h3,h4,hxx⟩;refine⟨lk2,.inr ⟨_,_,_,_,_,rfl,ho,h1,h2,h3,h4,?_⟩⟩;rw[if_neg (by lia)] at hxx;lia
  ·rintro c st2 ⟨lk2,⟨r,na,nb,out,ac,bc,rfl,hr⟩|⟨na,nb,out,ac,bc,rfl,ho,h1,h2,h3,h4,hxx⟩⟩
   ·exact wpS_pure ⟨lk2,_,_,_,_,_,rfl,hr⟩
   try dsimp -zeta only
   refine wpS_bind (wpS_lift (wpAny_rule ⟨rfl,?_⟩))
   try dsimp -zeta only
   refine wpS_bind (wpS_mono (wpS_forRange (I:=fun y c st'=>Like st st'/\∃na nb out g ac bc,c=(none,na,nb,out,g,ac,bc)/\OutHL lt a b out na nb/\1<=na/\na<=a.size/\2<=nb/\nb<=b.size/\na+nb+x+2<=a.size+b.size)
    (Q:=fun c st'=>Like st st'/\((∃r na nb out g ac bc,c=(some r,na,nb,out,g,ac,bc)/\Rs lt a b r)\/∃na nb out g ac bc,c=(none,na,nb,out,g,ac,bc)/\OutHL lt a b out na nb/\1<=na/\na<=a.size/\2<=nb/\nb<=b.size/\na+nb+x+2<=a.size+b.size)) ?_ ?_ ⟨lk2,na,nb,out,_,_,_,rfl,ho,h1,h2,h3,h4,hxx⟩) ?_)
   ·rintro y c st3 _ hy ⟨lk3,na,nb,out,g3,ac,bc,rfl,ho,h1,h2,h3,h4,hxx⟩
    try dsimp only
    refine wpS_mono (Q:=HiP lt a b st x) ?_ (fun r st' h=>by cases r <;> exact h)
    have hiq:∀{st4},Like st st4->HiQ lt a b st4 (na+nb) (HiP lt a b st x):=fun lk4=>⟨fun r na nb out g ac bc hr=>⟨lk4,.inl ⟨r,na,nb,out,g,ac,bc,rfl,hr⟩⟩,fun na nb out g ac bc ho h1 h2 h3 h4 hN=>⟨⟨lk4,.inr ⟨na,nb,out,g,ac,bc,rfl,ho,h1,h2,h3,h4,by lia⟩⟩,⟨lk4,na,nb,out,g,ac,bc,rfl,ho,h1,h2,h3,h4,by lia⟩⟩⟩;by_cases g1:g3 > 1
    ·rw[if_pos g1];refine wpS_bind (wpS_modify ?_);have lk4:=lk3.trans (ZaY st3 (g3-1));refine wpS_bind (ZG (by lia) fun p0 w0 e0=>?_);refine wpS_bind (Zax o hc (lk4.kind.trans hk) (hb p0 w0) ha (by lia) (by lia) (Zf0 SA _ _) fun k hk1 F1 F2=>?_);dsimp only;by_cases k0:na-k > 0
     ·rw[if_pos k0];have o1:=ho.extA SA (k:=k) (by lia) (fun x hx=>Zfk o SB (by lia) e0 (Zmn F2 o x hx));by_cases c1:(k == 0)=true
      ·rw[if_pos c1];exact wpS_pure ⟨lk4,.inl ⟨_,_,_,_,_,_,_,rfl,(o1.doneA SB c1)⟩⟩
      rw[if_neg c1];have n1 : ¬ k=0:=fun e=>c1 (by simp[e]);refine Zg7 o hc (lk4.kind.trans hk) ha hb hb0 SA SB (N:=na+nb) (hiq lk4) o1 (by lia) (by lia) h3 h4 (by lia) (fun p e=>by rw[Zai e e0];exact Zg6 F1) ?_;exact fun _ _=>rfl
     ·rw[if_neg k0];refine Zg7 o hc (lk4.kind.trans hk) ha hb hb0 SA SB (N:=na+nb) (hiq lk4) ho h1 h2 h3 h4 (Nat.le_refl _) (fun p e=>by rw[Zai e e0];exact Zg6 fun i hi=>F1 i (by lia)) ?_;exact fun _ _=>rfl
    ·rw[if_neg g1];refine wpS_bind (wpS_modify ?_);have lk4:=lk3.trans (ZaY st3 g3);refine wpS_bind (ZG (by lia) fun p0 w0 e0=>?_);refine wpS_bind (Zax o hc (lk4.kind.trans hk) (hb p0 w0) ha (by lia) (by lia) (Zf0 SA _ _) fun k hk1 F1 F2=>?_);dsimp only;by_cases k0:na-k > 0
     ·rw[if_pos k0];have o1:=ho.extA SA (k:=k) (by lia) (fun x hx=>Zfk o SB (by lia) e0 (Zmn F2 o x hx));by_cases c1:(k == 0)=true
      ·rw[if_pos c1];exact wpS_pure ⟨lk4,.inl ⟨_,_,_,_,_,_,_,rfl,(o1.doneA SB c1)⟩⟩
      rw[if_neg c1];have n1 : ¬ k=0:=fun e=>c1 (by simp[e]);refine Zg7 o hc (lk4.kind.trans hk) ha hb hb0 SA SB (N:=na+nb) (hiq lk4) o1 (by lia) (by lia) h3 h4 (by lia) (fun p e=>by rw[Zai e e0];exact Zg6 F1) ?_;exact fun _ _=>rfl
     ·rw[if_neg k0];refine Zg7 o hc (lk4.kind.trans hk) ha hb hb0 SA SB (N:=na+nb) (hiq lk4) ho h1 h2 h3 h4 (Nat.le_refl _) (fun p e=>by rw[Zai e e0];exact Zg6 fun i hi=>F1 i (by lia)) ?_;exact fun _ _=>rfl
   ·rintro c st3 ⟨lk3,na,nb,out,g3,ac,bc,rfl,ho,h1,h2,h3,h4,hxx⟩;exact⟨lk3,.inr ⟨_,_,_,_,_,_,rfl,ho,h1,h2,h3,h4,hxx⟩⟩
   ·rintro c st3 ⟨lk3,⟨r,na,nb,out,g3,ac,bc,rfl,hr⟩|⟨na,nb,out,g3,ac,bc,rfl,ho,h1,h2,h3,h4,hxx⟩⟩
    ·exact wpS_pure ⟨lk3,_,_,_,_,_,rfl,hr⟩
    ·try dsimp only
     refine wpS_bind (wpS_modify ?_);exact wpS_pure ⟨lk3.trans (ZaY _ _),_,_,_,_,rfl,ho,h1,h2,h3,h4,by lia⟩
 ·rintro c st1 ⟨lk,na,nb,out,g,rfl,ho,h1,h2,h3,h4,hx⟩;exfalso;lia
 ·rintro c st1 ⟨lk,r,na,nb,out,g,rfl,hr⟩;exact wpS_pure (h r st1 lk hr)
end
structure Pl(lo hi:Nat)(st st':SortSt):Prop where
 pm:Pm st st'
 out:∀i,i<lo\/hi<=i->(arrOf st')[i]?= (arrOf st)[i]?
theorem Pl.refl(lo hi:Nat)(st:SortSt):Pl lo hi st st:=⟨Pm.refl _,fun _ _=>rfl⟩
theorem Pl.trans{lo hi:Nat}{a b c:SortSt}(x:Pl lo hi a b)(y:Pl lo hi b c):Pl lo hi a c:=⟨x.pm.trans y.pm,fun i h=>(y.out i h).trans (x.out i h)⟩
theorem Pl.mirror{lo hi i j:Nat}(st:SortSt)(h1:lo<=i)(h2:j<=hi)(hj:j<=(arrOf st).size):Pl lo hi st (setArr st (mirror (arrOf st) i j ((j-i) / 2))):=⟨Pm.mirror st i j,fun k hk=>by
 show(PyProof.Rows.mirror (arrOf st) i j ((j-i) / 2))[k]?= _;rw[getElem?_mirror_all hj,if_neg (by lia)]⟩
theorem Pl.bubble{lo hi src dst:Nat}(st:SortSt)(h1:lo<=dst)(h2:dst<=src)(h3:src<hi)(hs:src<(arrOf st).size):Pl lo hi st (setArr st (bubble (arrOf st) src (src-dst))):=⟨Pm.bubble st src dst,fun k hk=>by
 show(PyProof.Rows.bubble (arrOf st) src (src-dst))[k]?= _;rw[getElem?_bubble hs _ (by lia),if_neg (by lia),if_neg (by lia)]⟩
section
variable{lt:Keyed->Keyed->Bool}{arr:Array Keyed}{lo hi m:Nat}{p q:Keyed}
def Dn(lt:Keyed->Keyed->Bool)(arr:Array Keyed)(i j:Nat):Prop := ∀x y p q,i<=x->x<y->y<j->arr[x]?= some p->arr[y]?= some q->Le lt q p
def Eqv(lt:Keyed->Keyed->Bool)(arr:Array Keyed)(i j:Nat):Prop := ∀x y p q,i<=x->x<j->i<=y->y<j->arr[x]?= some p->arr[y]?= some q->Le lt p q
theorem ZkJ:Up lt arr lo (lo+1):=fun x y _ _ h1 h2 h3=>by lia
theorem Zmu:Dn lt arr lo (lo+1):=fun x y _ _ h1 h2 h3=>by lia
theorem Up.ext(o:Swo lt)(h:Up lt arr lo m)(hm:lo<m)(hp:arr[m-1]?= some p)(hq:arr[m]?= some q)(hle:Le lt p q):Up lt arr lo (m+1):=fun x y u v h1 h2 h3 eu ev=>by
 by_cases hy:y<m
 ·exact h x y u v h1 h2 hy eu ev
 obtain rfl:y=m:=by lia
 rw[hq] at ev;cases ev;by_cases hx:x=y-1
 ·rw[hx,hp] at eu;cases eu;exact hle
 ·exact o.le_trans (h x (y-1) u p h1 (by lia) (by lia) eu hp) hle
theorem Dn.ext(o:Swo lt)(h:Dn lt arr lo m)(hm:lo<m)(hp:arr[m-1]?= some p)(hq:arr[m]?= some q)(hle:Le lt q p):Dn lt arr lo (m+1):=fun x y u v h1 h2 h3 eu ev=>by
 by_cases hy:y<m
 ·exact h x y u v h1 h2 hy eu ev
 obtain rfl:y=m:=by lia
 rw[hq] at ev;cases ev;by_cases hx:x=y-1
 ·rw[hx,hp] at eu;cases eu;exact hle
 ·exact o.le_trans hle (h x (y-1) u p h1 (by lia) (by lia) eu hp)
theorem Dn.mirror(h:Dn lt arr lo hi)(hs:hi<=arr.size):Up lt (mirror arr lo hi ((hi-lo) / 2)) lo hi:=fun x y u v h1 h2 h3 eu ev=>by
 rw[getElem?_mirror_all hs,if_pos (by lia)] at eu ev;exact h (lo+hi-1-y) (lo+hi-1-x) v u (by lia) (by lia) (by lia) ev eu
theorem Up.mirror(h:Up lt arr lo hi)(hs:hi<=arr.size):Dn lt (mirror arr lo hi ((hi-lo) / 2)) lo hi:=fun x y u v h1 h2 h3 eu ev=>by
 rw[getElem?_mirror_all hs,if_pos (by lia)] at eu ev;exact h (lo+hi-1-y) (lo+hi-1-x) v u (by lia) (by lia) (by lia) ev eu
theorem Dn.turn(h:Dn lt arr lo hi)(he:Eqv lt arr m hi)(hm:lo<=m)(hs:hi<=arr.size):Dn lt (PyProof.Rows.mirror arr m hi ((hi-m) / 2)) lo hi:=fun x y u v h1 h2 h3 eu ev=>by
 rw[getElem?_mirror_all hs] at eu ev;by_cases hy:m<=y/\y<hi
 ·rw[if_pos hy] at ev;by_cases hx:m<=x/\x<hi
  ·rw[if_pos hx] at eu;exact he _ _ _ _ (by lia) (by lia) (by lia) (by lia) ev eu
  ·rw[if_neg hx] at eu;exact h x (m+hi-1-y) u v h1 (by lia) (by lia) eu ev
 ·rw[if_neg hy] at ev;rw[if_neg (by lia)] at eu;exact h x y u v h1 h2 h3 eu ev
end
section
variable{prog:Program}{w:World}{A:Around}{E:Value->Shared->Prop}{s:Shared}{κ : SortKind}{Ok:Keyed->Prop}{st:SortSt}{lt:Keyed->Keyed->Bool}
theorem Zau{i j:Nat}{Q:Option Bool->SortSt->Prop}(hc:Zhy prog w A s κ Ok lt)(hk:kindOf st= κ)(ho:∀p∈(arrOf st).toList,Ok p)(hi:i<(arrOf st).size)(hj:j<(arrOf st).size)(h:∀p q,(arrOf st)[i]?= some p->(arrOf st)[j]?= some q->Q (some (lt p q)) st):wpS (model prog w) A E s (ltAt' i j) Q st:=by
 rw[ltAt'_eq];refine wpS_bind (wpS_get ?_);refine wpS_bind (ZG hi fun p hp e1=>wpS_bind (ZG hj fun q hq e2=>?_));exact Zd6 hc hk (ho p hp) (ho q hq) (h p q e1 e2)
theorem Zbc{i j:Nat}{Q:PUnit->SortSt->Prop}(h:Q ⟨⟩ (setArr st (mirror (arrOf st) i j ((j-i) / 2)))):wpS (model prog w) A E s (reverseSlice' i j) Q st:=by
 rw[reverseSlice'_eq];exact wpS_modify h
theorem ZiJ{i j:Nat}{Q:PUnit->SortSt->Prop}(h:Q ⟨⟩ (setArr st (bubble (arrOf st) i (i-j)))):wpS (model prog w) A E s (moveDown' i j) Q st:=by
 rw[moveDown'_eq];exact wpS_modify h
theorem ZlV(o:Swo lt){arr:Array Keyed}{lo k l:Nat}{pv:Keyed}(h:Up lt arr lo (lo+k))(hs:lo+k<arr.size)(hl:l<=k)(ep:arr[lo+k]?= some pv)(h1:∀i p,i<l->arr[lo+i]?= some p->Le lt p pv)(h2:∀i p,l<=i->i<k->arr[lo+i]?= some p->lt pv p=true) :
  Up lt (bubble arr (lo+k) (lo+k-(lo+l))) lo (lo+k+1):=fun x y u v a1 a2 a3 eu ev=>by
 rw[getElem?_bubble hs _ (by lia)] at eu ev;rw[show lo+k-(lo+k-(lo+l))=lo+l by lia] at eu ev;by_cases hy:y=lo+l
 ·rw[if_pos hy,ep] at ev;cases ev;rw[if_neg (by lia),if_neg (by lia)] at eu;exact h1 (x-lo) u (by lia) (by rw[show lo+(x-lo)=x by lia];exact eu)
 rw[if_neg hy] at ev;by_cases hx:x=lo+l
 ·rw[if_pos hx,ep] at eu;cases eu;rw[if_pos (by lia)] at ev;exact o.le_of (h2 (y-1-lo) v (by lia) (by lia) (by rw[show lo+(y-1-lo)=y-1 by lia];exact ev))
 rw[if_neg hx] at eu;by_cases hy2:lo+l<y/\y<=lo+k
 ·rw[if_pos hy2] at ev;by_cases hx2:lo+l<x/\x<=lo+k
  ·rw[if_pos hx2] at eu;exact h (x-1) (y-1) u v (by lia) (by lia) (by lia) eu ev
  ·rw[if_neg hx2] at eu;exact h x (y-1) u v (by lia) (by lia) (by lia) eu ev
 ·rw[if_neg hy2] at ev;rw[if_neg (by lia)] at eu;exact h x y u v (by lia) (by lia) (by lia) eu ev
set_option maxHeartbeats 1000000 in
theorem Zgk{lo n ok:Nat}{Q:Bool->SortSt->Prop}(o:Swo lt)(hc:Zhy prog w A s κ Ok lt)(hk:kindOf st= κ)(ho:∀p∈(arrOf st).toList,Ok p)(hn:lo+n<=(arrOf st).size)(hok:ok<=n)(hn1:1<=n)(hu:Up lt (arrOf st) lo (lo+ok))(h:∀st',Pl lo (lo+n) st st'->Up lt (arrOf st') lo (lo+n)->Q true st'):wpS (model prog w) A E s (binarySort' lo n ok) Q st:=by
 have hu0:Up lt (arrOf st) lo (lo+max ok 1):=by
  by_cases h0:ok=0
  ·rw[h0];exact ZkJ
  ·rw[show max ok 1=ok by lia];exact hu
 refine wpS_bind (wpS_mono (wpS_forRange (I:=fun x c st'=>c=(none,())/\Pl lo (lo+n) st st'/\Up lt (arrOf st') lo (lo+x)) (Q:=fun c st'=>c=(none,())/\Pl lo (lo+n) st st'/\Up lt (arrOf st') lo (lo+n)) ?_ ?_ ⟨rfl,Pl.refl _ _ _,hu0⟩) ?_)
 ·rintro k c st1 hk1 hkn ⟨rfl,pl,u1⟩
  try dsimp only
  have hsz:=pl.pm.size;obtain⟨pv,epv⟩:∃pv,(arrOf st1)[lo+k]?= some pv:=⟨_,getElem?_pos _ (lo+k) (by lia)⟩;refine wpS_bind (wpS_mono (wpS_forRange (I:=fun y c st'=>st'=st1/\∃l r,c=(none,l,r)/\l<=r/\r<=k/\(∀i p,i<l->(arrOf st1)[lo+i]?= some p->Le lt p pv)/\(∀i p,r<=i->i<k->(arrOf st1)[lo+i]?= some p->lt pv p=true)/\r-l+y<=k)
   (Q:=fun c st'=>st'=st1/\∃l r,c=(none,l,r)/\l=r/\r<=k/\(∀i p,i<l->(arrOf st1)[lo+i]?= some p->Le lt p pv)/\(∀i p,r<=i->i<k->(arrOf st1)[lo+i]?= some p->lt pv p=true)) ?_ ?_ ⟨rfl,0,k,rfl,by lia,by lia,fun i p hi=>by lia,fun i p h1 h2=>by lia,by lia⟩) ?_)
  ·rintro y c st2 _ _ ⟨rfl,l,r,rfl,h1,h2,h3,h4,h5⟩
   try dsimp only
   by_cases hlr:l>=r
   ·rw[if_pos hlr];exact wpS_pure ⟨rfl,l,r,rfl,by lia,h2,h3,h4⟩
   rw[if_neg hlr];refine wpS_bind (Zau hc (pl.pm.kind.trans hk) (pl.pm.ok ho) (by lia) (by lia) fun p q e1 e2=>?_);rw[epv] at e1;cases e1;cases hb:lt pv q with
   | true =>
    refine wpS_pure ⟨rfl,_,_,rfl,by lia,by lia,h3,fun i p hi1 hi2 ei=>?_,by lia⟩;by_cases e:i=(l+r) / 2
    ·rw[e,e2] at ei;cases ei;exact hb
    ·exact o.lt_le hb (u1 _ _ q p (by lia) (show lo+(l+r) / 2<lo+i by lia) (by lia) e2 ei)
   | false =>
    refine wpS_pure ⟨rfl,_,_,rfl,by lia,by lia,fun i p hi1 ei=>?_,h4,by lia⟩;by_cases e:i=(l+r) / 2
    ·rw[e,e2] at ei;cases ei;exact hb
    ·exact o.le_trans (u1 _ _ p q (by lia) (show lo+i<lo+(l+r) / 2 by lia) (by lia) ei e2) hb
  ·rintro c st2 ⟨rfl,l,r,rfl,h1,h2,h3,h4,h5⟩;exact⟨rfl,l,r,rfl,by lia,h2,h3,h4⟩
  ·rintro c st2 ⟨rfl,l,r,rfl,rfl,h2,h3,h4⟩
   try dsimp only
   refine wpS_bind (ZiJ ?_);exact wpS_pure ⟨rfl,pl.trans (Pl.bubble st2 (by lia) (by lia) (by lia) (by lia)),ZlV o u1 (by lia) h2 epv h3 h4⟩
 ·rintro c st1 ⟨rfl,pl,u1⟩;rw[show max (max ok 1) n=n by lia] at u1;exact⟨rfl,pl,u1⟩
 ·rintro c st1 ⟨rfl,pl,u1⟩;exact wpS_pure (h st1 pl u1)
set_option maxHeartbeats 4000000 in
theorem ZhE{lo nrem:Nat}{Q:Option Nat->SortSt->Prop}(o:Swo lt)(hc:Zhy prog w A s κ Ok lt)(hk:kindOf st= κ)(ho:∀p∈(arrOf st).toList,Ok p)(h1:1<=nrem)(hn:lo+nrem<=(arrOf st).size)(h:∀n st',1<=n->n<=nrem->Pl lo (lo+nrem) st st'->Up lt (arrOf st') lo (lo+n)->Q (some n) st'):wpS (model prog w) A E s (countRun' lo nrem) Q st:=by
 refine wpS_bind (wpS_mono (wpS_forRange (I:=fun x c st'=>st'=st/\∃n,c=(none,n)/\n=x/\Up lt (arrOf st) lo (lo+n)) (Q:=fun c st'=>st'=st/\∃n,c=(none,n)/\1<=n/\n<=nrem/\Up lt (arrOf st) lo (lo+n)/\(n=nrem\/∀p q,(arrOf st)[lo+n]?= some p->(arrOf st)[lo+n-1]?= some q->lt p q=true)) ?_ ?_ ⟨rfl,1,rfl,rfl,ZkJ⟩) ?_)
 ·rintro x c st1 hx1 hx ⟨rfl,n,rfl,rfl,u1⟩
  try dsimp only
  refine wpS_bind (Zau hc hk ho (by lia) (by lia) fun p q e1 e2=>?_);cases hb:lt p q with
  | true=>exact wpS_pure ⟨rfl,n,rfl,by lia,by lia,u1,.inr fun p' q' f1 f2=>by rw[e1] at f1;rw[e2] at f2;cases f1;cases f2;exact hb⟩
  | false=>exact wpS_pure ⟨rfl,n+1,rfl,rfl,u1.ext (m:=lo+n) o (by lia) e2 e1 hb⟩
 ·rintro c st1 ⟨rfl,n,rfl,rfl,u1⟩;exact⟨rfl,_,rfl,by lia,by lia,u1,.inl (by lia)⟩
 ·rintro c st1 ⟨rfl,n,rfl,n1,n2,u1,hstop⟩
  try dsimp only
  by_cases e1:(n == nrem)=true
  ·rw[if_pos e1];exact wpS_pure (h n st1 n1 n2 (Pl.refl _ _ _) u1)
  rw[if_neg e1];have n3:n<nrem:=by
   have : ¬ n=nrem:=fun e=>e1 (by simp[e]);lia
  have hstop2:=hstop.resolve_left (by lia);obtain⟨pn,epn⟩:∃p,(arrOf st1)[lo+n]?= some p:=⟨_,getElem?_pos _ (lo+n) (by lia)⟩;obtain⟨pm,epm⟩:∃p,(arrOf st1)[lo+n-1]?= some p:=⟨_,getElem?_pos _ (lo+n-1) (by lia)⟩;have hless:=hstop2 pn pm epn epm;by_cases e2:n > 1
  ·rw[if_pos e2];refine wpS_bind (Zau hc hk ho (by lia) (by lia) fun p q f1 f2=>?_);cases hb:lt p q with
   | true =>
    try dsimp only
    rw[if_pos rfl];exact wpS_pure (h n st1 n1 n2 (Pl.refl _ _ _) u1)
   | false =>
    try dsimp only
    rw[if_neg Bool.false_ne_true];refine wpS_bind (Zbc ?_);have p2:=Pl.mirror (lo:=lo) (hi:=lo+nrem) (i:=lo) (j:=lo+n) st1 (by lia) (by lia) (by lia);have d2:Dn lt (arrOf (setArr st1 (mirror (arrOf st1) lo (lo+n) ((lo+n-lo) / 2)))) lo (lo+n):=u1.mirror (by lia);have d3:Dn lt (arrOf (setArr st1 (mirror (arrOf st1) lo (lo+n) ((lo+n-lo) / 2)))) lo (lo+(n+1)):=by
     refine d2.ext (m:=lo+n) o (by lia) (p:=p) (q:=pn) ?_ ?_ ?_
     ·show(mirror (arrOf st1) lo (lo+n) ((lo+n-lo) / 2))[lo+n-1]?= some p;rw[getElem?_mirror_all (by lia),if_pos (by lia),show lo+(lo+n)-1-(lo+n-1)=lo by lia];exact f1
     ·show(mirror (arrOf st1) lo (lo+n) ((lo+n-lo) / 2))[lo+n]?= some pn;rw[getElem?_mirror_all (by lia),if_neg (by lia)];exact epn
     ·rw[epm] at f2;cases f2;exact o.le_trans (o.le_of hless) hb
    generalize setArr st1 (mirror (arrOf st1) lo (lo+n) ((lo+n-lo) / 2))=st2 at p2 d3;refine wpS_bind (wpS_lift (wpAny_rule ⟨rfl,?_⟩));refine wpS_bind (wpS_mono (wpS_forRange (I:=fun x c st'=>Pl lo (lo+nrem) st1 st'/\∃n q,c=(none,n,q)/\n=x/\1<=n/\q+1<=n/\Dn lt (arrOf st') lo (lo+n)/\Eqv lt (arrOf st') (lo+n-(q+1)) (lo+n)) (Q:=fun c st'=>Pl lo (lo+nrem) st1 st'/\∃n q,c=(none,n,q)/\1<=n/\n<=nrem/\q+1<=n/\Dn lt (arrOf st') lo (lo+n)/\Eqv lt (arrOf st') (lo+n-(q+1)) (lo+n)) ?_ ?_ ⟨p2,n+1,0,rfl,rfl,by lia,by lia,d3,fun x y u v a1 a2 a3 a4 eu ev=>by obtain rfl:x=y:=(by lia);rw[eu] at ev;cases ev;exact o.le_refl _⟩) ?_)
    ·rintro x c st3 hx1 hx ⟨p3,n,q,rfl,rfl,m1,m2,d3,q3⟩;have z3:=p3.pm.size
     try dsimp only
     refine wpS_bind (Zau hc (p3.pm.kind.trans hk) (p3.pm.ok ho) (by lia) (by lia) fun p1 p0 e1 e0=>?_);cases hb:lt p1 p0 with
     | true =>
      try dsimp only
      rw[if_pos rfl];by_cases q0:q > 0
      ·rw[if_pos q0];refine wpS_bind (Zbc ?_);have p4:=Pl.mirror (lo:=lo) (hi:=lo+nrem) (i:=lo+n-(q+1)) (j:=lo+n) st3 (by lia) (by lia) (by lia);have d4:=d3.turn q3 (by lia) (by lia);refine wpS_pure ⟨p3.trans p4,n+1,0,rfl,rfl,by lia,by lia,?_,fun x y u v a1 a2 a3 a4 eu ev=>by obtain rfl:x=y:=(by lia);rw[eu] at ev;cases ev;exact o.le_refl _⟩;obtain⟨p5,e5⟩:∃p5,(arrOf (setArr st3 (mirror (arrOf st3) (lo+n-(q+1)) (lo+n) ((lo+n-(lo+n-(q+1))) / 2))))[lo+n-1]?= some p5:=⟨_,getElem?_pos _ (lo+n-1) (by show _<(mirror _ _ _ _).size;rw[mirror_size];lia)⟩;refine d4.ext (m:=lo+n) o (by lia) e5 (q:=p1) ?_ ?_
       ·show(mirror (arrOf st3) (lo+n-(q+1)) (lo+n) ((lo+n-(lo+n-(q+1))) / 2))[lo+n]?= some p1;rw[getElem?_mirror_all (by lia),if_neg (by lia)];exact e1
       ·have e6:(mirror (arrOf st3) (lo+n-(q+1)) (lo+n) ((lo+n-(lo+n-(q+1))) / 2))[lo+n-1]?= some p5:=e5;rw[getElem?_mirror_all (by lia),if_pos (by lia)] at e6;exact o.le_trans (o.le_of hb) (q3 _ _ p0 p5 (show lo+n-(q+1)<=lo+n-1 by lia) (by lia) (by lia) (by lia) e0 e6)
      ·rw[if_neg q0];exact wpS_pure ⟨p3,n+1,0,rfl,rfl,by lia,by lia,d3.ext (m:=lo+n) o (by lia) e0 e1 (o.le_of hb),fun x y u v a1 a2 a3 a4 eu ev=>by obtain rfl:x=y:=(by lia);rw[eu] at ev;cases ev;exact o.le_refl _⟩
     | false =>
      try dsimp only
      rw[if_neg Bool.false_ne_true];refine wpS_bind (Zau hc (p3.pm.kind.trans hk) (p3.pm.ok ho) (by lia) (by lia) fun p0' p1' e0' e1'=>?_);rw[e0] at e0';rw[e1] at e1';cases e0';cases e1';cases hb2:lt p0 p1 with
      | true=>exact wpS_pure ⟨p3,n,q,rfl,m1,by lia,m2,d3,q3⟩
      | false =>
       refine wpS_pure ⟨p3,n+1,q+1,rfl,rfl,by lia,by lia,d3.ext (m:=lo+n) o (by lia) e0 e1 hb2,fun x y u v a1 a2 a3 a4 eu ev=>?_⟩;have one:∀x u,lo+(n+1)-(q+1+1)<=x->x<lo+(n+1)->(arrOf st3)[x]?= some u->Le lt u p0/\Le lt p0 u:=fun x u a1 a2 eu=>by
        by_cases hx:x=lo+n
        ·rw[hx,e1] at eu;cases eu;exact⟨hb2,hb⟩
        ·exact⟨q3 x (lo+n-1) u p0 (by lia) (by lia) (by lia) (by lia) eu e0,q3 (lo+n-1) x p0 u (by lia) (by lia) (by lia) (by lia) e0 eu⟩
       exact o.le_trans (one x u a1 a2 eu).1 (one y v a3 a4 ev).2
    ·rintro c st3 ⟨p3,n',q,rfl,rfl,m1,m2,d3,q3⟩;exact⟨p3,_,q,rfl,m1,by lia,m2,d3,q3⟩
    ·rintro c st3 ⟨p3,n,q,rfl,m1,mn,m2,d3,q3⟩;have z3:=p3.pm.size
     try dsimp only
     by_cases q0:q > 0
     ·rw[if_pos q0];refine wpS_bind (Zbc ?_);have p4:=Pl.mirror (lo:=lo) (hi:=lo+nrem) (i:=lo+n-(q+1)) (j:=lo+n) st3 (by lia) (by lia) (by lia);have d4:=d3.turn q3 (by lia) (by lia);have z4:=p4.pm.size;generalize hst4:setArr st3 (mirror (arrOf st3) (lo+n-(q+1)) (lo+n) ((lo+n-(lo+n-(q+1))) / 2))=st4 at p4 z4;have d5:Dn lt (arrOf st4) lo (lo+n):=by rw[<- hst4];exact d4
      refine wpS_bind (Zbc ?_);have p6:=(p3.trans p4).trans (Pl.mirror (lo:=lo) (hi:=lo+nrem) (i:=lo) (j:=lo+n) st4 (by lia) (by lia) (by lia));have u6:Up lt (arrOf (setArr st4 (mirror (arrOf st4) lo (lo+n) ((lo+n-lo) / 2)))) lo (lo+n):=d5.mirror (by lia);have z6:=p6.pm.size;generalize setArr st4 (mirror (arrOf st4) lo (lo+n) ((lo+n-lo) / 2))=st5 at p6 u6 z6;refine wpS_bind (wpS_mono (wpS_forRange (I:=fun x c st'=>st'=st5/\∃k,c=(none,k)/\k=x/\Up lt (arrOf st5) lo (lo+k)) (Q:=fun c st'=>st'=st5/\∃k,c=(none,k)/\n<=k/\k<=nrem/\Up lt (arrOf st5) lo (lo+k)) ?_ ?_ ⟨rfl,n,rfl,rfl,u6⟩) ?_)
      ·rintro x c st7 hx1 hx2 ⟨rfl,k,rfl,rfl,u7⟩
       try dsimp only
       refine wpS_bind (Zau hc (p6.pm.kind.trans hk) (p6.pm.ok ho) (by lia) (by lia) fun p q e1 e2=>?_);cases hb:lt p q with
       | true=>exact wpS_pure ⟨rfl,k,rfl,by lia,by lia,u7⟩
       | false=>exact wpS_pure ⟨rfl,k+1,rfl,rfl,u7.ext (m:=lo+k) o (by lia) e2 e1 hb⟩
      ·rintro c st7 ⟨rfl,k,rfl,rfl,u7⟩;exact⟨rfl,max n nrem,rfl,by lia,by lia,u7⟩
      ·rintro c st7 ⟨rfl,k,rfl,k1,k2,u7⟩;exact wpS_pure (h k _ (by lia) k2 p6 u7)
     ·rw[if_neg q0];refine wpS_bind (Zbc ?_);have p6:=p3.trans (Pl.mirror (lo:=lo) (hi:=lo+nrem) (i:=lo) (j:=lo+n) st3 (by lia) (by lia) (by lia));have u6:Up lt (arrOf (setArr st3 (mirror (arrOf st3) lo (lo+n) ((lo+n-lo) / 2)))) lo (lo+n):=d3.mirror (by lia);have z6:=p6.pm.size;generalize setArr st3 (mirror (arrOf st3) lo (lo+n) ((lo+n-lo) / 2))=st5 at p6 u6 z6;refine wpS_bind (wpS_mono (wpS_forRange (I:=fun x c st'=>st'=st5/\∃k,c=(none,k)/\k=x/\Up lt (arrOf st5) lo (lo+k)) (Q:=fun c st'=>st'=st5/\∃k,c=(none,k)/\n<=k/\k<=nrem/\Up lt (arrOf st5) lo (lo+k)) ?_ ?_ ⟨rfl,n,rfl,rfl,u6⟩) ?_)
      ·rintro x c st7 hx1 hx2 ⟨rfl,k,rfl,rfl,u7⟩
       try dsimp only
       refine wpS_bind (Zau hc (p6.pm.kind.trans hk) (p6.pm.ok ho) (by lia) (by lia) fun p q e1 e2=>?_);cases hb:lt p q with
       | true=>exact wpS_pure ⟨rfl,k,rfl,by lia,by lia,u7⟩
       | false=>exact wpS_pure ⟨rfl,k+1,rfl,rfl,u7.ext (m:=lo+k) o (by lia) e2 e1 hb⟩
      ·rintro c st7 ⟨rfl,k,rfl,rfl,u7⟩;exact⟨rfl,max n nrem,rfl,by lia,by lia,u7⟩
      ·rintro c st7 ⟨rfl,k,rfl,k1,k2,u7⟩;exact wpS_pure (h k _ (by lia) k2 p6 u7)
  ·rw[if_neg e2];have p2:=Pl.refl lo (lo+nrem) st1;have d3:Dn lt (arrOf st1) lo (lo+(n+1)):=by
    obtain rfl:n=1:=by lia
    exact Zmu.ext (m:=lo+1) o (by lia) epm epn (o.le_of hless)
   refine wpS_bind (wpS_lift (wpAny_rule ⟨rfl,?_⟩));refine wpS_bind (wpS_mono (wpS_forRange (I:=fun x c st'=>Pl lo (lo+nrem) st1 st'/\∃n q,c=(none,n,q)/\n=x/\1<=n/\q+1<=n/\Dn lt (arrOf st') lo (lo+n)/\Eqv lt (arrOf st') (lo+n-(q+1)) (lo+n)) (Q:=fun c st'=>Pl lo (lo+nrem) st1 st'/\∃n q,c=(none,n,q)/\1<=n/\n<=nrem/\q+1<=n/\Dn lt (arrOf st') lo (lo+n)/\Eqv lt (arrOf st') (lo+n-(q+1)) (lo+n)) ?_ ?_ ⟨p2,n+1,0,rfl,rfl,by lia,by lia,d3,fun x y u v a1 a2 a3 a4 eu ev=>by obtain rfl:x=y:=(by lia);rw[eu] at ev;cases ev;exact o.le_refl _⟩) ?_)
   ·rintro x c st3 hx1 hx ⟨p3,n,q,rfl,rfl,m1,m2,d3,q3⟩;have z3:=p3.pm.size
    try dsimp only
    refine wpS_bind (Zau hc (p3.pm.kind.trans hk) (p3.pm.ok ho) (by lia) (by lia) fun p1 p0 e1 e0=>?_);cases hb:lt p1 p0 with
    | true =>
     try dsimp only
     rw[if_pos rfl];by_cases q0:q > 0
     ·rw[if_pos q0];refine wpS_bind (Zbc ?_);have p4:=Pl.mirror (lo:=lo) (hi:=lo+nrem) (i:=lo+n-(q+1)) (j:=lo+n) st3 (by lia) (by lia) (by lia);have d4:=d3.turn q3 (by lia) (by lia);refine wpS_pure ⟨p3.trans p4,n+1,0,rfl,rfl,by lia,by lia,?_,fun x y u v a1 a2 a3 a4 eu ev=>by obtain rfl:x=y:=(by lia);rw[eu] at ev;cases ev;exact o.le_refl _⟩;obtain⟨p5,e5⟩:∃p5,(arrOf (setArr st3 (mirror (arrOf st3) (lo+n-(q+1)) (lo+n) ((lo+n-(lo+n-(q+1))) / 2))))[lo+n-1]?= some p5:=⟨_,getElem?_pos _ (lo+n-1) (by show _<(mirror _ _ _ _).size;rw[mirror_size];lia)⟩;refine d4.ext (m:=lo+n) o (by lia) e5 (q:=p1) ?_ ?_
      ·show(mirror (arrOf st3) (lo+n-(q+1)) (lo+n) ((lo+n-(lo+n-(q+1))) / 2))[lo+n]?= some p1;rw[getElem?_mirror_all (by lia),if_neg (by lia)];exact e1
      ·have e6:(mirror (arrOf st3) (lo+n-(q+1)) (lo+n) ((lo+n-(lo+n-(q+1))) / 2))[lo+n-1]?= some p5:=e5;rw[getElem?_mirror_all (by lia),if_pos (by lia)] at e6;exact o.le_trans (o.le_of hb) (q3 _ _ p0 p5 (show lo+n-(q+1)<=lo+n-1 by lia) (by lia) (by lia) (by lia) e0 e6)
     ·rw[if_neg q0];exact wpS_pure ⟨p3,n+1,0,rfl,rfl,by lia,by lia,d3.ext (m:=lo+n) o (by lia) e0 e1 (o.le_of hb),fun x y u v a1 a2 a3 a4 eu ev=>by obtain rfl:x=y:=(by lia);rw[eu] at ev;cases ev;exact o.le_refl _⟩
    | false =>
     try dsimp only
     rw[if_neg Bool.false_ne_true];refine wpS_bind (Zau hc (p3.pm.kind.trans hk) (p3.pm.ok ho) (by lia) (by lia) fun p0' p1' e0' e1'=>?_);rw[e0] at e0';rw[e1] at e1';cases e0';cases e1';cases hb2:lt p0 p1 with
     | true=>exact wpS_pure ⟨p3,n,q,rfl,m1,by lia,m2,d3,q3⟩
     | false =>
      refine wpS_pure ⟨p3,n+1,q+1,rfl,rfl,by lia,by lia,d3.ext (m:=lo+n) o (by lia) e0 e1 hb2,fun x y u v a1 a2 a3 a4 eu ev=>?_⟩;have one:∀x u,lo+(n+1)-(q+1+1)<=x->x<lo+(n+1)->(arrOf st3)[x]?= some u->Le lt u p0/\Le lt p0 u:=fun x u a1 a2 eu=>by
       by_cases hx:x=lo+n
       ·rw[hx,e1] at eu;cases eu;exact⟨hb2,hb⟩
       ·exact⟨q3 x (lo+n-1) u p0 (by lia) (by lia) (by lia) (by lia) eu e0,q3 (lo+n-1) x p0 u (by lia) (by lia) (by lia) (by lia) e0 eu⟩
      exact o.le_trans (one x u a1 a2 eu).1 (one y v a3 a4 ev).2
   ·rintro c st3 ⟨p3,n',q,rfl,rfl,m1,m2,d3,q3⟩;exact⟨p3,_,q,rfl,m1,by lia,m2,d3,q3⟩
   ·rintro c st3 ⟨p3,n,q,rfl,m1,mn,m2,d3,q3⟩;have z3:=p3.pm.size
    try dsimp only
    by_cases q0:q > 0
    ·rw[if_pos q0];refine wpS_bind (Zbc ?_);have p4:=Pl.mirror (lo:=lo) (hi:=lo+nrem) (i:=lo+n-(q+1)) (j:=lo+n) st3 (by lia) (by lia) (by lia);have d4:=d3.turn q3 (by lia) (by lia);have z4:=p4.pm.size;generalize hst4:setArr st3 (mirror (arrOf st3) (lo+n-(q+1)) (lo+n) ((lo+n-(lo+n-(q+1))) / 2))=st4 at p4 z4;have d5:Dn lt (arrOf st4) lo (lo+n):=by rw[<- hst4];exact d4
     refine wpS_bind (Zbc ?_);have p6:=(p3.trans p4).trans (Pl.mirror (lo:=lo) (hi:=lo+nrem) (i:=lo) (j:=lo+n) st4 (by lia) (by lia) (by lia));have u6:Up lt (arrOf (setArr st4 (mirror (arrOf st4) lo (lo+n) ((lo+n-lo) / 2)))) lo (lo+n):=d5.mirror (by lia);have z6:=p6.pm.size;generalize setArr st4 (mirror (arrOf st4) lo (lo+n) ((lo+n-lo) / 2))=st5 at p6 u6 z6;refine wpS_bind (wpS_mono (wpS_forRange (I:=fun x c st'=>st'=st5/\∃k,c=(none,k)/\k=x/\Up lt (arrOf st5) lo (lo+k)) (Q:=fun c st'=>st'=st5/\∃k,c=(none,k)/\n<=k/\k<=nrem/\Up lt (arrOf st5) lo (lo+k)) ?_ ?_ ⟨rfl,n,rfl,rfl,u6⟩) ?_)
     ·rintro x c st7 hx1 hx2 ⟨rfl,k,rfl,rfl,u7⟩
      try dsimp only
      refine wpS_bind (Zau hc (p6.pm.kind.trans hk) (p6.pm.ok ho) (by lia) (by lia) fun p q e1 e2=>?_);cases hb:lt p q with
      | true=>exact wpS_pure ⟨rfl,k,rfl,by lia,by lia,u7⟩
      | false=>exact wpS_pure ⟨rfl,k+1,rfl,rfl,u7.ext (m:=lo+k) o (by lia) e2 e1 hb⟩
     ·rintro c st7 ⟨rfl,k,rfl,rfl,u7⟩;exact⟨rfl,max n nrem,rfl,by lia,by lia,u7⟩
     ·rintro c st7 ⟨rfl,k,rfl,k1,k2,u7⟩;exact wpS_pure (h k _ (by lia) k2 p6 u7)
    ·rw[if_neg q0];refine wpS_bind (Zbc ?_);have p6:=p3.trans (Pl.mirror (lo:=lo) (hi:=lo+nrem) (i:=lo) (j:=lo+n) st3 (by lia) (by lia) (by lia));have u6:Up lt (arrOf (setArr st3 (mirror (arrOf st3) lo (lo+n) ((lo+n-lo) / 2)))) lo (lo+n):=d3.mirror (by lia);have z6:=p6.pm.size;generalize setArr st3 (mirror (arrOf st3) lo (lo+n) ((lo+n-lo) / 2))=st5 at p6 u6 z6;refine wpS_bind (wpS_mono (wpS_forRange (I:=fun x c st'=>st'=st5/\∃k,c=(none,k)/\k=x/\Up lt (arrOf st5) lo (lo+k)) (Q:=fun c st'=>st'=st5/\∃k,c=(none,k)/\n<=k/\k<=nrem/\Up lt (arrOf st5) lo (lo+k)) ?_ ?_ ⟨rfl,n,rfl,rfl,u6⟩) ?_)
     ·rintro x c st7 hx1 hx2 ⟨rfl,k,rfl,rfl,u7⟩
      try dsimp only
      refine wpS_bind (Zau hc (p6.pm.kind.trans hk) (p6.pm.ok ho) (by lia) (by lia) fun p q e1 e2=>?_);cases hb:lt p q with
      | true=>exact wpS_pure ⟨rfl,k,rfl,by lia,by lia,u7⟩
      | false=>exact wpS_pure ⟨rfl,k+1,rfl,rfl,u7.ext (m:=lo+k) o (by lia) e2 e1 hb⟩
     ·rintro c st7 ⟨rfl,k,rfl,rfl,u7⟩;exact⟨rfl,max n nrem,rfl,by lia,by lia,u7⟩
     ·rintro c st7 ⟨rfl,k,rfl,k1,k2,u7⟩;exact wpS_pure (h k _ (by lia) k2 p6 u7)
end
theorem Zjr:∀{l:List (Nat×Nat×Nat)}{lo hi:Nat},Cov l lo hi->∀z∈l,lo<=z.1
 | [],_,_,_,z,hz=>(nomatch hz)
 | x::r,lo,hi,⟨a,b,c⟩,z,hz=>by
  rcases List.mem_cons.mp hz with rfl|hz
  ·lia
  ·have:=Zjr c z hz;lia
theorem ZkE:∀{l:List (Nat×Nat×Nat)}{lo hi:Nat},Cov l lo hi->∀z∈l,z.1+z.2.1<=hi
 | [],_,_,_,z,hz=>(nomatch hz)
 | x::r,lo,hi,⟨a,b,c⟩,z,hz=>by
  rcases List.mem_cons.mp hz with rfl|hz
  ·have:=c.le;lia
  ·exact ZkE c z hz
theorem ZeA:∀{l:List (Nat×Nat×Nat)}{i lo hi sa na p sb nb q:Nat},Cov l lo hi->l[i]?= some (sa,na,p)->l[i+1]?= some (sb,nb,q) ->
  ∀z∈(l.set i (sa,na+nb,p)).eraseIdx (i+1),z=(sa,na+nb,p)\/z∈l/\(z.1+z.2.1<=sa\/sb+nb<=z.1)
 | x::y::r,0,lo,hi,sa,na,p,sb,nb,q,⟨a,b,c1,c2,c3⟩,h1,h2,z,hz=>by
  have e1:x=(sa,na,p):=by simpa using h1
  have e2:y=(sb,nb,q):=by simpa using h2
  subst e1;subst e2;have hz':z∈(sa,na+nb,p)::r:=hz;rcases List.mem_cons.mp hz' with hz|hz
  ·exact .inl hz
  ·refine .inr ⟨List.mem_cons_of_mem _ (List.mem_cons_of_mem _ hz),.inr ?_⟩;have:=Zjr c3 z hz;have c1':sb=lo+na:=c1;have this':lo+na+nb<=z.1:=this;lia
 | x::r,i+1,lo,hi,sa,na,p,sb,nb,q,⟨a,b,c⟩,h1,h2,z,hz=>by
  have h1':r[i]?= some (sa,na,p):=by simpa using h1
  have hz':z∈x::((r.set i (sa,na+nb,p)).eraseIdx (i+1)):=hz;rcases List.mem_cons.mp hz' with rfl|hz
  ·refine .inr ⟨List.mem_cons_self ..,.inl ?_⟩;have:=Zjr c _ (List.mem_of_getElem? h1');have this':lo+z.2.1<=sa:=this;lia
  ·rcases ZeA (l:=r) (i:=i) c h1' (by simpa using h2) z hz with h|⟨h,h'⟩
   ·exact .inl h
   ·exact .inr ⟨List.mem_cons_of_mem _ h,h'⟩
 | [x],0,_,_,_,_,_,_,_,_,_,_,h2,_,_=>by simp at h2
 | [],_,_,_,_,_,_,_,_,_,_,h1,_,_,_=>by simp at h1
theorem ZhQ{L r:List Keyed}{m:Nat}(h:m+r.length<=L.length)(x:Nat):(L.take m++r++L.drop (m+r.length))[x]?= if x<m then L[x]? else if x<m+r.length then r[x-m]? else L[x]? := by
 have hm:(L.take m).length=m:=by rw[List.length_take];lia
 by_cases h1:x<m
 ·rw[if_pos h1,List.append_assoc,List.getElem?_append_left (by lia),List.getElem?_take_of_lt h1]
 rw[if_neg h1];by_cases h2:x<m+r.length
 ·rw[if_pos h2,List.getElem?_append_left (by rw[List.length_append];lia),List.getElem?_append_right (by lia),hm]
 ·rw[if_neg h2,List.getElem?_append_right (by rw[List.length_append];lia),List.getElem?_drop,List.length_append,hm]
  congr 1
  lia
section
variable{lt:Keyed->Keyed->Bool}{κ : SortKind}
structure SBL(lt:Keyed->Keyed->Bool)(a₀ : Array Keyed)(κ : SortKind)(hi:Nat)(st:SortSt):Prop where
 sb:SB a₀ κ hi st
 ups:∀z∈(pendingOf st).toList,Up lt (arrOf st) z.1 (z.1+z.2.1)
theorem Up.same{arr arr':Array Keyed}{i j:Nat}(h:Up lt arr i j)(e:∀x,i<=x->x<j->arr'[x]?= arr[x]?):Up lt arr' i j:=fun x y p q h1 h2 h3 ep eq=>by
 rw[e x (by lia) (by lia)] at ep;rw[e y (by lia) (by lia)] at eq;exact h x y p q h1 h2 h3 ep eq
theorem SBL.pl{a₀ : Array Keyed}{hi hi':Nat}{st st':SortSt}(x:SBL lt a₀ κ hi st)(p:Pl hi hi' st st'):SBL lt a₀ κ hi st':=⟨x.sb.pm p.pm,fun z hz=>by
 rw[p.pm.pend] at hz;have h1:=ZkE x.sb.cov z hz;exact(x.ups z hz).same fun i _ h=>p.out i (.inl (by lia))⟩
end
section
variable{prog:Program}{w:World}{A:Around}{E:Value->Shared->Prop}{s:Shared}{κ : SortKind}{Ok:Keyed->Prop}{st:SortSt}{lt:Keyed->Keyed->Bool}
set_option maxHeartbeats 4000000 in
theorem ZbX{a₀ : Array Keyed}{hi i:Nat}{Q:Bool->SortSt->Prop}(o:Swo lt)(hc:Zhy prog w A s κ Ok lt)(h0:∀p∈a₀.toList,Ok p)(hL:SBL lt a₀ κ hi st)(hh:hi<=a₀.size)(hi1:i+1<(pendingOf st).size)
  (h:∀st',SBL lt a₀ κ hi st'->(∀x,hi<=x->(arrOf st')[x]?= (arrOf st)[x]?)->(pendingOf st').size+1=(pendingOf st).size->Q true st'):wpS (model prog w) A E s (mergeAt' i) Q st:=by
 have hB:=hL.sb;refine wpS_bind (wpS_get ?_);obtain⟨⟨sa,na,p⟩,e1⟩:∃x,(pendingOf st)[i]?= some x:=⟨_,getElem?_pos _ i (by lia)⟩;obtain⟨⟨sb,nb,q⟩,e2⟩:∃x,(pendingOf st)[i+1]?= some x:=⟨_,getElem?_pos _ (i+1) hi1⟩;obtain⟨k1,k2,k3,k4,k5⟩:=hB.cov.at (i:=i) (by rw[<- e1];simp) (by rw[<- e2];simp);have e3:((pendingOf st)[i]?,(pendingOf st)[i+1]?)=(some (sa,na,p),some (sb,nb,q)):=by rw[e1,e2]
 have hsz:=hB.size;have l1:(pendingOf st).toList[i]?= some (sa,na,p):=by rw[<- e1];simp
 have l2:(pendingOf st).toList[i+1]?= some (sb,nb,q):=by rw[<- e2];simp
 have ua:Up lt (arrOf st) sa (sa+na):=hL.ups _ (List.mem_of_getElem? l1);have ub:Up lt (arrOf st) sb (sb+nb):=hL.ups _ (List.mem_of_getElem? l2);have oth:=ZeA hB.cov l1 l2;show wpS _ _ _ _ (match ((pendingOf st)[i]?,(pendingOf st)[i+1]?) with|(some (sa,na,power),some (sb,nb,_))=>_|_=>_) Q st
 rw[e1,e2];dsimp only;have hpl:(((pendingOf st).setIfInBounds i (sa,na+nb,p)).eraseIdxIfInBounds (i+1)).toList=((pendingOf st).toList.set i (sa,na+nb,p)).eraseIdx (i+1):=by
  simp
 have hps:((((pendingOf st).setIfInBounds i (sa,na+nb,p)).eraseIdxIfInBounds (i+1)).size+1=(pendingOf st).size):=by
  have:=congrArg List.length hpl;rw[Array.length_toList,List.length_eraseIdx,List.length_set,Array.length_toList,if_pos hi1] at this;lia
 have hB1:SB a₀ κ hi (SortSt.mk' (kindOf st) (arrOf st) (((pendingOf st).setIfInBounds i (sa,na+nb,p)).eraseIdxIfInBounds (i+1)) (gallopOf st) (failedOf st)):=⟨hB.arr,hB.kind,hB.fail,by
  show Cov (((pendingOf st).setIfInBounds i (sa,na+nb,p)).eraseIdxIfInBounds (i+1)).toList 0 hi;rw[hpl];exact k5⟩
 have hok:=hB.ok h0;have fin:∀st':SortSt,SB a₀ κ hi st'->(pendingOf st').toList=((pendingOf st).toList.set i (sa,na+nb,p)).eraseIdx (i+1)->(∀x,x<sa\/sb+nb<=x->(arrOf st')[x]?= (arrOf st)[x]?)->Up lt (arrOf st') sa (sa+(na+nb))->SBL lt a₀ κ hi st':=fun st' hB' hp he hu=>⟨hB',fun z hz=>by
  rw[hp] at hz;rcases oth z hz with rfl|⟨hz,hd⟩
  ·exact hu
  ·exact(hL.ups z hz).same fun x h1 h2=>he x (by lia)⟩
 have exm:∀(arr:Array Keyed)(x y:Nat){p:Keyed},p∈(arr.extract x y).toList->p∈arr.toList:=fun arr x y p hp=>by
  rw[Array.toList_extract,List.extract_eq_drop_take] at hp;exact List.mem_of_mem_drop (List.mem_of_mem_take hp)
 refine wpS_bind (ZlC ?_);refine wpS_bind (ZG (arr:=arrOf st) (by lia) fun p1 m1 ep1=>?_);refine wpS_bind (Zax (a:=arrOf st) o hc hB1.kind (hok p1 m1) hok (by lia) (by lia) ua fun k hk F1 F2=>?_);dsimp only;have low1:∀i u,i<k->(arrOf st)[sa+i]?= some u->Le lt u p1:=fun i u hi eu=>by
  have h3:=F1 i hi;unfold BV at h3;rw[eu] at h3;have h4:(!lt p1 u)=true:=h3;show lt p1 u=false
  simpa using h4
 have hig1:∀i u,k<=i->i<na->(arrOf st)[sa+i]?= some u->Le lt p1 u:=fun i u h1 h2 eu=>by
  have h3:=F2 i h1 h2;unfold BV at h3;rw[eu] at h3;have h4:(!lt p1 u)=false:=h3;exact o.le_of (by simpa using h4)
 have p1le:∀y v,sb<=y->y<sb+nb->(arrOf st)[y]?= some v->Le lt p1 v:=fun y v h1 h2 ev=>by
  by_cases e:y=sb
  ·rw[e,ep1] at ev;cases ev;exact o.le_refl _
  ·exact ub sb y p1 v (by lia) (by lia) h2 ep1 ev
 by_cases c1:(na-k == 0)=true
 ·rw[if_pos c1];have ek:k=na:=by
   have:=eq_of_beq c1;lia
  refine wpS_pure (h _ (fin _ hB1 hpl (fun _ _=>rfl) ?_) (fun _ _=>rfl) hps);intro x y u v a1 a2 a3 eu ev;have eu':(arrOf st)[x]?= some u:=eu;have ev':(arrOf st)[y]?= some v:=ev;by_cases hy:y<sb
  ·exact ua x y u v a1 a2 (by lia) eu' ev'
  by_cases hx:sb<=x
  ·exact ub x y u v hx a2 (by lia) eu' ev'
  exact o.le_trans (low1 (x-sa) u (by lia) (by rw[show sa+(x-sa)=x by lia];exact eu')) (p1le y v (by lia) (by lia) ev')
 rw[if_neg c1];have n1 : ¬ na-k=0:=fun e=>c1 (by simp[e]);refine wpS_bind (ZG (arr:=arrOf st) (by lia) fun p2 m2 ep2=>?_);refine wpS_bind (Zax (a:=arrOf st) o hc hB1.kind (hok p2 m2) hok (by lia) (by lia) ub fun nb' hnb G1 G2=>?_);dsimp only;have ep2':(arrOf st)[sb-1]?= some p2:=by
  rw[<- ep2]
  congr 1
  lia
 have lep2:∀x u,sa<=x->x<sb->(arrOf st)[x]?= some u->Le lt u p2:=fun x u h1 h2 eu=>by
  by_cases e:x=sb-1
  ·rw[e,ep2'] at eu;cases eu;exact o.le_refl _
  ·exact ua x (sb-1) u p2 h1 (by lia) (by lia) eu ep2'
 have low2:∀i u,i<nb'->(arrOf st)[sb+i]?= some u->Le lt u p2:=fun i u hi eu=>by
  have h3:=G1 i hi;unfold BV at h3;rw[eu] at h3;exact o.le_of h3
 have hig2:∀i u,nb'<=i->i<nb->(arrOf st)[sb+i]?= some u->Le lt p2 u:=fun i u h1 h2 eu=>by
  have h3:=G2 i h1 h2;unfold BV at h3;rw[eu] at h3;exact h3
 by_cases c2:(nb' == 0)=true
 ·rw[if_pos c2];have ek:nb'=0:=eq_of_beq c2;refine wpS_pure (h _ (fin _ hB1 hpl (fun _ _=>rfl) ?_) (fun _ _=>rfl) hps);intro x y u v a1 a2 a3 eu ev;have eu':(arrOf st)[x]?= some u:=eu;have ev':(arrOf st)[y]?= some v:=ev;by_cases hy:y<sb
  ·exact ua x y u v a1 a2 (by lia) eu' ev'
  by_cases hx:sb<=x
  ·exact ub x y u v hx a2 (by lia) eu' ev'
  exact o.le_trans (lep2 x u a1 (by lia) eu') (hig2 (y-sb) v (by lia) (by lia) (by rw[show sb+(y-sb)=y by lia];exact ev'))
 rw[if_neg c2];have n2 : ¬ nb'=0:=fun e=>c2 (by simp[e]);have xs:((arrOf st).extract (sa+k) sb).size=na-k:=by
  rw[Array.size_extract];lia
 have ys:((arrOf st).extract sb (sb+nb')).size=nb':=by
  rw[Array.size_extract];lia
 have SX:So lt ((arrOf st).extract (sa+k) sb).toList:=List.pairwise_iff_getElem.mpr fun x y hx hy hxy=>by
  rw[Array.length_toList] at hx hy;have ex:((arrOf st).extract (sa+k) sb)[x]?= (arrOf st)[sa+k+x]? := by rw[Array.getElem?_extract,if_pos (by lia)]
  have ey:((arrOf st).extract (sa+k) sb)[y]?= (arrOf st)[sa+k+y]? := by rw[Array.getElem?_extract,if_pos (by lia)]
  rw[<- Array.getElem?_toList,List.getElem?_eq_getElem (by rw[Array.length_toList];exact hx)] at ex;rw[<- Array.getElem?_toList,List.getElem?_eq_getElem (by rw[Array.length_toList];exact hy)] at ey;exact ua _ _ _ _ (by lia) (show sa+k+x<sa+k+y by lia) (by lia) ex.symm ey.symm
 have SY:So lt ((arrOf st).extract sb (sb+nb')).toList:=List.pairwise_iff_getElem.mpr fun x y hx hy hxy=>by
  rw[Array.length_toList] at hx hy;have ex:((arrOf st).extract sb (sb+nb'))[x]?= (arrOf st)[sb+x]? := by rw[Array.getElem?_extract,if_pos (by lia)]
  have ey:((arrOf st).extract sb (sb+nb'))[y]?= (arrOf st)[sb+y]? := by rw[Array.getElem?_extract,if_pos (by lia)]
  rw[<- Array.getElem?_toList,List.getElem?_eq_getElem (by rw[Array.length_toList];exact hx)] at ex;rw[<- Array.getElem?_toList,List.getElem?_eq_getElem (by rw[Array.length_toList];exact hy)] at ey;exact ub _ _ _ _ (by lia) (show sb+x<sb+y by lia) (by lia) ex.symm ey.symm
 have HB0:∀p,((arrOf st).extract sb (sb+nb'))[0]?= some p->∀y∈((arrOf st).extract (sa+k) sb).toList,Le lt p y:=fun p ep y hy=>by
  rw[Array.getElem?_extract,if_pos (by lia),Nat.add_zero,ep1] at ep;cases ep;obtain⟨m,h1,h2,e⟩:=ZbR hy;exact hig1 (m-sa) y (by lia) (by lia) (by rw[show sa+(m-sa)=m by lia];exact e)
 have HLA:∀x∈((arrOf st).extract sb (sb+nb')).toList,∀q,((arrOf st).extract (sa+k) sb)[((arrOf st).extract (sa+k) sb).size-1]?= some q->Le lt x q:=fun x hx q eq=>by
  rw[xs,Array.getElem?_extract,if_pos (by lia),show sa+k+(na-k-1)=sb-1 by lia,ep2'] at eq;cases eq;obtain⟨m,h1,h2,e⟩:=ZbR hx;exact low2 (m-sb) x (by lia) (by rw[show sb+(m-sb)=m by lia];exact e)
 have whole:∀(r:Array Keyed)(arr':Array Keyed),Rs lt ((arrOf st).extract (sa+k) sb) ((arrOf st).extract sb (sb+nb')) r->r.toList.length=(na-k)+nb'->arr'.toList=(arrOf st).toList.take (sa+k)++r.toList++(arrOf st).toList.drop (sa+k+r.toList.length) ->
   (∀x,x<sa\/sb+nb<=x->arr'[x]?= (arrOf st)[x]?)/\Up lt arr' sa (sa+(na+nb)):=fun r arr' hr hrl ha=>by
  have get:∀x,arr'[x]?= if x<sa+k then(arrOf st)[x]? else if x<sa+k+r.toList.length then r.toList[x-(sa+k)]? else(arrOf st)[x]? := fun x=>by
   rw[<- Array.getElem?_toList,ha,ZhQ (by have hll:(arrOf st).toList.length=(arrOf st).size:=Array.length_toList;lia),Array.getElem?_toList]
  have inr:∀u,u∈r.toList->(∃m,sa+k<=m/\m<sb/\(arrOf st)[m]?= some u)\/∃m,sb<=m/\m<sb+nb'/\(arrOf st)[m]?= some u:=fun u hu=>by
   rcases List.mem_append.mp (hr.perm.mem_iff.mp hu) with hu|hu
   ·exact .inl (ZbR hu)
   ·exact .inr (ZbR hu)
  refine⟨fun x hx=>?_,fun x y u v a1 a2 a3 eu ev=>?_⟩
  ·rw[get];by_cases h1:x<sa+k
   ·rw[if_pos h1]
   ·rw[if_neg h1,if_neg (by lia)]
  rw[get] at eu ev;by_cases hx1:x<sa+k
  ·rw[if_pos hx1] at eu;have hu1:=low1 (x-sa) u (by lia) (by rw[show sa+(x-sa)=x by lia];exact eu);by_cases hy1:y<sa+k
   ·rw[if_pos hy1] at ev;exact ua x y u v a1 a2 (by lia) eu ev
   rw[if_neg hy1] at ev;by_cases hy2:y<sa+k+r.toList.length
   ·rw[if_pos hy2] at ev;rcases inr v (List.mem_of_getElem? ev) with⟨m,b1,b2,e⟩|⟨m,b1,b2,e⟩
    ·exact ua x m u v a1 (by lia) (by lia) eu e
    ·exact o.le_trans hu1 (p1le m v b1 (by lia) e)
   ·rw[if_neg hy2] at ev;exact o.le_trans hu1 (p1le y v (by lia) (by lia) ev)
  rw[if_neg hx1] at eu;rw[if_neg (by lia)] at ev;by_cases hx2:x<sa+k+r.toList.length
  ·rw[if_pos hx2] at eu;by_cases hy2:y<sa+k+r.toList.length
   ·rw[if_pos hy2] at ev;obtain⟨hx3,rfl⟩:=List.getElem?_eq_some_iff.mp eu;obtain⟨hy3,rfl⟩:=List.getElem?_eq_some_iff.mp ev;exact(List.pairwise_iff_getElem.mp hr.sort) _ _ hx3 hy3 (by lia)
   ·rw[if_neg hy2] at ev;rcases inr u (List.mem_of_getElem? eu) with⟨m,b1,b2,e⟩|⟨m,b1,b2,e⟩
    ·exact o.le_trans (lep2 m u (by lia) b2 e) (hig2 (y-sb) v (by lia) (by lia) (by rw[show sb+(y-sb)=y by lia];exact ev))
    ·exact ub m y u v b1 (by lia) (by lia) e ev
  ·rw[if_neg hx2] at eu;rw[if_neg (by lia)] at ev;exact ub x y u v (by lia) a2 (by lia) eu ev
 by_cases c3:na-k<=nb'
 ·rw[if_pos c3];refine wpS_bind (Zfr (a:=(arrOf st).extract (sa+k) sb) (b:=(arrOf st).extract sb (sb+nb')) o hc hB1.kind (fun p hp=>hok p (exm _ _ _ hp)) (fun p hp=>hok p (exm _ _ _ hp)) (by rw[xs];lia) (by rw[ys];lia) SX SY HB0 HLA fun r st2 lk hr=>?_);refine wpS_bind (wpS_modify ?_);refine wpS_bind (wpS_get ?_);have hf:failedOf st2=none:=lk.fail.trans hB.fail;have hr2:r.toList.Perm (((arrOf st).toList.drop (sa+k)).take ((na-k)+nb')):=by
   refine hr.perm.trans (List.Perm.of_eq ?_);rw[Array.toList_extract,Array.toList_extract,ZkG _ (by lia) (by lia)]
   congr 1
   lia
  have hrl:r.toList.length=(na-k)+nb':=by
   rw[hr2.length_eq,List.length_take,List.length_drop,Array.length_toList];lia
  show wpS _ _ _ _ (pure (failedOf st2).isNone) Q _;rw[hf];have hnew:(List.foldl (fun(a:Array Keyed)(x:Keyed×Nat)=>a.setIfInBounds (sa+k+x.2) x.1) (arrOf st2) r.toList.zipIdx).toList=(arrOf st).toList.take (sa+k)++r.toList++(arrOf st).toList.drop (sa+k+r.toList.length):=by
   rw[lk.arr,Ziz _ _ _ (by show sa+k+r.toList.length<=(arrOf st).size;lia)]
  obtain⟨w1,w2⟩:=whole r _ hr hrl hnew;refine wpS_pure (h _ (fin _ ⟨?_,lk.kind.trans hB.kind,hf,?_⟩ (by show(pendingOf st2).toList=_;rw[lk.pend];exact hpl) w1 w2) (fun x hx=>w1 x (.inr (by lia))) ?_)
  ·show(List.foldl (fun(a:Array Keyed)(x:Keyed×Nat)=>a.setIfInBounds (sa+k+x.2) x.1) (arrOf st2) r.toList.zipIdx).toList.Perm a₀.toList;rw[hnew];exact(Zhp hr2 hrl).trans hB.arr
  ·show Cov (pendingOf st2).toList 0 hi;rw[lk.pend];exact hB1.cov
  ·show(pendingOf st2).size+1=_;rw[lk.pend];exact hps
 ·rw[if_neg c3];refine wpS_bind (ZfU (a:=(arrOf st).extract (sa+k) sb) (b:=(arrOf st).extract sb (sb+nb')) o hc hB1.kind (fun p hp=>hok p (exm _ _ _ hp)) (fun p hp=>hok p (exm _ _ _ hp)) (by rw[xs];lia) (by rw[ys];lia) SX SY HB0 HLA fun r st2 lk hr=>?_);refine wpS_bind (wpS_modify ?_);refine wpS_bind (wpS_get ?_);have hf:failedOf st2=none:=lk.fail.trans hB.fail;have hr2:r.toList.Perm (((arrOf st).toList.drop (sa+k)).take ((na-k)+nb')):=by
   refine hr.perm.trans (List.Perm.of_eq ?_);rw[Array.toList_extract,Array.toList_extract,ZkG _ (by lia) (by lia)]
   congr 1
   lia
  have hrl:r.toList.length=(na-k)+nb':=by
   rw[hr2.length_eq,List.length_take,List.length_drop,Array.length_toList];lia
  show wpS _ _ _ _ (pure (failedOf st2).isNone) Q _;rw[hf];have hnew:(List.foldl (fun(a:Array Keyed)(x:Keyed×Nat)=>a.setIfInBounds (sa+k+x.2) x.1) (arrOf st2) r.toList.zipIdx).toList=(arrOf st).toList.take (sa+k)++r.toList++(arrOf st).toList.drop (sa+k+r.toList.length):=by
   rw[lk.arr,Ziz _ _ _ (by show sa+k+r.toList.length<=(arrOf st).size;lia)]
  obtain⟨w1,w2⟩:=whole r _ hr hrl hnew;refine wpS_pure (h _ (fin _ ⟨?_,lk.kind.trans hB.kind,hf,?_⟩ (by show(pendingOf st2).toList=_;rw[lk.pend];exact hpl) w1 w2) (fun x hx=>w1 x (.inr (by lia))) ?_)
  ·show(List.foldl (fun(a:Array Keyed)(x:Keyed×Nat)=>a.setIfInBounds (sa+k+x.2) x.1) (arrOf st2) r.toList.zipIdx).toList.Perm a₀.toList;rw[hnew];exact(Zhp hr2 hrl).trans hB.arr
  ·show Cov (pendingOf st2).toList 0 hi;rw[lk.pend];exact hB1.cov
  ·show(pendingOf st2).size+1=_;rw[lk.pend];exact hps
end
section
variable{prog:Program}{w:World}{A:Around}{E:Value->Shared->Prop}{s:Shared}{κ : SortKind}{Ok:Keyed->Prop}{st:SortSt}{lt:Keyed->Keyed->Bool}
set_option maxHeartbeats 4000000 in
theorem ZiS{a₀ : Array Keyed}{Q:Unit->SortSt->Prop}(o:Swo lt)(hc:Zhy prog w A s κ Ok lt)(h0:∀p∈a₀.toList,Ok p)(hB:SBL lt a₀ κ 0 st)(h:∀st',(arrOf st').toList.Perm a₀.toList->So lt (arrOf st').toList->failedOf st'=none->Q () st'):wpS (model prog w) A E s sortRuns' Q st:=by
 refine wpS_bind (wpS_get ?_);have hsz:=hB.sb.size;show wpS _ _ _ _ (forIn [:(arrOf st).size] _ _ >>= _) Q st;rw[hsz];refine wpS_bind (wpS_mono (wpS_forRange (I:=fun x c st'=>∃lo,c=(none,lo)/\lo<=a₀.size/\SBL lt a₀ κ lo st'/\x<=lo) (Q:=fun c st'=>∃lo,c=(none,lo)/\lo=a₀.size/\SBL lt a₀ κ lo st') ?_ (fun c st' ⟨lo,z1,z2,z3,z4⟩=>⟨lo,z1,by lia,z3⟩) ⟨0,rfl,Nat.zero_le _,hB,Nat.le_refl _⟩) ?_)
 ·rintro x c st1 _ hx ⟨lo,rfl,hlo,hB1,hxl⟩
  try dsimp only
  by_cases c1:lo>=a₀.size
  ·rw[if_pos c1];exact wpS_pure ⟨lo,rfl,by lia,hB1⟩
  rw[if_neg c1];have hs1:=hB1.sb.size;refine wpS_bind (ZhE o hc hB1.sb.kind (hB1.sb.ok h0) (by lia) (by lia) fun n st2 n1 n2 p2 u2=>?_);have hB2:=hB1.pl p2;have hs2:=hB2.sb.size
  try dsimp only
  show wpS _ _ _ _ (if n<minRun' a₀.size a₀.size 0 then _ else _) _ st2
  by_cases c2:n<minRun' a₀.size a₀.size 0
  ·rw[if_pos c2];refine wpS_bind (wpS_lift (wpAny_rule ⟨rfl,?_⟩));refine wpS_bind (Zgk o hc hB2.sb.kind (hB2.sb.ok h0) (by show lo+min (a₀.size-lo) (minRun' a₀.size a₀.size 0)<=_;lia) (by show n<=min (a₀.size-lo) (minRun' a₀.size a₀.size 0);lia) (by show 1<=min (a₀.size-lo) (minRun' a₀.size a₀.size 0);lia) u2 fun st3 p3 u3=>?_);rw[if_neg (by decide)];have hB3:=hB2.pl p3;have u3':Up lt (arrOf st3) lo (lo+min (a₀.size-lo) (minRun' a₀.size a₀.size 0)):=u3;have hN:1<=min (a₀.size-lo) (minRun' a₀.size a₀.size 0):=by lia
   refine wpS_bind (wpS_get ?_);cases hb:(pendingOf st3).back? with
   | none =>
    dsimp only;refine wpS_bind (wpS_modify ?_);refine wpS_pure ⟨lo+min (a₀.size-lo) (minRun' a₀.size a₀.size 0),rfl,by lia,⟨⟨hB3.sb.arr,hB3.sb.kind,hB3.sb.fail,?_⟩,fun z hz=>?_⟩,by lia⟩
    ·show Cov ((pendingOf st3).push (lo,min (a₀.size-lo) (minRun' a₀.size a₀.size 0),0)).toList 0 (lo+min (a₀.size-lo) (minRun' a₀.size a₀.size 0));rw[Array.toList_push];exact hB3.sb.cov.push hN
    ·have hz':z∈((pendingOf st3).push (lo,min (a₀.size-lo) (minRun' a₀.size a₀.size 0),0)).toList:=hz;rw[Array.toList_push] at hz';rcases List.mem_append.mp hz' with hz'|hz'
     ·exact hB3.ups z hz'
     ·rw[List.mem_singleton.mp hz'];exact u3'
   | some t =>
    obtain⟨s1,n1,q⟩:=t;dsimp only;refine wpS_bind (wpS_mono (wpS_forRange (I:=fun _ c st'=>c=(none,())/\SBL lt a₀ κ lo st'/\∀x,lo<=x->(arrOf st')[x]?= (arrOf st3)[x]?) (Q:=fun c st'=>c=(none,())/\SBL lt a₀ κ lo st'/\∀x,lo<=x->(arrOf st')[x]?= (arrOf st3)[x]?) ?_ (fun _ _ z=>z) ⟨rfl,hB3,fun _ _=>rfl⟩) ?_)
    ·rintro y c st4 _ _ ⟨rfl,hB4,hO4⟩;refine wpS_bind (wpS_get ?_);by_cases g1:(pendingOf st4).size > 1
     ·rw[if_pos g1];obtain⟨⟨a1,a2,older⟩,e⟩:∃x,(pendingOf st4)[(pendingOf st4).size-2]?= some x:=⟨_,getElem?_pos _ _ (by lia)⟩;rw[e];dsimp only
      split
      ·exact wpS_pure ⟨rfl,hB4,hO4⟩
      ·refine wpS_bind (ZbX o hc h0 hB4 hlo (by show(pendingOf st4).size-2+1<(pendingOf st4).size;lia) fun st5 hB5 hO5 _=>?_);rw[if_neg (by decide)];exact wpS_pure ⟨rfl,hB5,fun x hx=>(hO5 x hx).trans (hO4 x hx)⟩
     ·rw[if_neg g1];exact wpS_pure ⟨rfl,hB4,hO4⟩
    ·rintro c st4 ⟨rfl,hB4,hO4⟩;dsimp only;refine wpS_bind (wpS_modify ?_);refine wpS_bind (wpS_modify ?_);refine wpS_pure ⟨lo+min (a₀.size-lo) (minRun' a₀.size a₀.size 0),rfl,by lia,⟨⟨hB4.sb.arr,hB4.sb.kind,hB4.sb.fail,?_⟩,fun z hz=>?_⟩,by lia⟩
     ·show Cov (Array.push ((pendingOf st4).modify _ _) (lo,min (a₀.size-lo) (minRun' a₀.size a₀.size 0),0)).toList 0 (lo+min (a₀.size-lo) (minRun' a₀.size a₀.size 0));rw[Array.toList_push,Array.toList_modify];refine Cov.push ?_ hN;refine Cov.last _ (fun x=>?_) _ hB4.sb.cov;exact⟨rfl,rfl⟩
     ·change z∈(Array.push ((pendingOf st4).modify _ _) (lo,min (a₀.size-lo) (minRun' a₀.size a₀.size 0),0)).toList at hz;rw[Array.toList_push,Array.toList_modify] at hz;rcases List.mem_append.mp hz with hz|hz
      ·obtain⟨i,hi⟩:=List.mem_iff_getElem?.mp hz;rw[List.getElem?_modify] at hi;obtain⟨z0,hz0,rfl⟩:=Option.map_eq_some_iff.mp hi;have h1:=hB4.ups z0 (List.mem_of_getElem? hz0)
       split
       ·exact h1
       ·exact h1
      ·rw[List.mem_singleton.mp hz];exact u3'.same fun x h1 _=>hO4 x h1
  ·rw[if_neg c2];have hB3:=hB2;have hN:=n1;have u3':=u2;refine wpS_bind (wpS_get ?_);cases hb:(pendingOf st2).back? with
   | none =>
    dsimp only;refine wpS_bind (wpS_modify ?_);refine wpS_pure ⟨lo+n,rfl,by lia,⟨⟨hB3.sb.arr,hB3.sb.kind,hB3.sb.fail,?_⟩,fun z hz=>?_⟩,by lia⟩
    ·show Cov ((pendingOf st2).push (lo,n,0)).toList 0 (lo+n);rw[Array.toList_push];exact hB3.sb.cov.push hN
    ·have hz':z∈((pendingOf st2).push (lo,n,0)).toList:=hz;rw[Array.toList_push] at hz';rcases List.mem_append.mp hz' with hz'|hz'
     ·exact hB3.ups z hz'
     ·rw[List.mem_singleton.mp hz'];exact u3'
   | some t =>
    obtain⟨s1,n1,q⟩:=t;dsimp only;refine wpS_bind (wpS_mono (wpS_forRange (I:=fun _ c st'=>c=(none,())/\SBL lt a₀ κ lo st'/\∀x,lo<=x->(arrOf st')[x]?= (arrOf st2)[x]?) (Q:=fun c st'=>c=(none,())/\SBL lt a₀ κ lo st'/\∀x,lo<=x->(arrOf st')[x]?= (arrOf st2)[x]?) ?_ (fun _ _ z=>z) ⟨rfl,hB3,fun _ _=>rfl⟩) ?_)
    ·rintro y c st4 _ _ ⟨rfl,hB4,hO4⟩;refine wpS_bind (wpS_get ?_);by_cases g1:(pendingOf st4).size > 1
     ·rw[if_pos g1];obtain⟨⟨a1,a2,older⟩,e⟩:∃x,(pendingOf st4)[(pendingOf st4).size-2]?= some x:=⟨_,getElem?_pos _ _ (by lia)⟩;rw[e];dsimp only
      split
      ·exact wpS_pure ⟨rfl,hB4,hO4⟩
      ·refine wpS_bind (ZbX o hc h0 hB4 hlo (by show(pendingOf st4).size-2+1<(pendingOf st4).size;lia) fun st5 hB5 hO5 _=>?_);rw[if_neg (by decide)];exact wpS_pure ⟨rfl,hB5,fun x hx=>(hO5 x hx).trans (hO4 x hx)⟩
     ·rw[if_neg g1];exact wpS_pure ⟨rfl,hB4,hO4⟩
    ·rintro c st4 ⟨rfl,hB4,hO4⟩;dsimp only;refine wpS_bind (wpS_modify ?_);refine wpS_bind (wpS_modify ?_);refine wpS_pure ⟨lo+n,rfl,by lia,⟨⟨hB4.sb.arr,hB4.sb.kind,hB4.sb.fail,?_⟩,fun z hz=>?_⟩,by lia⟩
     ·show Cov (Array.push ((pendingOf st4).modify _ _) (lo,n,0)).toList 0 (lo+n);rw[Array.toList_push,Array.toList_modify];refine Cov.push ?_ hN;refine Cov.last _ (fun x=>?_) _ hB4.sb.cov;exact⟨rfl,rfl⟩
     ·change z∈(Array.push ((pendingOf st4).modify _ _) (lo,n,0)).toList at hz;rw[Array.toList_push,Array.toList_modify] at hz;rcases List.mem_append.mp hz with hz|hz
      ·obtain⟨i,hi⟩:=List.mem_iff_getElem?.mp hz;rw[List.getElem?_modify] at hi;obtain⟨z0,hz0,rfl⟩:=Option.map_eq_some_iff.mp hi;have h1:=hB4.ups z0 (List.mem_of_getElem? hz0)
       split
       ·exact h1
       ·exact h1
      ·rw[List.mem_singleton.mp hz];exact u3'.same fun x h1 _=>hO4 x h1
 ·rintro c st1 ⟨lo,rfl,rfl,hB1⟩
  try dsimp only
  refine wpS_bind (wpS_mono (wpS_forRange (I:=fun x c st'=>c=(none,())/\SBL lt a₀ κ a₀.size st'/\(pendingOf st').size+x<=a₀.size+1) (Q:=fun c st'=>c=(none,())/\SBL lt a₀ κ a₀.size st'/\(pendingOf st').size<=1) ?_ (fun c st' ⟨z1,z2,z3⟩=>⟨z1,z2,by lia⟩) ⟨rfl,hB1,by have:=hB1.sb.cov.le;rw[Array.length_toList] at this;lia⟩) ?_)
  ·rintro x c st2 _ _ ⟨rfl,hB2,hp2⟩
   try dsimp only
   refine wpS_bind (wpS_get ?_)
   try dsimp only
   by_cases c2:(pendingOf st2).size<=1
   ·rw[if_pos c2];exact wpS_pure ⟨rfl,hB2,c2⟩
   ·rw[if_neg c2];have hx:∀b:Bool,(if b=true then(pendingOf st2).size-2-1 else(pendingOf st2).size-2)+1<(pendingOf st2).size:=fun b=>by
     cases b
     ·rw[if_neg Bool.false_ne_true];lia
     ·rw[if_pos rfl];lia
    refine wpS_bind (ZbX o hc h0 hB2 (Nat.le_refl _) (hx _) fun st3 hB3 _ hs3=>?_);rw[if_neg (by decide)];exact wpS_pure ⟨rfl,hB3,by lia⟩
  ·rintro c st2 ⟨rfl,hB2,hp2⟩;refine wpS_pure (h st2 hB2.sb.arr ?_ hB2.sb.fail);have hz2:=hB2.sb.size;have hcov:=hB2.sb.cov;have hups:=hB2.ups;have hpl:(pendingOf st2).toList.length<=1:=by rw[Array.length_toList];exact hp2
   match hl:(pendingOf st2).toList,hpl with
   | [],_ =>
    rw[hl] at hcov;have h0:0=a₀.size:=hcov;refine ZlU (n:=0) (fun x y _ _ _ _ h3=>by lia) (by lia)
   | [z],_ =>
    rw[hl] at hcov hups;obtain⟨z1,z2,z3⟩:=hcov;have z3':0+z.2.1=a₀.size:=z3;have hu:=hups z (List.mem_singleton.mpr rfl);rw[z1,z3'] at hu;exact ZlU hu (by lia)
end
end Srd
namespace Srd
open PySem PyProof.Rows Srt PySem.W
section
variable{prog:Program}{w:World}{A:Around}{E:Value->Shared->Prop}{s:Shared}
def Zd0(prog:Program)(w:World)(A:Around)(lv:Value->Value->Bool)(vs:List Value)(s:Shared):Prop :=
 ∃ κ,(∀(Q:SortKind->Shared->Prop)(E:Value->Shared->Prop),Q κ s->wpAny (model prog w) A (keyKind' vs.toArray) Q E s)/\Zhy prog w A s κ (fun p=>p∈(pairsOf vs).toList) fun x y=>lv x.1 y.1
theorem Zd3{vs:List Value}{p:Keyed}(h:p∈(pairsOf vs).toList):p.1=p.2:=by
 rw[pairsOf_toList] at h;obtain⟨i,hi⟩:=List.mem_iff_getElem?.mp h;rw[List.getElem?_zip_eq_some] at hi;have:=hi.1.symm.trans hi.2;exact Option.some.inj this
theorem ZkA{lt:Keyed->Keyed->Bool}{vs:List Value}(h:vs.length<2):So lt (pairsOf vs).toList:=List.pairwise_iff_getElem.mpr fun i j hi hj hij=>by
 rw[Array.length_toList,pairsOf_size] at hi hj;lia
theorem Zit{lv:Value->Value->Bool}{vs:List Value}{xs:Array Keyed}(hp:xs.toList.Perm (pairsOf vs).toList)(h:So (fun x y=>lv x.1 y.1) xs.toList):(xs.map (·.2)).toList.Pairwise (fun u v=>lv v u=false):=by
 rw[Array.toList_map,List.pairwise_map];refine List.Pairwise.imp_of_mem (fun{x y} hx hy hxy=>?_) h;have hxy':lv y.1 x.1=false:=hxy;rw[Zd3 (hp.mem_iff.mp hx),Zd3 (hp.mem_iff.mp hy)] at hxy';exact hxy'
theorem ZgU{lv:Value->Value->Bool}(o:Swo fun x y=>lv x.1 y.1){a:Addr}{vs:List Value}{n:Nat}{P:Fin->Shared->Prop}(ho:s.heap.get? a=some (seqObj "list" vs.toArray n)) (hlen:vs.length<=90000)
  (hc:∀h6:Heap,(∀b o,b≠a->s.heap.get? b=some o->h6.get? b=some o)->2<=vs.length->Zd0 prog w A lv vs { s with heap:=h6 })
  (h:∀out:Array Value,out.toList.Perm vs->out.toList.Pairwise (fun u v=>lv v u=false)->P (.done (.ret .none)) { s with heap:=sortedHeap s.heap a vs out }):wpAny (model prog w) A (Builtin.«list.sort» ⟨[.ref a],[]⟩) P E s:=by
 have hv:vs.toArray.size<=sizeLine:=by rw[List.size_toArray,sizeLine_eq];lia
 have ha:a<s.heap.objs.size:=Heap.lt_size ho;obtain⟨e1,ho1⟩:∃e1,(s.heap.update a (Obj.mapSeq fun _=>#[])).get? a=some (seqObj "list" #[] e1):=⟨_,get?_update_seq ho (fun _=>#[])⟩;rw[list_sort_plain];refine wpAny_bind (listItems_at ho rfl (wpAny_bind (listUpdate_at ho rfl (wpAny_bind (seqEpoch_at ho1 rfl (wpAny_bind (wpAny_newTuple (wpAny_bind (wpAny_newList (wpAny_holding ?_)))))))  hv (Nat.zero_le _))));have nT:a≠(s.heap.update a (Obj.mapSeq fun _=>#[])).objs.size:=by rw[Heap.size_update];exact Nat.ne_of_lt ha
 have nL:a≠((s.heap.update a (Obj.mapSeq fun _=>#[])).push (seqObj "tuple" vs.toArray 0)).objs.size:=by rw[size_push',Heap.size_update];exact Nat.ne_of_lt (Nat.lt_succ_of_lt ha)
 have ho6:(((s.heap.update a (Obj.mapSeq fun _=>#[])).push (seqObj "tuple" vs.toArray 0)).push (seqObj "list" #[] 0)).get? a=some (seqObj "list" #[] e1):=by
  rw[Heap.get?_push_ne _ _ _ nL,Heap.get?_push_ne _ _ _ nT];exact ho1
 have hkeep:∀b o,b≠a->s.heap.get? b=some o->(((s.heap.update a (Obj.mapSeq fun _=>#[])).push (seqObj "tuple" vs.toArray 0)).push (seqObj "list" #[] 0)).get? b=some o:=fun b o hb e=>by
  refine Heap.get?_push_of_some _ (Heap.get?_push_of_some _ ?_);rw[Heap.get?_update_other _ _ hb.symm];exact e
 show wpAny (model prog w) A _ P E { s with heap:=((s.heap.update a (Obj.mapSeq fun _=>#[])).push (seqObj "tuple" vs.toArray 0)).push (seqObj "list" #[] 0) };dsimp only;by_cases h2:vs.toArray.size<2
 ·rw[if_pos h2,if_pos h2];refine wpAny_bind (wpAny_pure ?_);rw[StateT.run_pure];refine wpAny_bind (wpAny_pure (wpAny_bind (seqEpoch_at ho6 rfl (wpAny_bind (listUpdate_at ho6 rfl ?_ (Nat.zero_le _) ?_)))))
  ·simp only[bne_self_eq_false,Bool.false_eq_true,if_false];exact wpAny_pure (h _ (ZfD (xs:=pairsOf vs) (List.Perm.refl _)) (Zit (xs:=pairsOf vs) (List.Perm.refl _) (ZkA (by rw[List.size_toArray] at h2;exact h2))))
  ·show((pairsOf vs).map (·.2)).size<=_;rw[Array.size_map,pairsOf_size,sizeLine_eq];lia
 ·rw[if_neg h2,if_neg h2];rw[List.size_toArray] at h2;obtain⟨κ,hkk,hcm⟩:=hc _ hkeep (by lia);refine wpAny_bind (hkk _ _ ?_);refine wpAny_bind (wpAny_mono (ZiS (a₀ := pairsOf vs) (Q:=fun _ st'=>(arrOf st').toList.Perm (pairsOf vs).toList/\So (fun x y=>lv x.1 y.1) (arrOf st').toList/\failedOf st'=none) o hcm (fun p hp=>hp) ⟨⟨List.Perm.refl _,rfl,rfl,rfl⟩,fun z hz=>(nomatch hz)⟩ fun st' a1 a3 a2=>⟨a1,a3,a2⟩) ?_ fun _ _ e=>e)
  rintro⟨⟨⟩,st'⟩ s' ⟨rfl,hp,hso,hf⟩;dsimp only;refine wpAny_bind (seqEpoch_at ho6 rfl (wpAny_bind (listUpdate_at ho6 rfl ?_ (Nat.zero_le _) ?_)))
  ·rw[hf];simp only[bne_self_eq_false,Bool.false_eq_true,if_false];exact wpAny_pure (h _ (ZfD hp) (Zit hp hso))
  ·have hp':(arrOf st').toList.Perm (pairsOf vs).toList:=hp;have:=hp'.length_eq;rw[Array.length_toList,Array.length_toList,pairsOf_size] at this;show((arrOf st').map (·.2)).size<=_;rw[Array.size_map,sizeLine_eq];lia
theorem Zgl{lv:Value->Value->Bool}(o:Swo fun x y=>lv x.1 y.1){v:Value}{C:List Value->Prop}{Q:Value->Shared->Prop}
  (hcol:∀(Q':List Value->Shared->Prop)(E':Value->Shared->Prop),(∀(ys:List Value)(h':Heap)(tk:Nat)(d:Drawn),(∀b o,s.heap.get? b=some o->h'.get? b=some o)->C ys->ys.length<=90000->s.heap.objs.size<=h'.objs.size->Q' ys { s with heap:=h',toks:=tk,drawn:=d })->wpAny (model prog w) A.in1 (collect v) Q' E' s)
  (hc:∀(ys:List Value)(h6:Heap)(tk:Nat)(d:Drawn),C ys->(∀b o,s.heap.get? b=some o->h6.get? b=some o)->2<=ys.length->Zd0 prog w A.in1.in1 lv ys { s with heap:=h6,toks:=tk,drawn:=d })
  (q:∀(p:Addr)(ys:List Value)(out:Array Value)(h':Heap)(tk:Nat)(d:Drawn)(c:Nat),C ys->out.toList.Perm ys->out.toList.Pairwise (fun u v=>lv v u=false)->(∀b o,s.heap.get? b=some o->h'.get? b=some o)->h'.get? p=some (seqObj "list" out c)->s.heap.objs.size<=p->out.size<=90000->Q (.ref p) { s with heap:=h',toks:=tk,drawn:=d }) :
  wpAny (model prog w) A (call (.builtin "sorted") [v]) Q E s:=by
 refine Calls.call_function_entry kind_sorted plain_sorted entry_sorted (args_sorted1 _) ?_;unfold Builtin.«sorted»;refine wpAny_bind (m:=checkCount "sorted" 1 1 _) (wpAny_pure (wpAny_bind (hcol _ _ fun ys h1 tk d k1 hC hyl hle=>wpAny_bind (wpAny_newList ?_ (by rw[sizeLine_eq];lia)))));have hoL:(h1.push (seqObj "list" ys.toArray 0)).get? h1.objs.size=some (seqObj "list" ys.toArray 0):=Heap.get?_push_size _ rfl;have keep:∀b o,s.heap.get? b=some o->(h1.push (seqObj "list" ys.toArray 0)).get? b=some o:=fun b o e=>Heap.get?_push_of_some _ (k1 b o e);have hbp:∀b o,s.heap.get? b=some o->h1.objs.size≠b:=fun b o e=>Nat.ne_of_gt (Nat.lt_of_lt_of_le (Heap.lt_size e) hle);change wpAny _ _ _ _ _ { s with heap:=h1.push (seqObj "list" ys.toArray 0),toks:=tk,drawn:=d };refine wpAny_bind (wpAny_holding (wpAny_call_entry slot_list_sort ⟨_,hoL,rfl⟩ entry_list_sort (ZgU (s:={ s with heap:=h1.push (seqObj "list" ys.toArray 0),toks:=tk,drawn:=d }) o hoL (by lia) (fun h6 k6 h2=>hc ys h6 tk d hC (fun b o e=>k6 b o (hbp b o e).symm (keep b o e)) h2) fun out hp hso=>⟨_,rfl,?_⟩) (args_list_sort _)));generalize h1.push (seqObj "list" ys.toArray 0)=h5 at hoL keep;obtain⟨e1,ho1⟩:∃e1,(h5.update h1.objs.size (Obj.mapSeq fun _=>#[])).get? h1.objs.size=some (seqObj "list" #[] e1):=⟨_,get?_update_seq hoL (fun _=>#[])⟩;have ho6:=Heap.get?_push_of_some (seqObj "list" #[] 0) (Heap.get?_push_of_some (seqObj "tuple" ys.toArray 0) ho1);have hol:out.size<=90000:=by rw[<- Array.length_toList,hp.length_eq];exact hyl
 refine wpAny_pure ⟨_,rfl,q h1.objs.size ys out (sortedHeap h5 h1.objs.size ys out) tk d _ hC hp hso (fun b o e=>?_) (get?_update_seq ho6 (fun _=>out)) hle hol⟩;unfold sortedHeap;rw[Heap.get?_update_other _ _ (hbp b o e)];refine Heap.get?_push_of_some _ (Heap.get?_push_of_some _ ?_);rw[Heap.get?_update_other _ _ (hbp b o e)];exact keep b o e
end
section
variable{prog:Program}{w:World}{A:Around}{E:Value->Shared->Prop}{s:Shared}{T:String}{r d:Addr}{n:Nat}{P:Nat->Value->Prop}{OK:Heap->Prop}
theorem ZdW{Q:List Value->Shared->Prop}(K:KdlSrc prog w T r d n P OK)(hh:A.handled=none)(hok:OK s.heap)(hn:n<=sizeLine)
  (q:∀(acc:Array Value)(h':Heap)(tk:Nat),(∀b o,s.heap.get? b=some o->h'.get? b=some o)->ItemsOf P acc n->s.heap.objs.size<=h'.objs.size->Q acc.toList { s with heap:=h',toks:=tk }):wpAny (model prog w) A (collect (.ref r)) Q E s:=by
 unfold collect;refine wpAny_bind (wpAny_runValue (codeAny_builtin entry_proto_collect' ?_));change wpAny _ _ (do again (.builtin "list.__iadd__" ⟨[<- newList [],.ref r],[]⟩)) _ _ s;refine wpAny_bind (wpAny_newList (wpAny_pure ⟨Code.quiet_builtin _ (by decide +kernel),codeAny_builtin entry_list_iadd' ?_⟩));change wpAny _ A.in1 (Builtin.List.listExtendWith (.ref s.heap.objs.size) (.ref r) (.ref s.heap.objs.size)) _ _ { s with heap:=s.heap.push (seqObj "list" #[] 0) };have hlt:=K.there _ hok;refine kdl_extend (R:=wants (fun v s'=>wpAny (model prog w) A (match v with
     | Value.ref a=>do
      let o <- load a
      match o.data with
      | .seq xs _=>pure xs.toList
      | _=>unsupported "internal:collect"
     | _=>unsupported "internal:collect") Q E s') E) (s:={ s with heap:=s.heap.push (seqObj "list" #[] 0) }) K hh (K.keep _ _ hok fun b _ o e=>Heap.get?_push_of_some _ e) s.heap.objs.size (Nat.ne_of_gt hlt.1) (Nat.ne_of_gt hlt.2) _ 0 (Heap.get?_push_size _ rfl) (fun h' tk acc c kp hS hit=>?_) hn
 refine wpAny_bind (wpAny_load hS ?_);refine wpAny_pure ?_;exact q acc h' tk (fun b o e=>kp b o (Nat.ne_of_lt (Heap.lt_size e)) (Heap.get?_push_of_some _ e)) hit (Nat.le_of_lt (Heap.lt_size hS))
end
end Srd
namespace Srd
open PySem PyProof.Rows
theorem ZfI:typeLookup (.type "list") "keys" = pure none:=by rw[typeLookup_type,builtinLookup_eq_fast];kernel_rfl
theorem Zbq:isSubtype (.type "AttributeError") (.type "AttributeError")=pure true:=by rw[isSubtype_type];kernel_rfl
section
variable{prog:Program}{w:World}{A:Around}{E:Value->Shared->Prop}{h:Heap}{g:Array GenState}{d:Drawn}{t:Nat}{os:OsState}{a:Addr}
theorem ZhT{α : Type}{Q : α -> Shared->Prop}{o:Value}{name msg:Str}(hh:A.handled=none)(hm:msg.length<=sizeLine)(hq:∀(x:Addr) (h':Heap) (tk:Nat),(∀b u,h.get? b=some u->h'.get? b=some u)->(∃ob,h'.get? x=some ob/\ob.cls=.type "AttributeError")->h.objs.size<=h'.objs.size->E (.ref x) ⟨h',g,d,tk,os⟩) :
  wpAny (model prog w) A (raiseAttrError o name msg:Sem α) Q E ⟨h,g,d,t,os⟩:=by
 unfold raiseAttrError
 repeat (any_goals (first|assumption|wp_step))
 refine wpAny_of_eq Zbq ?_;rw[if_neg (by decide)];generalize hfa:(if((Manifest.find? "AttributeError").elim false fun t=>t.mro.contains "StopIteration" || t.mro.contains "SystemExit")=true then [Value.str msg t].headD Value.none else Value.none)=fa
 have k1:∀b u,h.get? b=some u->(h.push { cls:=Value.type "tuple",data:=Data.seq #[Value.str msg t] }).get? b=some u:=fun b u e=>Heap.get?_push_of_some _ e;have z1:(h.push { cls:=Value.type "tuple",data:=Data.seq #[Value.str msg t] }).objs.size=h.objs.size+1:=Heap.size_push ..;generalize h.push { cls:=Value.type "tuple",data:=Data.seq #[Value.str msg t] }=h1 at k1 z1;have e1:(h1.push { cls:=Value.type "AttributeError",data:=Data.fields (#[Value.ref h.objs.size,Value.none,Value.none,Value.none,Value.bool false,fa]++ownMembersOf (Value.type "AttributeError") [Value.str msg t]) }).get? h1.objs.size=some { cls:=Value.type "AttributeError",data:=Data.fields (#[Value.ref h.objs.size,Value.none,Value.none,Value.none,Value.bool false,fa]++ownMembersOf (Value.type "AttributeError") [Value.str msg t]) }:=Heap.get?_push_size _ rfl;have k2:∀b u,h.get? b=some u->(h1.push { cls:=Value.type "AttributeError",data:=Data.fields (#[Value.ref h.objs.size,Value.none,Value.none,Value.none,Value.bool false,fa]++ownMembersOf (Value.type "AttributeError") [Value.str msg t]) }).get? b=some u:=fun b u e=>Heap.get?_push_of_some _ (k1 b u e);have z2:(h1.push { cls:=Value.type "AttributeError",data:=Data.fields (#[Value.ref h.objs.size,Value.none,Value.none,Value.none,Value.bool false,fa]++ownMembersOf (Value.type "AttributeError") [Value.str msg t]) }).objs.size=h1.objs.size+1:=Heap.size_push ..;generalize h1.push { cls:=Value.type "AttributeError",data:=Data.fields (#[Value.ref h.objs.size,Value.none,Value.none,Value.none,Value.bool false,fa]++ownMembersOf (Value.type "AttributeError") [Value.str msg t]) }=h2 at e1 k2 z2;refine wpAny_bind (wpAny_load e1 ?_);dsimp only;have v6:(#[Value.ref h.objs.size,Value.none,Value.none,Value.none,Value.bool false,fa]++ownMembersOf (Value.type "AttributeError") [Value.str msg t])[6]?= some unsetMember:=rfl;have v7:(#[Value.ref h.objs.size,Value.none,Value.none,Value.none,Value.bool false,fa]++ownMembersOf (Value.type "AttributeError") [Value.str msg t])[7]?= some unsetMember:=rfl;refine wpAny_ite_split (fun hab=>absurd hab (by rw[v6,v7];decide)) (fun _=>wpAny_ite_split (fun hab=>absurd hab (by rw[v6,v7];decide)) (fun _=>wpAny_pure ?_));rw[if_pos rfl];refine wpAny_bind (wpAny_rule (wpAny_bind (wpAny_typeOf (T := "AttributeError") ⟨_,e1,rfl⟩ ?_)));dsimp only;unfold layMembers;refine wpAny_bind (wpAny_load e1 ?_);dsimp only;refine wpAny_update e1 ?_;unfold raiseNew;refine wpAny_bind (wpAny_handled ?_);rw[hh];refine wpAny_throw (hq _ _ _ (fun b u e=>?_) ?_ ?_)
 ·rw[Heap.get?_update_other _ _ (show h1.objs.size≠b from fun z=>?_)]
  ·exact k2 b u e
  ·have:=Heap.lt_size e;have h3:h1.objs.size<h.objs.size:=z ▸ this;lia
 ·exact⟨_,Heap.get?_update_self _ e1 rfl,rfl⟩
 ·rw[Heap.size_update];show h.objs.size<=h2.objs.size;lia
theorem ZdM{tk:Tok}{Q:Fin->Shared->Prop}{its:Array Value}{n:Nat}{sl:Array (Option Value)}(hh:A.handled=none)(hx:h.get? a=some { cls:=.type "list",dict:=none,data:=.seq its n,slots:=sl }) (hq:∀(x:Addr)(h':Heap)(tk:Nat),(∀b u,h.get? b=some u->h'.get? b=some u)->(∃ob,h'.get? x=some ob/\ob.cls=.type "AttributeError")->h.objs.size<=h'.objs.size->E (.ref x) ⟨h',g,d,tk,os⟩) :
  wpAny (model prog w) A (Builtin.«object.__getattribute__» ⟨[.ref a,.str "keys" tk],[]⟩) Q E ⟨h,g,d,t,os⟩:=by
 have hT:(⟨h,g,d,t,os⟩:Shared).TypeIs (.ref a) "list" := ⟨_,hx,rfl⟩;have f4:=ZfI
 repeat (any_goals (first|assumption|with_reducible apply ZhT hh|wp_step))
 decide +kernel
theorem Zd4:typeLookup (.type "list") "__getattr__" = pure none:=by rw[typeLookup_type,builtinLookup_eq_fast];kernel_rfl
theorem Zei{tk:Tok}{R:Result->Shared->Prop}{its:Array Value}{n:Nat}{sl:Array (Option Value)}(hh:A.handled=none)(hx:h.get? a=some { cls:=.type "list",dict:=none,data:=.seq its n,slots:=sl }) (hq:∀(x:Addr)(h':Heap)(tk:Nat),(∀b u,h.get? b=some u->h'.get? b=some u)->(∃ob,h'.get? x=some ob/\ob.cls=.type "AttributeError")->h.objs.size<=h'.objs.size->R (.error (.ref x)) ⟨h',g,d,tk,os⟩) :
  codeAny (model prog w) A (.call (.builtin "list.__getattribute__") ⟨[.ref a,.str "keys" tk],[]⟩) R ⟨h,g,d,t,os⟩ :=
 codeAny_call_builtin F.slot_list_getattribute.plain F.entry_list_ga (F.slot_list_getattribute.check _ _ _ _ _ _ _ _ (show(⟨h,g,d,t,os⟩:Shared).TypeIs (.ref a) "list" from⟨_,hx,rfl⟩) (F.args_list_getattribute_2 _ _) (ZdM hh hx hq))
theorem ZfN{tk:Tok}{Q:Value->Shared->Prop}{its:Array Value}{n:Nat}{sl:Array (Option Value)}(hh:A.handled=none)(hx:h.get? a=some { cls:=.type "list",dict:=none,data:=.seq its n,slots:=sl }) (hq:∀(x:Addr)(h':Heap)(tk:Nat),(∀b u,h.get? b=some u->h'.get? b=some u)->(∃ob,h'.get? x=some ob/\ob.cls=.type "AttributeError")->h.objs.size<=h'.objs.size->E (.ref x) ⟨h',g,d,tk,os⟩) :
  wpAny (model prog w) A (getAttrBy (.ref a) (.str "keys" tk) false) Q E ⟨h,g,d,t,os⟩:=by
 have hT:(⟨h,g,d,t,os⟩:Shared).TypeIs (.ref a) "list" := ⟨_,hx,rfl⟩;have f2:=F.slot_list_getattribute.lookup;have f3:=F.slot_list_getattribute.bind (.ref a);have f4:=Zd4
 repeat (any_goals (first|assumption|wp_step))
 refine Zei hh hx fun x h' tk' k1 k2 k3=>?_;obtain⟨ob,e2,c2⟩:=k2;dsimp only;unfold getattributeRaised;refine wpAny_bind (wpAny_isInstance (T := "AttributeError") (b:=true) ⟨ob,e2,c2⟩ Zbq ?_);rw[if_pos rfl];unfold hookBehind;rw[if_neg (by decide)];refine wpAny_bind (wpAny_of_eq f4 ?_);unfold hookOrError attributeErrorLeaves;dsimp only;rw[if_pos (by decide)];exact wpAny_bind (wpAny_throw (hq x h' tk' k1 ⟨ob,e2,c2⟩ k3))
theorem Zb7{Q:Option Value->Shared->Prop}{its:Array Value}{n:Nat}{sl:Array (Option Value)}(hh:A.handled=none)(hx:h.get? a=some { cls:=.type "list",dict:=none,data:=.seq its n,slots:=sl }) (hq:∀(h':Heap)(tk:Nat),(∀b u,h.get? b=some u->h'.get? b=some u)->h.objs.size<=h'.objs.size->Q none ⟨h',g,d,tk,os⟩) :
  wpAny (model prog w) A (getAttr? (.ref a) "keys") Q E ⟨h,g,d,t,os⟩:=by
 unfold getAttr? getAttrBy?
 repeat (any_goals (first|assumption|with_reducible apply ZfN hh hx|wp_step))
 intro x h' tk' k1 k2 k3;obtain⟨ob,e2,c2⟩:=k2;dsimp only;refine wpAny_bind (wpAny_isInstance (T := "AttributeError") (b:=true) ⟨ob,e2,c2⟩ Zbq ?_);rw[if_pos rfl];exact wpAny_pure (hq h' tk' k1 k3)
end
theorem Z8:entryFor table "dict.update.loop" = some Builtin.«dict.update.loop» := entryFor_of_tree (by kernel_rfl)
theorem Zq:plainId "dict.update.loop" = true:=by decide +kernel
section
variable{prog:Program}{w:World}{K:Type}[DecidableEq K]{knd:KeyKind prog w K}{A:Around}{E:Value->Shared->Prop}{R:Result->Shared->Prop}
def Zi2(knd:KeyKind prog w K)(h:Heap)(v:Value)(k:K)(u:Value):Prop := ∃b o n uk,v=.ref b/\h.get? b=some o/\o.cls=.type "tuple" /\ o.data=.seq #[uk,u] n/\knd.is k uk=true
def Zju(knd:KeyKind prog w K)(h0:Heap)(d:Addr)(items:Array Value)(ps:List (K×Value)):Prop:=items.size=ps.length/\∀(i:Nat) v p,items[i]?= some v->ps[i]?= some p->∀h:Heap,(∀b o,b<d->h0.get? b=some o->h.get? b=some o)->Zi2 knd h v p.1 p.2
theorem pair_items{s:Shared}{v:Value}{k:K}{u:Value}{Q:List Value->Shared->Prop}(hp:Zi2 knd s.heap v k u)(q:∀uk,knd.is k uk=true->Q [uk,u] s):wpAny (model prog w) A (Builtin.Dict.pairItems v) Q E s:=by
 obtain⟨b,o,n,uk,rfl,ho,hc,hd,hk⟩:=hp;unfold Builtin.Dict.pairItems;refine wpAny_bind (wpAny_typeOf (T := "tuple") ⟨o,ho,hc⟩ ?_);rw[if_pos (by decide)];refine wpAny_bind (wpAny_seqItems ho hd (wpAny_pure (q uk hk)))
set_option maxHeartbeats 1000000 in
theorem ZjJ{h0:Heap}{D I l:Addr}{items:Array Value}{ps:List (K×Value)}(hh:A.in1.handled=none)(ht:Zju knd h0 D items ps)(hDI:D<I)(hlI:l≠I)(hn:items.size<=100000):∀(k i:Nat)(j:Int)(jt:Tok)(s:Shared),items.size-i=k->i<=items.size->(s.heap.IsListIter I l i/\s.heap.IsList l items)->l<D->s.heap.DictOf knd D (merged [] (ps.take i))->(∀b o,b<D->h0.get? b=some o->s.heap.get? b=some o) ->
   (∀h' tk,h'.DictOf knd D (merged [] ps)->(∀b o,b<D->h0.get? b=some o->h'.get? b=some o)->R (.ok (.ret .none)) { s with heap:=h',toks:=tk })->codeAny (model prog w) A (.builtin "dict.update.loop" ⟨[.ref D,.ref I,.int j jt,.none],[]⟩) R s:=by
 have W:=Walks.list (prog:=prog) (w:=w) (A:=A.in1) hh I l hlI items;have DK:∀{h h':Heap}{kvs:List (K×Value)},h.DictOf knd D kvs->(∀b o,b<=D->h.get? b=some o->h'.get? b=some o)->h'.DictOf knd D kvs:=fun{h h' kvs} ⟨o,es,ep,ho,r⟩ hk=>⟨o,es,ep,hk D o (Nat.le_refl _) ho,r⟩;intro k
 induction k with
 | zero =>
  intro i j jt s hk hi hst hlD hd hb hR;obtain rfl:i=items.size:=by lia
  refine codeAny_builtin Z8 ?_;rw[Around.under_plainId Zq _];change wpAny _ A.in1 (pyNext (.ref I) >>= _) _ _ s;refine wpAny_bind (W.done s _ _ hst fun h' tk hm=>?_);change wpAny _ A.in1 (Builtin.Dict.addKeywords D [] >>= fun _=>ret Value.none) _ _ _;refine wpAny_bind ?_;unfold Builtin.Dict.addKeywords;refine wpAny_pure (wpAny_pure ?_);rw[ht.1,List.take_length] at hd;exact hR h' tk (DK hd fun b o hb' e=>hm b o (fun z=>Nat.lt_irrefl _ (Nat.lt_of_le_of_lt (List.mem_singleton.mp z ▸ hb') hDI)) e) fun b o hb' e=>hm b o (fun z=>Nat.lt_irrefl _ (Nat.lt_trans (List.mem_singleton.mp z ▸ hb') hDI)) (hb b o hb' e)
 | succ k ih =>
  intro i j jt s hk hi hst hlD hd hb hR;have hlt:i<items.size:=by lia
  refine codeAny_builtin Z8 ?_;rw[Around.under_plainId Zq _];change wpAny _ A.in1 (pyNext (.ref I) >>= _) _ _ s;refine wpAny_bind (W.item i s _ _ hlt hst fun v h' tk hP hst' hm=>?_);have hd':h'.DictOf knd D (merged [] (ps.take i)):=DK hd fun b o hb' e=>hm b o (fun z=>Nat.lt_irrefl _ (Nat.lt_of_le_of_lt (List.mem_singleton.mp z ▸ hb') hDI)) e;have hb1:∀b o,b<D->h0.get? b=some o->h'.get? b=some o:=fun b o hb' e=>hm b o (fun z=>Nat.lt_irrefl _ (Nat.lt_trans (List.mem_singleton.mp z ▸ hb') hDI)) (hb b o hb' e);have hpl:i<ps.length:=by have:=ht.1;lia
  have hp:=ht.2 i v ps[i] hP (List.getElem?_eq_getElem hpl) h' hb1;refine wpAny_bind (wpAny_holding (wpAny_bind (wpAny_tryCatch (pair_items (s:={ s with heap:=h',toks:=tk }) hp fun uk huk=>?_))));dsimp only;have hml:(merged [] (ps.take i)).length<=sizeLine:=by
   have:=merged_length_le ([]:List (K×Value)) (ps.take i);rw[List.length_take] at this;have h0l:([]:List (K×Value)).length=0:=rfl;have:=ht.1;rw[sizeLine_eq];lia
  refine wpAny_holding (wpAny_dictSet_pairs (s:={ s with heap:=h',toks:=tk }) (hsz:=hml) huk hd' fun h2 hd2 sb=>?_);have hk2:∀b o,b≠D->h'.get? b=some o->h2.get? b=some o:=fun b o hb e=>(sb.2 b hb).trans e;refine wpAny_pure ⟨plainId_quiet Zq _,ih (i+1) (j+1) 0 _ (by lia) hlt ?_ hlD ?_ (fun b o hb' e=>hk2 b o (Nat.ne_of_lt hb') (hb1 b o hb' e)) fun h3 tk3 hw3 hb3=>hR h3 tk3 hw3 hb3⟩
  ·refine W.frame _ h' h2 hst' fun b hb o e=>hk2 b o (fun z=>?_) e;simp only[List.mem_cons,List.not_mem_nil,or_false] at hb;rcases hb with rfl|rfl
   ·exact Nat.lt_irrefl _ (z ▸ hDI)
   ·exact Nat.lt_irrefl _ (z ▸ hlD)
  ·rw[merged_take_succ [] ps i ps[i] (List.getElem?_eq_getElem hpl)];exact hd2
set_option maxHeartbeats 1000000 in
theorem Zd1{s:Shared}{l:Addr}{items:Array Value}{n:Nat}{sl:Array (Option Value)}{ps:List (K×Value)}{Q:Value->Shared->Prop}(hh:A.handled=none)(hl:s.heap.get? l=some { cls:=.type "list",dict:=none,data:=.seq items n,slots:=sl }) (ht:Zju knd s.heap s.heap.objs.size items ps) (hn:items.size<=100000)
  (q:∀(h':Heap)(tk:Nat),h'.DictOf knd s.heap.objs.size (merged [] ps)->(∀b o,s.heap.get? b=some o->h'.get? b=some o)->Q (.ref s.heap.objs.size) { s with heap:=h',toks:=tk }) :
  wpAny (model prog w) A (call (.type "dict") [.ref l]) Q E s:=by
 refine callType_codes (Q₁ := fun obj s₁=>obj=.ref s.heap.objs.size/\s₁ = { s with heap:=s.heap.push { cls:=.type "dict",data:=.dict #[] } }) F.kt_called_dict (F.kt_typeCall_dict_1 _) F.entry_dict_init (kt_code_dict_new _ ⟨rfl,rfl⟩) ?_;rintro obj s₁ ⟨rfl,rfl⟩;have hnew:(s.heap.push { cls:=.type "dict",data:=.dict #[] }).DictOf knd s.heap.objs.size []:=Heap.DictOf.new s.heap;have hl1:(s.heap.push { cls:=.type "dict",data:=.dict #[] }).get? l=some { cls:=.type "list",dict:=none,data:=.seq items n,slots:=sl }:=Heap.get?_push_of_some _ hl;have hlD:l<s.heap.objs.size:=Heap.lt_size hl;have k0:∀b o,b<s.heap.objs.size->s.heap.get? b=some o->(s.heap.push { cls:=.type "dict",data:=.dict #[] }).get? b=some o:=fun b o _ e=>Heap.get?_push_of_some _ e;have z0:(s.heap.push { cls:=.type "dict",data:=.dict #[] }).objs.size=s.heap.objs.size+1:=Heap.size_push ..;refine⟨hnew.typeIs,F.args_dict_init_2 _ _,?_⟩;generalize s.heap.push { cls:=.type "dict",data:=.dict #[] }=h1 at hnew hl1 k0 z0;unfold Builtin.«dict.__init__»;refine wpAny_bind ?_;unfold Builtin.Dict.selfAndRest;refine wpAny_bind (wpAny_notOrdered_dict hnew.typeIs ?_);show wpAny _ _ (pure (s.heap.objs.size,[Value.ref l])) _ _ _;refine wpAny_pure ?_;show wpAny _ _ (Builtin.Dict.updateFrom "dict.__init__" s.heap.objs.size (.ref l) [] .none) _ _ _;unfold Builtin.Dict.updateFrom;refine wpAny_bind (wpAny_typeOf (T := "list") ⟨_,hl1,rfl⟩ ?_);rw[if_pos (by decide)];refine wpAny_bind (Zb7 hh hl1 fun h2 tk2 k2 z2=>?_);rw[if_pos (show(none:Option Value).isNone=true from rfl)];refine wpAny_bind (wpAny_rule ?_);have hl2:=k2 _ _ hl1;have hL2:h2.IsList l items:=⟨_,hl2,rfl,n,rfl⟩;refine wpAny_bind (wpAny_pyIter_list hL2 ?_);have hd2:h2.DictOf knd s.heap.objs.size []:=let ⟨o,es,ep,ho,r⟩:=hnew;⟨o,es,ep,k2 _ _ ho,r⟩;have hd3:(h2.push { cls:=.type "list_iterator",data:=.fields #[.ref l,.int 0 0] }).DictOf knd s.heap.objs.size []:=hd2.push _;have hsz:s.heap.objs.size<h2.objs.size:=by lia
 refine wpAny_pure ⟨plainId_quiet Zq _,?_⟩;refine ZjJ (knd:=knd) (h0:=s.heap) (by simpa using hh) ht hsz (Nat.ne_of_lt (Nat.lt_trans hlD hsz)) hn (items.size-0) 0 0 0 _ rfl (Nat.zero_le _) ⟨⟨_,Heap.get?_push_size _ rfl,rfl,rfl⟩,hL2.push _⟩ hlD hd3 (fun b o hb e=>Heap.get?_push_of_some _ (k2 _ _ (k0 b o hb e))) fun h' tk hd' hb'=>?_;exact⟨rfl,q h' tk hd' fun b o e=>hb' b o (Heap.lt_size e) e⟩
end
end Srd
namespace L2
open PySem PySem.Spec PyProof.Rows PySem.W
def putAll(kvs:List (Key×V)):List (Key×V):=kvs.foldl (fun m kv=>putK m kv.1 kv.2) []
theorem ZbU:∀(kvs m:List (Key×V)),(kvs.foldl (fun m kv=>putK m kv.1 kv.2) m).length<=m.length+kvs.length
 | [],m=>Nat.le_refl _
 | kv::kvs,m=>by
  have h1:=ZbU kvs (putK m kv.1 kv.2);have h2:=Za3 m kv.1 kv.2;rw[List.length_cons,List.foldl_cons];lia
theorem ZhU(kvs:List (Key×V)):(putAll kvs).length<=kvs.length:=by
 have:=ZbU kvs [];rw[List.length_nil,Nat.zero_add] at this;exact this
theorem ZkU:∀{kvs:List (Key×V)}{ps:List (Key×Value)}{m:List (Key×V)}{m':List (Key×Value)},KV kvs ps->KV m m'->KV (kvs.foldl (fun m kv=>putK m kv.1 kv.2) m) (merged m' ps)
 | _,_,_,_,.nil,h=>h
 | _,_,m,m',.cons (a:=kv) (b:=p) r t,h=>by
  have e:p.1=kv.1:=r.1.symm;have h1:=h.put kv.1 r.2;have h2:=ZkU t h1;show KV (List.foldl _ (putK m kv.1 kv.2) _) (merged (stored m' p.1 p.2) _);rw[e];exact h2
section
variable{X:Cx}
theorem Zec(hc:X.calm=true):Zc6 X (.type "dict") (fun xs H Q=>∃l ys kvs,xs=[.ref l]/\SqL X.K H l ys/\ys.length<=90000/\Paired (fun(y:V)(kv:Key×V)=>∃t,y=.ref t/\H t=some (.tup [kV kv.1,kv.2])) ys kvs/\∀d,H d=none->Q (.ref d) (upd H d (.dK (putAll kvs)))):=by
 intro pins s σ H xs us Q I r h;obtain⟨l,ys,kvs,rfl,hq,hlen,hp,q⟩:=h;obtain⟨u,rfl,ru⟩:=vals1 r;cases ru;obtain⟨its,rv,⟨o,n,ho,ocl,odi,oda⟩,hz⟩:=I.list hq;have hl:=rv.length;obtain⟨ocls,odict,odata,oslots⟩:=o;simp only at ocl odi oda;subst ocl odi oda;have key:∀{ys:List V}{kvs:List (Key×V)}{its:List Value},Paired (fun(y:V)(kv:Key×V)=>∃t,y=.ref t/\H t=some (.tup [kV kv.1,kv.2])) ys kvs->Vals ys its->∃ps:List (Key×Value),KV kvs ps/\its.length=ps.length/\∀(i:Nat) v p,its[i]?= some v->ps[i]?= some p->Srd.Zi2 (ZX X.prog X.w) s.heap v p.1 p.2:=by
  intro ys kvs its hp
  induction hp generalizing its with
  | nil =>
   intro rv;cases rv;exact⟨[],.nil,rfl,fun i v p h=>(nomatch h)⟩
  | @cons y kv ys kvs r t ih =>
   intro rv;cases rv with
   | @cons _ v _ its ry rr =>
    obtain⟨ps,h1,h2,h3⟩:=ih rr;obtain⟨ta,rfl,ht⟩:=r;obtain rfl:v=Value.ref ta:=ry;obtain⟨_,us,rus,o,ho,hc',n,hd⟩:=I.hok ta _ ht;obtain⟨u1,u2,rfl,r1,r2⟩:=Vals.two rus;refine⟨(kv.1,u2)::ps,.cons ⟨rfl,r2⟩ h1,by rw[List.length_cons,List.length_cons,h2],fun i v p e1 e2=>?_⟩;cases i with
    | zero =>
     injection e1 with e1;injection e2 with e2;subst e1 e2;exact⟨ta,o,n,u1,rfl,ho,hc',hd,Zgh r1⟩
    | succ i=>exact h3 i v p e1 e2
 obtain⟨ps,h1,h2,h3⟩:=key hp rv;refine Srd.Zd1 (knd:=ZX X.prog X.w) (ps:=ps) (I.ok.hd hc) ho ⟨by rw[List.size_toArray];exact h2,fun i v p e1 e2 h' hk=>?_⟩ (by rw[List.size_toArray];lia) fun h' tk hd' hk=>?_
 ·obtain⟨b,o,n,uk,e,ho2,r⟩:=h3 i v p (by rw[<- e1];simp) e2;exact⟨b,o,n,uk,e,hk b o (Heap.lt_size ho2) ho2,r⟩
 ·have hkl:kvs.length=ps.length:=h1.length;have hpl:=ZhU kvs;exact⟨.ref _,_,I.laid (t':=tk) (fun b o e=>hk b o e) (Nat.le_refl _) (show Zaz X.prog X.w _ h' _ (.dK (putAll kvs)) from⟨by rw[sizeLine_eq];lia,beq_eq_false_iff_ne.mpr (Ne.symm (Nat.ne_of_lt I.big)),_,ZkU h1 .nil,hd'⟩),rfl,q _ (I.hok.fresh (Nat.le_refl _))⟩
theorem Zji{P:Program}{w:World}{kvs:List (Key×V)}{ps:List (Key×Value)}(h:KV kvs ps):∀{es:List DictEntry}{ns:List Int},PySem.Pairs (ZX P w) es ps->kvs.map (·.1)=ns.map Sum.inl->Vals (ns.map V.int) (es.map (·.key)):=by
 have h':Paired (fun(p:Key×V)(q:Key×Value)=>p.1=q.1/\RelV p.2 q.2) kvs ps:=h;clear h
 induction h' with
 | nil =>
  intro es ns h2 e;cases h2;cases ns with
  | nil=>exact .nil
  | cons n ns=>cases e
 | cons r t ih =>
  intro es ns h2 e;cases h2 with
  | cons h1 h2 h3 =>
   cases ns with
   | nil=>cases e
   | cons n ns =>
    rw[List.map_cons,List.map_cons] at e;obtain⟨e1,e2⟩:=List.cons.inj e;refine .cons ?_ (ih h3 e2);rw[<- r.1,e1] at h1;have h1':ZfE (Sum.inl n) _=true:=h1;rcases Z7 h1' with⟨i,t,he,hk⟩|⟨x,t,he,hk⟩
    ·cases he;exact⟨t,hk⟩
    ·cases he
theorem Zi5:∀{kvs:List (Key×V)}{vs:List (Key×Value)},KV kvs vs->kvs.map (·.1)=vs.map (·.1)
 | _,_,.nil=>rfl
 | _,_,.cons r t=>by rw[List.map_cons,List.map_cons,r.1,Zi5 t]
end
end L2
namespace Srd
open PySem PyProof.Rows Srt PySem.W
structure Sto{α : Type}(lt : α -> α -> Bool):Prop where
 irr:∀a,lt a a=false
 trans:∀a b c,lt a b=true->lt b c=true->lt a c=true
 tri:∀a b,lt a b=false->lt b a=false->a=b
section
variable{α β : Type}{lt : α -> α -> Bool}{lt2 : β -> β -> Bool}
theorem Sto.asym(o:Sto lt){a b : α}(h:lt a b=true):lt b a=false:=by
 cases e:lt b a with
 | false=>rfl
 | true =>
  have:=o.trans a b a h e;rw[o.irr] at this;cases this
theorem Sto.neg(o:Sto lt){x y z : α}(h1:lt x y=false)(h2:lt y z=false):lt x z=false:=by
 cases e:lt x z with
 | false=>rfl
 | true =>
  cases e2:lt y x with
  | true=>rw[o.trans y x z e2 e] at h2;cases h2
  | false =>
   have:=o.tri x y h1 e2;subst this;rw[e] at h2;cases h2
theorem Sto.swo(o:Sto lt)(f:Value -> α):Swo fun x y=>lt (f x.1) (f y.1):=⟨fun _ _ h=>o.asym h,fun _ _ _ h1 h2=>o.neg h1 h2⟩
def Zl2[DecidableEq α](lt : α -> α -> Bool)(lt2 : β -> β -> Bool)(x y : α × β):Bool:=lt x.1 y.1 || (decide (x.1=y.1)&&lt2 x.2 y.2)
theorem Sto.lex[DecidableEq α](o:Sto lt)(o2:Sto lt2):Sto (Zl2 lt lt2) where
 irr:=fun a=>by unfold Zl2;rw[o.irr,o2.irr];simp
 trans:=fun a b c h1 h2=>by
  unfold Zl2 at *;simp only[Bool.or_eq_true,Bool.and_eq_true,decide_eq_true_eq] at *;rcases h1 with h1|⟨e1,h1⟩
  ·rcases h2 with h2|⟨e2,h2⟩
   ·exact .inl (o.trans _ _ _ h1 h2)
   ·exact .inl (e2 ▸ h1)
  ·rcases h2 with h2|⟨e2,h2⟩
   ·exact .inl (e1.symm ▸ h2)
   ·exact .inr ⟨e1.trans e2,o2.trans _ _ _ h1 h2⟩
 tri:=fun a b h1 h2=>by
  unfold Zl2 at *;simp only[Bool.or_eq_false_iff,Bool.and_eq_false_imp,decide_eq_true_eq] at *;have e1:=o.tri _ _ h1.1 h2.1;have e2:=o2.tri _ _ (h1.2 e1) (h2.2 e1.symm);exact Prod.ext e1 e2
theorem ZlK:Sto fun a b:Int=>decide (a<b):=⟨fun a=>by simp,fun a b c h1 h2=>by simp only[decide_eq_true_eq] at *;lia,fun a b h1 h2=>by simp only[decide_eq_false_iff_not] at *;lia⟩
theorem ZdY:∀a b:List Nat,¬ a<b -> ¬ b<a->a=b
 | [],[],_,_=>rfl
 | [],b::bs,h,_=>absurd (List.nil_lt_cons b bs) h
 | a::as,[],_,h=>absurd (List.nil_lt_cons a as) h
 | a::as,b::bs,h1,h2=>by
  rw[List.cons_lt_cons_iff] at h1 h2;have e:a=b:=by
   rcases Nat.lt_trichotomy a b with z|z|z
   ·exact absurd (.inl z) h1
   ·exact z
   ·exact absurd (.inl z) h2
  subst e;rw[ZdY as bs (fun z=>h1 (.inr ⟨rfl,z⟩)) (fun z=>h2 (.inr ⟨rfl,z⟩))]
theorem Zcd:∀a:List Nat,¬ a<a
 | [],h=>by cases h
 | a::as,h=>by
  rw[List.cons_lt_cons_iff] at h;rcases h with h|⟨_,h⟩
  ·lia
  ·exact Zcd as h
theorem Zcw:∀a b c:List Nat,a<b->b<c->a<c
 | [],_,[],_,h2=>by cases h2
 | [],_,c::cs,_,_=>List.nil_lt_cons c cs
 | a::as,[],_,h1,_=>by cases h1
 | a::as,b::bs,[],_,h2=>by cases h2
 | a::as,b::bs,c::cs,h1,h2=>by
  rw[List.cons_lt_cons_iff] at *;rcases h1 with h1|⟨e1,h1⟩
  ·rcases h2 with h2|⟨e2,h2⟩
   ·exact .inl (by lia)
   ·exact .inl (by lia)
  ·rcases h2 with h2|⟨e2,h2⟩
   ·exact .inl (by lia)
   ·exact .inr ⟨by lia,Zcw as bs cs h1 h2⟩
theorem Zk1{x y:Str}(h:x.cps.toList=y.cps.toList):x=y:=by
 cases x;cases y
 congr 1
 exact Array.toList_inj.mp h
theorem Zlz:Sto fun a b:Str=>decide (a.cps.toList<b.cps.toList):=⟨fun a=>decide_eq_false (Zcd _),fun a b c h1 h2=>decide_eq_true (Zcw _ _ _ (of_decide_eq_true h1) (of_decide_eq_true h2)),fun a b h1 h2=>Zk1 (ZdY _ _ (of_decide_eq_false h1) (of_decide_eq_false h2))⟩
end
end Srd
namespace Fg
open PySem L2 FgM
theorem Ziq{X:Cx}{K:PySem.W.Frag}{es:List Expr}{k:Nat}{t:TGs}{n:Nat}{pos:Pos}(hK:X.K=K)(hc:X.calm=true)(h:PGs X es t)(hn:(assignEach es X.env).length=n:=by rfl)(hst:(assignEach es X.env).findIdx? (·.1)=none:=by rfl):PG X (.Tuple es k pos) (Znm K n t):=by
 subst hK;exact Zfn hc h hn hst
theorem Zir:bootBuiltins "sorted" = some (.builtin "sorted"):=by decide +kernel
theorem Zg3{K:PySem.W.Frag}{a p:Addr}{xs:List V}{g:TG}{te:TE}{R:Hp->Prop}{σ0:St}{H0:Hp}(Pv:Nat->List V->St->Hp->Prop)(h0:Pv 0 [] σ0 H0)
  (hl:∀i ys σ H,i<=xs.length->Pv i ys σ H->SqT K H a xs/\H p=some (.lst ys))
  (hs:∀i ys x σ H,i<xs.length->xs[i]?= some x->Pv i ys σ H->g x σ H fun σ3 H4=>te σ3 H4 fun v H5=>H5 p=some (.lst ys)/\ys.length<sizeLine/\∃m',m'<xs.length-i/\CW xs.length Pv (i+1) m' (ys ++ [v]) σ3 (upd H5 p (.lst (ys ++ [v]))))
  (hd:∀ys σ H,Pv xs.length ys σ H->R H) :
  ∃W:Nat->Nat->List V->St->Hp->Prop,(∃m,W 0 m [] σ0 H0)/\∀i m ys σc H2,W i m ys σc H2->H2 p=some (.lst ys)/\(((Itt K a).stop i H2/\R H2)\/((Itt K a).go i H2/\∀x H3,(Itt K a).yld i H2 x H3->g x σc H3 fun σ3 H4=>te σ3 H4 fun v H5 =>
   H5 p=some (.lst ys)/\ys.length<sizeLine/\∃m',m'<m/\W (i+1) m' (ys ++ [v]) σ3 (upd H5 p (.lst (ys ++ [v]))))):=by
 refine⟨CW xs.length Pv,⟨_,rfl,Nat.zero_le _,h0⟩,?_⟩;rintro i m ys σ H ⟨rfl,hi,hp⟩;obtain⟨h1,h2⟩:=hl i ys σ H hi hp;refine⟨h2,?_⟩;by_cases hlt:i<xs.length
 ·refine .inr ⟨⟨xs,xs[i],h1,List.getElem?_eq_getElem hlt⟩,?_⟩;rintro x H3 ⟨rfl,hx⟩;exact hs i ys x σ _ hlt (hx xs h1) hp
 ·refine .inl ⟨⟨xs,h1,by lia⟩,hd ys σ H ?_⟩;have e:i=xs.length:=by lia
  rw[<- e];exact hp
theorem ZW{α : Type}{l:List α}{i:Nat}{x : α}(h:l[i]?= some x):l.take (i+1)=l.take i ++ [x]:=by
 rw[List.take_add_one,h];rfl
theorem Zev{lo:Int}{n:Nat}{p:Addr}{g:TG}{te:TE}{R:Hp->Prop}{σ0:St}{H0:Hp}(Pv:Nat->List V->St->Hp->Prop)(h0:Pv 0 [] σ0 H0)
  (hl:∀i ys σ H,i<=n->Pv i ys σ H->H p=some (.lst ys))
  (hs:∀i ys σ H,i<n->Pv i ys σ H->g (.int (lo+i)) σ H fun σ3 H4=>te σ3 H4 fun v H5=>H5 p=some (.lst ys)/\ys.length<sizeLine/\∃m',m'<n-i/\CW n Pv (i+1) m' (ys ++ [v]) σ3 (upd H5 p (.lst (ys ++ [v]))))
  (hd:∀ys σ H,Pv n ys σ H->R H) :
  ∃W:Nat->Nat->List V->St->Hp->Prop,(∃m,W 0 m [] σ0 H0)/\∀i m ys σc H2,W i m ys σc H2->H2 p=some (.lst ys)/\(((Itr lo n).stop i H2/\R H2)\/((Itr lo n).go i H2/\∀x H3,(Itr lo n).yld i H2 x H3->g x σc H3 fun σ3 H4=>te σ3 H4 fun v H5 =>
   H5 p=some (.lst ys)/\ys.length<sizeLine/\∃m',m'<m/\W (i+1) m' (ys ++ [v]) σ3 (upd H5 p (.lst (ys ++ [v]))))):=by
 refine⟨CW n Pv,⟨_,rfl,Nat.zero_le _,h0⟩,?_⟩;rintro i m ys σ H ⟨rfl,hi,hp⟩;refine⟨hl i ys σ H hi hp,?_⟩;by_cases hlt:i<n
 ·refine .inr ⟨hlt,?_⟩;rintro x H3 ⟨rfl,rfl⟩;exact hs i ys σ _ hlt hp
 ·have e:i=n:=by lia
  subst e;exact .inl ⟨Nat.le_refl _,hd ys σ H hp⟩
theorem ZkX{n k:Nat}(h:k<n):ixN n ((k:Nat):Int)=some k:=by
 unfold ixN;rw[if_pos (by lia),if_pos (by lia)];rfl
theorem ZmG(x:Int){n:Nat}(h:0<n):∃k:Nat,x % (n:Int)=(k:Int)/\k<n:=by
 have h1:=Int.emod_nonneg x (by lia:(n:Int)≠0);have h2:=Int.emod_lt_of_pos x (by lia:(0:Int)<(n:Int));obtain⟨k,hk⟩:=Int.eq_ofNat_of_zero_le h1;exact⟨k,hk,by lia⟩
theorem Zcp{A:Type}:∀g:Gr A,ZaK g .nil=g
 | .nil=>rfl
 | .cons t w o=>by show Gr.cons t w (ZaK o .nil)=_;rw[Zcp o]
def bk:List Str->Gr Str×List (Gr Str)
 | []=>(.nil,[])
 | w::ws=>if w=SL then(.nil,(bk ws).1::(bk ws).2) else
  match (bk ws).2 with
  | []=>(.nil,[])
  | b::pl=>(.cons w (bk ws).1 b,pl)
theorem Zk6(ws:List Str):bk (SL::ws)=(.nil,(bk ws).1::(bk ws).2):=by
 rw[bk,if_pos rfl]
theorem ZkR{w:Str}{ws:List Str}(hw:w≠SL){b:Gr Str}{pl:List (Gr Str)}(h:(bk ws).2=b::pl):bk (w::ws)=(.cons w (bk ws).1 b,pl):=by
 rw[bk,if_neg hw,h]
theorem ZeN:∀{ws:List Str}{n:Nat},Can SL n ws->(bk ws).2.length=n
 | [],n,h=>by
  have h':n=0:=h;subst h';rfl
 | w::ws,n,h=>by
  by_cases e:w=SL
  ·subst e;obtain⟨h1,h2⟩:=ZcL.mp h;rw[Zk6,List.length_cons,ZeN h2];lia
  ·have h2:=ZeN ((ZcS e).mp h);cases hb:(bk ws).2 with
   | nil =>
    rw[hb] at h2;cases h2
   | cons b pl =>
    rw[ZkR e hb];rw[hb] at h2
    simpa using h2
theorem ZdL:∀{xs ys:List Str}{n:Nat},Can SL n (xs++ys)->∃k:Nat,(k:Int)=n+hgt SL xs/\Can SL k ys
 | [],ys,n,h=>⟨n,by simp[hgt],h⟩
 | x::xs,ys,n,h=>by
  by_cases e:x=SL
  ·subst e;obtain⟨h1,h2⟩:=ZcL.mp h;obtain⟨k,hk,hc⟩:=ZdL h2;refine⟨k,?_,hc⟩;simp only[hgt,if_true];lia
  ·obtain⟨k,hk,hc⟩:=ZdL ((ZcS e).mp h);refine⟨k,?_,hc⟩;simp only[hgt,if_neg e];lia
theorem Zj4{ws:List Str}(h:Can SL 0 ws)(i:Nat):∃k,Can SL k (ws.drop i):=by
 have h':Can SL 0 (ws.take i++ws.drop i):=by rw[List.take_append_drop];exact h
 obtain⟨k,_,hk⟩:=ZdL h';exact⟨k,hk⟩
theorem ZcT{A:Type}:∀a b c:Gr A,ZaK (ZaK a b) c=ZaK a (ZaK b c)
 | .nil,_,_=>rfl
 | .cons t w o,b,c=>by show Gr.cons t w (ZaK (ZaK o b) c)=.cons t w (ZaK o (ZaK b c));rw[ZcT o b c]
end Fg
namespace L2
open PySem PySem.Spec PyProof.Rows
section
variable{X:Cx}{e ve:Expr}{te:TE}{p kp pos:Pos}
def Zhg(v:V)(H:Hp)(Q:VK):Prop := ∃(d:Addr)(kvs:List (Key×V))(ns:List Int),v=.ref d/\H d=some (.dK kvs)/\kvs.length<64/\kvs.map (·.1)=ns.map Sum.inl/\∀(p:Addr)(ms:List Int),H p=none->ms.Perm ns->ms.Pairwise (· > ·)->Q (.ref p) (upd H p (.lst (ms.map V.int)))
theorem falling{ms:List Int}(h:ms.Pairwise (· >= ·))(hn:ms.Nodup):ms.Pairwise (· > ·):=by
 refine List.Pairwise.imp₂ (fun{a b} h1 h2=>?_) h hn;have:a≠b:=h2;have:a>=b:=h1;show a > b;lia
theorem ZeR(hc:X.calm=true)(hg:Gl X "sorted") (hm:X.mg "sorted" = none) (pa:PA X [e] (Zmg te ZmE)) (hv:PE X ve (tC (.bl true)))
  (hst:backTo pos (starEach [e] X.env)=(false,eval e X.env)::backTo pos (starEach [] X.env):=by rfl) (hpl:(backTo pos (starEach [e] X.env)).any (·.1)=false:=by rfl) :
  PE X (.Call (.Name "sorted" p) [e] [⟨some (Str.ofString "reverse"),ve,kp⟩] pos) (fun σ H Q=>te σ H fun v H1=>Zhg v H1 Q):=by
 intro pins s σ H Q I h;refine wpAny_Call_Name_kw (ZfF I hg hm Zh7 ?_);refine callWith_kw (thn (pa pos pins s σ H (fun vs H1=>match vs with | [v]=>Zhg v H1 Q|_=>False) I h) fun us s1 ⟨vs,H1,I1,r,q⟩=>?_) hst hpl
 match vs,r,q with
 | [v],r,q =>
  obtain⟨u,rfl,ru⟩:=r.one;obtain⟨d,kvs,ns,rfl,hd,hlen,hkn,q⟩:=q;obtain rfl:u=.ref d:=ru;refine kws_cons (thn (hv pins s1 σ H1 (fun x H2=>x=.bl true/\H2=H1) I1 ⟨rfl,rfl⟩) fun w1 s2 ⟨x,H2,I2,rx,ex,eh⟩=>kws_nil ?_);subst ex eh;obtain rfl:w1=.bool true:=rx;obtain⟨hl,lo,vs,kv,o,es,ep,ho,hx,hdat,hko,hpr,hnd⟩:=Zlh I2.hok hd;have hvals:=Zji kv hpr hkn;have hkl:kvs.length=vs.length:=kv.length;have hnl:kvs.length=ns.length:=by have:=congrArg List.length hkn;simpa using this
  have hes:es.size=ns.length:=by
   have:=hvals.length
   simpa using this.symm
  have hnod:ns.Nodup:=by
   rw[<- Zi5 kv,hkn] at hnd;exact(List.pairwise_map.mp hnd).imp fun h e=>h (by rw[e])
  show wpAny _ _ (call (.builtin "sorted") [.ref d] [(Str.ofString "reverse",.bool true)]) _ _ _;refine call_function_entry_kw kind_sorted plain_sorted entry_sorted (args_sorted_rev _ _) ?_;unfold Builtin.«sorted»;refine wpAny_bind (m:=checkCount "sorted" 1 1 _) (wpAny_pure ?_);refine wpAny_bind (Srd.ZdW (ZiL lo) (I2.ok.hd hc) (⟨o,ho,hx,hdat⟩:Zie s2.heap d es ep) (by rw[sizeLine_eq];lia) fun acc h1 tk kp1 hit hle=>?_);have hacc:acc.toList=es.toList.map (·.key):=by
   refine List.ext_getElem? fun j=>?_;rw[Array.getElem?_toList,List.getElem?_map,Array.getElem?_toList];cases hj:acc[j]? with
   | none =>
    have h3:acc.size<=j:=Array.getElem?_eq_none_iff.mp hj;rw[hit.1] at h3;rw[Array.getElem?_eq_none h3];rfl
   | some v =>
    obtain⟨e,h1,rfl⟩:=hit.2 j v hj;rw[h1];rfl
  rw[hacc];have hyl:(es.toList.map (·.key)).length<64:=by rw[List.length_map,Array.length_toList];lia
  generalize es.toList.map (·.key)=ys at hvals hyl;refine wpAny_bind (wpAny_newList ?_ (by rw[sizeLine_eq];lia));have hoL:(h1.push (seqObj "list" ys.toArray 0)).get? h1.objs.size=some (seqObj "list" ys.toArray 0):=Heap.get?_push_size _ rfl;have keep:∀b o,s2.heap.get? b=some o->(h1.push (seqObj "list" ys.toArray 0)).get? b=some o:=fun b o e=>Heap.get?_push_of_some _ (kp1 b o e);have hbp:∀b o,s2.heap.get? b=some o->h1.objs.size≠b:=fun b o e=>Nat.ne_of_gt (Nat.lt_of_lt_of_le (Heap.lt_size e) hle);change wpAny _ _ _ _ _ { s2 with heap:=h1.push (seqObj "list" ys.toArray 0),toks:=tk };refine wpAny_bind (wpAny_holding (wpAny_call_entry_kw slot_list_sort ⟨_,hoL,rfl⟩ entry_list_sort (list_sort_tree_rev (s:={ s2 with heap:=h1.push (seqObj "list" ys.toArray 0),toks:=tk }) hoL (intsAre_of hvals) hyl fun out ns' a1 a2 a3=>⟨_,rfl,?_⟩) (args_list_sort_rev _ _)));generalize h1.push (seqObj "list" ys.toArray 0)=h5 at hoL keep;obtain⟨e1,ho1⟩:∃e1,(h5.update h1.objs.size (Obj.mapSeq fun _=>#[])).get? h1.objs.size=some (seqObj "list" #[] e1):=⟨_,get?_update_seq hoL (fun _=>#[])⟩;have ho6:=Heap.get?_push_of_some (seqObj "list" #[] 0) (Heap.get?_push_of_some (seqObj "tuple" ys.toArray 0) ho1);have rz:Vals (ns'.map V.int) out.toList:=Zeb a1;have hzl:=rz.length;have hns:ns'.length=ns.length:=a2.length_eq;have kfin:∀b o,s2.heap.get? b=some o->(sortedHeap h5 h1.objs.size ys out).get? b=some o:=fun b o e=>by
   unfold sortedHeap;rw[Heap.get?_update_other _ _ (hbp b o e)];refine Heap.get?_push_of_some _ (Heap.get?_push_of_some _ ?_);rw[Heap.get?_update_other _ _ (hbp b o e)];exact keep b o e
  have I3:=I2.laid (h':=sortedHeap h5 h1.objs.size ys out) (t':=tk) (a:=h1.objs.size) (o:=.lst (ns'.map V.int)) kfin hle (show Zaz X.prog X.w _ _ _ (.lst (ns'.map V.int)) from⟨by rw[List.length_map,sizeLine_eq];lia,out.toList,_,rz,get?_update_seq ho6 (fun _=>out)⟩);have hord:ns'.Pairwise (· >= ·):=a3;exact wpAny_pure ⟨_,rfl,.ref _,_,I3,rfl,q _ ns' (I2.hok.fresh hle) a2 (falling hord (a2.nodup_iff.mpr hnod))⟩
end
end L2
namespace Fg
open PySem L2 FgM
def cst(ws:List Str):Nat->List Nat×List (Nat×Nat)
 | 0=>([],[])
 | i+1=>if ws[i]?= some SL then((cst ws i).1.tail,(cst ws i).2++(cst ws i).1.head?.toList.map (·,i)) else(i::(cst ws i).1,(cst ws i).2)
theorem Zgw{ws:List Str}{i o:Nat}{os:List Nat}(h:ws[i]?= some SL)(e:(cst ws i).1=o::os):cst ws (i+1)=(os,(cst ws i).2 ++ [(o,i)]):=by
 show(if _ then _ else _)=_
 rw[if_pos h,e];rfl
theorem ZgC{ws:List Str}{i:Nat}{w:Str}(h:ws[i]?= some w)(hw:w≠SL):cst ws (i+1)=(i::(cst ws i).1,(cst ws i).2):=by
 show(if _ then _ else _)=_
 rw[if_neg (by rw[h];exact fun e=>hw (by injection e))]
theorem ZbS{ws:List Str}{i:Nat}{w:Str}(h:ws[i]?= some w):ws.drop i=w::ws.drop (i+1):=by
 obtain⟨hi,e⟩:=List.getElem?_eq_some_iff.mp h;rw[List.drop_eq_getElem_cons hi,e]
structure Cst(ws:List Str)(i:Nat):Prop where
 len:(cst ws i).1.length=(bk (ws.drop i)).2.length
 at_:∀(m o:Nat),(cst ws i).1[m]?= some o->(bk (ws.drop (o+1))).2[0]?= (bk (ws.drop i)).2[m]?
 pair:∀p e:Nat,(p,e)∈(cst ws i).2->(bk (ws.drop (p+1))).2[0]?= some (bk (ws.drop (e+1))).1/\p<e/\e<i
 mem:∀p:Nat,(p∈(cst ws i).1\/p∈(cst ws i).2.map (·.1))↔∃w,p<i/\ws[p]?= some w/\w≠SL
 nd:((cst ws i).1++(cst ws i).2.map (·.1)).Nodup
 cnt:(cst ws i).1.length+2*(cst ws i).2.length=i
theorem ZiH{ws:List Str}(hc:Can SL 0 ws):∀i,i<=ws.length->Cst ws i
 | 0,_=>⟨by
   rw[List.drop_zero,ZeN hc];rfl,(fun m o h=>by cases m <;> cases h),(fun p e h=>(nomatch h)),(fun p=>⟨fun h=>h.elim (fun h=>(nomatch h)) (fun h=>(nomatch h)),fun⟨_,h,_⟩=>absurd h (Nat.not_lt_zero _)⟩),List.nodup_nil,rfl⟩
 | i+1,hi=>by
  have x:=ZiH hc i (by lia);obtain⟨w,hw⟩:∃w,ws[i]?= some w:=⟨_,List.getElem?_eq_getElem (by lia)⟩;by_cases e:w=SL
  ·subst e;have hb:bk (ws.drop i)=(.nil,(bk (ws.drop (i+1))).1::(bk (ws.drop (i+1))).2):=by rw[ZbS hw,Zk6]
   cases hs:(cst ws i).1 with
   | nil =>
    have:=x.len;rw[hs,hb] at this;cases this
   | cons o os =>
    have hz:=Zgw hw hs;obtain⟨x1,x2,x3,x4,x5,x6⟩:=x;rw[hs] at x1 x2 x4 x5 x6;rw[hb] at x1 x2;refine⟨?_,fun m o' h=>?_,fun p e h=>?_,fun p=>?_,?_,?_⟩
    ·rw[hz]
     simpa using x1
    ·rw[hz] at h;have:=x2 (m+1) o' (by rw[List.getElem?_cons_succ];exact h);rw[List.getElem?_cons_succ] at this;exact this
    ·rw[hz] at h;rcases List.mem_append.mp h with h|h
     ·obtain⟨a,b,c⟩:=x3 p e h;exact⟨a,b,by lia⟩
     ·have h':=List.mem_singleton.mp h;injection h' with h1 h2;subst h1 h2;refine⟨x2 0 p rfl,?_,by lia⟩;obtain⟨w',h1,_⟩:=(x4 p).mp (.inl (List.mem_cons_self ..));exact h1
    ·rw[hz];have:=x4 p;constructor
     ·intro h;have h':p∈o::os\/p∈(cst ws i).2.map (·.1):=by
       rcases h with h|h
       ·exact .inl (List.mem_cons_of_mem _ h)
       ·rw[List.map_append] at h;rcases List.mem_append.mp h with h|h
        ·exact .inr h
        ·exact .inl (by rw[List.mem_singleton.mp h];exact List.mem_cons_self ..)
      obtain⟨w',h1,h2,h3⟩:=this.mp h';exact⟨w',by lia,h2,h3⟩
     ·rintro⟨w',h1,h2,h3⟩;have hpi:p≠i:=fun z=>by
       rw[z,hw] at h2;injection h2 with h2;exact h3 h2.symm
      rw[List.map_append];rcases this.mpr ⟨w',by lia,h2,h3⟩ with h|h
      ·rcases List.mem_cons.mp h with rfl|h
       ·exact .inr (List.mem_append_right _ (List.mem_singleton.mpr rfl))
       ·exact .inl h
      ·exact .inr (List.mem_append_left _ h)
    ·rw[hz,List.map_append];have hp:(os++((cst ws i).2.map (·.1) ++ [o])).Perm (o::os++(cst ws i).2.map (·.1)):=by
      rw[<- List.append_assoc];exact List.perm_append_comm
     exact hp.nodup_iff.mpr x5
    ·rw[hz];show os.length+2*((cst ws i).2 ++ [(o,i)]).length=i+1;rw[List.length_append,List.length_singleton];rw[List.length_cons] at x6;lia
  ·have hz:=ZgC hw e;have hcd:∃k,Can SL k (ws.drop i):=Zj4 hc i;obtain⟨k,hk⟩:=hcd;rw[ZbS hw] at hk;have hk':=ZeN ((ZcS e).mp hk);cases hp:(bk (ws.drop (i+1))).2 with
   | nil =>
    rw[hp] at hk';cases hk'
   | cons b pl =>
    have hb:bk (ws.drop i)=(.cons w (bk (ws.drop (i+1))).1 b,pl):=by rw[ZbS hw,ZkR e hp]
    obtain⟨x1,x2,x3,x4,x5,x6⟩:=x;rw[hb] at x1 x2;refine⟨?_,fun m o' h=>?_,fun p e' h=>?_,fun p=>?_,?_,?_⟩
    ·rw[hz,hp,List.length_cons,List.length_cons,x1]
    ·rw[hz] at h;rw[hp];cases m with
     | zero =>
      injection h with h;subst h;rw[hp]
     | succ m =>
      rw[List.getElem?_cons_succ] at h ⊢;exact x2 m o' h
    ·rw[hz] at h;obtain⟨a,b,c⟩:=x3 p e' h;exact⟨a,b,by lia⟩
    ·rw[hz];have:=x4 p;constructor
     ·rintro(h|h)
      ·rcases List.mem_cons.mp h with rfl|h
       ·exact⟨w,by lia,hw,e⟩
       ·obtain⟨w',h1,h2,h3⟩:=this.mp (.inl h);exact⟨w',by lia,h2,h3⟩
      ·obtain⟨w',h1,h2,h3⟩:=this.mp (.inr h);exact⟨w',by lia,h2,h3⟩
     ·rintro⟨w',h1,h2,h3⟩;by_cases hpi:p=i
      ·exact .inl (by rw[hpi];exact List.mem_cons_self ..)
      ·rcases this.mpr ⟨w',by lia,h2,h3⟩ with h|h
       ·exact .inl (List.mem_cons_of_mem _ h)
       ·exact .inr h
    ·rw[hz];refine List.nodup_cons.mpr ⟨fun h=>?_,x5⟩;have h':i∈(cst ws i).1\/i∈(cst ws i).2.map (·.1):=List.mem_append.mp h;obtain⟨_,h1,_⟩:=(x4 i).mp h';lia
    ·rw[hz];show(i::(cst ws i).1).length+2*(cst ws i).2.length=i+1;rw[List.length_cons];lia
def kvC(ps:List (Nat×Nat)):List (Key×V):=ps.map fun p=>(Sum.inl (p.1:Int),V.int (p.2:Int))
theorem ZjY{ps:List (Nat×Nat)}{p:Nat}(h:p∉ps.map (·.1)):Zbe (kvC ps) (Sum.inl (p:Int))=none:=by
 induction ps with
 | nil=>rfl
 | cons x ps ih =>
  rw[List.map_cons,List.mem_cons,not_or] at h;show Zbe ((Sum.inl (x.1:Int),V.int (x.2:Int))::kvC ps) _=none;rw[Zar (fun z=>h.1 (by injection z with z;exact(Int.ofNat.inj z).symm))];exact ih h.2
theorem ZjS{ps:List (Nat×Nat)}{p e:Nat}(hn:(ps.map (·.1)).Nodup)(h:(p,e)∈ps):Zbe (kvC ps) (Sum.inl (p:Int))=some (.int (e:Int)):=by
 induction ps with
 | nil=>cases h
 | cons x ps ih =>
  rw[List.map_cons,List.nodup_cons] at hn;show Zbe ((Sum.inl (x.1:Int),V.int (x.2:Int))::kvC ps) _=_;rcases List.mem_cons.mp h with e1|h
  ·subst e1;rw[ZaC rfl]
  ·rw[Zar (fun z=>hn.1 (by injection z with z;rw[show x.1=p from Int.ofNat.inj z];exact List.mem_map.mpr ⟨_,h,rfl⟩))];exact ih hn.2 h
end Fg
namespace L2
open PySem PySem.Spec PyProof.Rows
theorem ZhB{K:PySem.W.Frag}{a p:Addr}{xs:List V}{g:TG}{tt:TT}{te:TE}{R:Hp->Prop}{σ0:St}{H0:Hp}(Pv:Nat->List V->St->Hp->Prop)(h0:Pv 0 [] σ0 H0)
  (hl:∀i ys σ H,i<=xs.length->Pv i ys σ H->SqL K H a xs/\H p=some (.lst ys))
  (hs:∀i ys x σ H,i<xs.length->xs[i]?= some x->Pv i ys σ H->g x σ H fun σ3 H4=>tt σ3 H4 fun b H4'=>if b=true then te σ3 H4' fun v H5=>H5 p=some (.lst ys)/\ys.length<sizeLine/\∃m',m'<xs.length-i/\CW xs.length Pv (i+1) m' (ys ++ [v]) σ3 (upd H5 p (.lst (ys ++ [v])))
   else ∃m',m'<xs.length-i/\CW xs.length Pv (i+1) m' ys σ3 H4')
  (hd:∀ys σ H,Pv xs.length ys σ H->R H) :
  ∃W:Nat->Nat->List V->St->Hp->Prop,(∃m,W 0 m [] σ0 H0)/\∀i m ys σc H2,W i m ys σc H2->H2 p=some (.lst ys)/\(((Itl K a).stop i H2/\R H2)\/((Itl K a).go i H2/\∀x H3,(Itl K a).yld i H2 x H3->g x σc H3 fun σ3 H4=>tt σ3 H4 fun b H4'=>if b=true then te σ3 H4' fun v H5 =>
   H5 p=some (.lst ys)/\ys.length<sizeLine/\∃m',m'<m/\W (i+1) m' (ys ++ [v]) σ3 (upd H5 p (.lst (ys ++ [v]))) else ∃m',m'<m/\W (i+1) m' ys σ3 H4')):=by
 refine⟨CW xs.length Pv,⟨_,rfl,Nat.zero_le _,h0⟩,?_⟩;rintro i m ys σ H ⟨rfl,hi,hp⟩;obtain⟨h1,h2⟩:=hl i ys σ H hi hp;refine⟨h2,?_⟩;by_cases hlt:i<xs.length
 ·refine .inr ⟨⟨xs,xs[i],h1,List.getElem?_eq_getElem hlt⟩,?_⟩;rintro x H3 ⟨rfl,hx⟩;exact hs i ys x σ _ hlt (hx xs h1) hp
 ·have e:i=xs.length:=by lia
  subst e;exact .inl ⟨⟨xs,h1,Nat.le_refl _⟩,hd ys σ H hp⟩
end L2
namespace L2
open PySem PySem.Spec PyProof.Rows Srd
section
variable{X:Cx}
def Zm5(K:PySem.W.Frag):V->Hp->VK->Prop:=fun x H Q=>∃a xs,x=.ref a/\SqL K H a xs/\∀p,H p=none->Q (.ref p) (upd H p (.lst xs.reverse))
theorem Zlj{e:Expr}{te:TE}{pos p2 p3 p4:Pos}{j:Nat}(he:PE X e te):PE X (.Subscript e (.Slice none none (some (.UnaryOp .USub (.Constant (.int 1) j p4) p3)) p2) pos) (tUn (Zm5 X.K) te):=by
 intro pins s σ H Q I h;refine Subscript_ (thn (he pins s σ H _ I h) fun v s1 ⟨x,H1,I1,r1,q1⟩=>?_);obtain⟨a,xs,rfl,hx,q⟩:=q1;cases r1;refine wpAny_Slice (thn (ZcG pins s1 σ H1 (fun o H'=>o=none/\H'=H1) I1 ⟨rfl,rfl⟩) fun vl s2 ⟨l,H2,I2,pl,el,eh⟩=>?_);subst el eh;refine thn (ZcG pins s2 σ H2 (fun o H'=>o=none/\H'=H2) I2 ⟨rfl,rfl⟩) fun vu s3 ⟨u,H3,I3,pu,el,eh⟩=>?_;subst el eh;refine thn (ZeZ (Zeh Zb9 Zh) pins s3 σ H3 (fun o H'=>o=some (-1)/\H'=H3) I3 ⟨1,rfl,-1,rfl,rfl,rfl⟩) fun vt s4 ⟨o,H4,I4,pt,el,eh⟩=>?_;subst el eh;have I5:Inv X pins σ H4 { s4 with heap:=s4.heap.push { cls:=.type "slice",data:=.fields #[vl,vu,vt] } }:=I4.kept (t':=s4.toks) fun b ob q=>Heap.get?_push_of_some _ q;obtain⟨its,r,ht,hz⟩:=I5.list hx;have hlen:=r.length;show wpAny (model X.prog X.w) X.A (subscriptTail e (.Slice none none (some (.UnaryOp .USub (.Constant (.int 1) j p4) p3)) p2) (.ref a) (.ref s4.heap.objs.size)) (EP X pins σ Q) X.xe { s4 with heap:=s4.heap.push { cls:=.type "slice",data:=.fields #[vl,vu,vt] } };refine tail_any (ops:=[.ref a,.ref s4.heap.objs.size]) ht.isList.typeIs slot_list_getitem.lookup (wpAny_getItem_list_slice ht.isList (Heap.IsSliceOf.new ..) pl pu pt (by decide) ?_ (by rw[List.size_toArray] <;> lia)) (by with_unfolding_all rfl)
 rw[PySem.W.krv_pick];refine⟨.ref _,_,I5.laid (t':=s4.toks) (o:=.lst xs.reverse) (fun b ob q=>Heap.get?_push_of_some _ q) (Nat.le_refl _) ?_,rfl,q _ (I5.hok.fresh (Nat.le_refl _))⟩;exact⟨by rw[List.length_reverse];exact hz,_,0,r.reverse,Heap.get?_push_size _ rfl⟩
end
end L2
namespace L2
open PySem PySem.Spec PyProof.Rows
section
variable{X:Cx}{C:Addr}{m x:Str}{ps:List Str}{j k:Nat}{sp:Sp}{o e:Expr}{es:List Expr}{ta:TE}{t:TA}{p pos apos:Pos}
theorem Zin(G:HasC X.prog X.w X.K X.mg X.base C x ps j sp)(hr:Room k X.A)(hg:Gl X x)(ha:PA X (e::es) t)(hk:j+1<=k:=by decide)(hdb:(x == ("__debug__" : Str))=false:=by decide)
  (he:starEach (e::es) X.env=(false,eval e X.env)::starEach es X.env:=by rfl) (hpl:(backTo pos (starEach es X.env)).any (·.1)=false:=by rfl):PE X (.Call (.Name x p) (e::es) [] pos) (ZmC C sp [] E0 t):=by
 obtain⟨f,fd,F,b,M,hm⟩:=G.ex;exact ZlL M F (hr.mono hk) hg hm b .nil Zjy ha hdb he hpl
end
end L2
namespace Stg
open PySem PyProof.Rows Sts
end Stg
namespace Fg
open PySem L2 FgM
def Zbw(ex:List Addr)(H H':Hp):Prop := ∀b o,b∉ex->H b=some o->H' b=some o
theorem Zbw.trans{ex:List Addr}{H H1 H2:Hp}(a:Zbw ex H H1)(b:Zbw ex H1 H2):Zbw ex H H2:=fun c o hc h=>b c o hc (a c o hc h)
theorem via{u t:TS}{D:Ends}{σ : St}{H:Hp}(R:St->Hp->Prop)(h2:∀ σ' H',R σ' H'->t D σ' H')(h1:(∀ σ' H',R σ' H'->t D σ' H')->u D σ H):u D σ H:=h1 h2
theorem made{H H':Hp}{x dx C:Addr}(hx:H x=none)(hdx:H dx=none)(kb:∀b o,b≠x->(upd (upd H dx (.own x)) x (.ins C dx [])) b=some o->H' b=some o):Zn H H':=fun b o e=>kb b o (Zi e hx) (by
 rw[Zc (Zi e hx),Zc (Zi e hdx)];exact e)
theorem making{H:Hp}{x dx C:Addr}(hx:H x=none)(hdx:H dx=none)(hne:dx≠x):Zn H (upd (upd H dx (.own x)) x (.ins C dx [])):=(Zn.new hdx).trans (Zn.new (by
 rw[Zc hne.symm];exact hx))
theorem ZbE{H:Hp}{x dx C b:Addr}(h:(upd (upd H dx (.own x)) x (.ins C dx [])) b=none):H b=none:=by
 by_cases h1:b=x
 ·rw[h1,Zb] at h;cases h
 ·rw[Zc h1] at h;by_cases h2:b=dx
  ·rw[h2,Zb] at h;cases h
  ·rw[Zc h2] at h;exact h
structure GvS(H H1:Hp)(R T:Addr)(as:List Addr)(gs:List (Gr Str))(ts:List Str):Prop where
 sm:Zn H H1
 hT:H1 T=some (.lst ((ts.map V.str).reverse))
 hR:H1 R=some (.lst ((as.map V.ref).reverse))
 rows:Zi0 H1 as gs
 nd:(R::T::as).Nodup
 fr:∀b∈R::T::as,H b=none
 gl:gs.length=ts.length+1
 cl:∀g∈gs,ZbG SL g
 tn:∀t∈ts,t≠SL
section
variable{H H1:Hp}{R T:Addr}{as:List Addr}{gs:List (Gr Str)}{ts:List Str}
theorem GvS.nR(h:GvS H H1 R T as gs ts):∀b∈as,b≠R:=fun b hb e=>(List.nodup_cons.mp h.nd).1 (by rw[<- e];exact List.mem_cons_of_mem _ hb)
theorem GvS.nT(h:GvS H H1 R T as gs ts):∀b∈as,b≠T:=fun b hb e=>(List.nodup_cons.mp (List.nodup_cons.mp h.nd).2).1 (by rw[<- e];exact hb)
theorem GvS.RT(h:GvS H H1 R T as gs ts):R≠T:=fun e=>(List.nodup_cons.mp h.nd).1 (by rw[e];exact List.mem_cons_self ..)
theorem GvS.start{a0 R T:Addr}(h0:H a0=none)(hR:(upd H a0 (.lst [])) R=none)(hT:(upd (upd H a0 (.lst [])) R (.lst [.ref a0])) T=none):GvS H (upd (upd (upd H a0 (.lst [])) R (.lst [.ref a0])) T (.lst [])) R T [a0] [.nil] []:=by
 obtain⟨nR0,hR'⟩:=Zk hR;obtain⟨nTR,hT2⟩:=Zk hT;obtain⟨nT0,hT'⟩:=Zk hT2;refine⟨((Zn.new h0).upd_new hR').upd_new hT',Zb,?_,.cons ⟨[],?_,.nil⟩ .nil,?_,?_,rfl,?_,fun _ h=>(nomatch h)⟩
 ·rw[Zc nTR.symm];exact Zb
 ·rw[Zc nT0.symm,Zc nR0.symm];exact Zb
 ·simp[nTR.symm,nR0,nT0]
 ·intro b hb;simp only[List.mem_cons,List.not_mem_nil,or_false] at hb;rcases hb with rfl|rfl|rfl
  ·exact hR'
  ·exact hT'
  ·exact h0
 ·intro g hg;obtain rfl:=List.mem_singleton.mp hg
  trivial
theorem GvS.opened{wd:Str}{l:Addr}(h:GvS H H1 R T as gs ts)(hw:wd≠SL)(hl:(upd H1 T (.lst ((ts.map V.str).reverse ++ [.str wd]))) l=none):GvS H (upd (upd (upd H1 T (.lst ((ts.map V.str).reverse ++ [.str wd]))) l (.lst [])) R (.lst ((as.map V.ref).reverse ++ [.ref l]))) R T (l::as) (.nil::gs) (wd::ts):=by
 obtain⟨nlT,hl1⟩:=Zk hl;have nlR:R≠l:=Zi h.hR hl1;have hRT:=h.RT;have hRb:(upd (upd H1 T (.lst ((ts.map V.str).reverse ++ [.str wd]))) l (.lst [])) R=some (.lst (as.map V.ref).reverse):=by
  rw[Zc nlR,Zc hRT];exact h.hR
 have tk:TK H1 (upd (upd (upd H1 T (.lst ((ts.map V.str).reverse ++ [.str wd]))) l (.lst [])) R (.lst ((as.map V.ref).reverse ++ [.ref l]))):=((TK.lst h.hT).trans (TK.new hl)).trans (TK.lst hRb);have nla:l∉as:=fun hb=>by
  obtain⟨o,ho⟩:=ZeG h.rows l hb;rw[hl1] at ho;cases ho
 obtain⟨ndR,ndT⟩:=List.nodup_cons.mp h.nd;obtain⟨ndT',ndA⟩:=List.nodup_cons.mp ndT;refine⟨((h.sm.upd_new (h.fr T (by simp))).upd_new (h.sm.free hl1)).upd_new (h.fr R (by simp)),?_,?_,.cons ⟨[],?_,.nil⟩ (ZdK tk h.rows fun b hb o ho=>?_),?_,?_,by rw[List.length_cons,List.length_cons,h.gl],?_,?_⟩
 ·rw[Zc hRT.symm,Zc nlT.symm,Zb,List.map_cons,List.reverse_cons]
 ·rw[Zb,List.map_cons,List.reverse_cons]
 ·rw[Zc nlR.symm];exact Zb
 ·rw[Zc (h.nR b hb),Zc (Zi ho hl1),Zc (h.nT b hb)];exact ho
 ·refine List.nodup_cons.mpr ⟨fun h=>?_,List.nodup_cons.mpr ⟨fun h=>?_,List.nodup_cons.mpr ⟨nla,ndA⟩⟩⟩
  ·rcases List.mem_cons.mp h with h|h
   ·exact hRT h
   ·rcases List.mem_cons.mp h with h|h
    ·exact nlR h
    ·exact ndR (List.mem_cons_of_mem _ h)
  ·rcases List.mem_cons.mp h with h|h
   ·exact nlT h.symm
   ·exact ndT' h
 ·intro b hb;simp only[List.mem_cons] at hb;rcases hb with rfl|rfl|rfl|hb
  ·exact h.fr _ (by simp)
  ·exact h.fr _ (by simp)
  ·exact h.sm.free hl1
  ·exact h.fr b (by simp[hb])
 ·intro g hg;rcases List.mem_cons.mp hg with rfl|hg
  ·trivial
  ·exact h.cl g hg
 ·intro x hx;rcases List.mem_cons.mp hx with rfl|hx
  ·exact hw
  ·exact h.tn x hx
end
section
variable{H H1:Hp}{R T b0 b1 l l2:Addr}{as:List Addr}{g0 g1:Gr Str}{gs:List (Gr Str)}{t:Str}{ts:List Str}{vs0 vs1:List V}
theorem GvS.two{as0:List Addr}{gs0:List (Gr Str)}(h:GvS H H1 R T as0 gs0 (t::ts)):∃b0 b1 as g0 g1 gs vs0 vs1,as0=b0::b1::as/\gs0=g0::g1::gs/\gs.length=ts.length/\H1 b0=some (.lst vs0)/\RepG H1 vs0 g0/\H1 b1=some (.lst vs1)/\RepG H1 vs1 g1 /\
  H1 R=some (.lst (((b1::as).map V.ref).reverse ++ [.ref b0]))/\H1 T=some (.lst ((ts.map V.str).reverse ++ [.str t])):=by
 have hgl:=h.gl;have hR:=h.hR;have hT:=h.hT;have hrows:=h.rows;cases gs0 with
 | nil=>simp at hgl
 | cons g0 gs =>
  cases gs with
  | nil=>simp at hgl
  | cons g1 gs =>
   cases hrows with
   | @cons b0 _ as _ r0 hrows =>
    cases hrows with
    | @cons b1 _ as _ r1 hrows =>
     obtain⟨vs0,h00,r00⟩:=r0;obtain⟨vs1,h11,r11⟩:=r1;refine⟨b0,b1,as,g0,g1,gs,vs0,vs1,rfl,rfl,by simpa using hgl,h00,r00,h11,r11,?_,?_⟩
     ·rw[hR,List.map_cons,List.reverse_cons]
     ·rw[hT,List.map_cons,List.reverse_cons]
theorem GvS.shut(h:GvS H H1 R T (b0::b1::as) (g0::g1::gs) (t::ts))(h00:H1 b0=some (.lst vs0))(r00:RepG H1 vs0 g0)(h11:H1 b1=some (.lst vs1))(r11:RepG H1 vs1 g1)
  (hl:(upd H1 R (.lst ((b1::as).map V.ref).reverse)) l=none) (hl2:(upd (upd (upd H1 R (.lst ((b1::as).map V.ref).reverse)) l (.tup vs0)) T (.lst (ts.map V.str).reverse)) l2=none) :
  GvS H (upd (upd (upd (upd (upd H1 R (.lst ((b1::as).map V.ref).reverse)) l (.tup vs0)) T (.lst (ts.map V.str).reverse)) l2 (.tup [.str t,.ref l])) b1 (.lst (vs1 ++ [.ref l2]))) R T (b1::as) (snoc g1 t g0::gs) ts:=by
 have hRT:=h.RT;have m0:b0∈b0::b1::as:=List.mem_cons_self ..;have m1:b1∈b0::b1::as:=List.mem_cons_of_mem _ (List.mem_cons_self ..);obtain⟨ndR,ndT⟩:=List.nodup_cons.mp h.nd;obtain⟨ndT',ndA⟩:=List.nodup_cons.mp ndT;obtain⟨nlR,hl1⟩:=Zk hl;have hT1:=h.hT;have hR1:=h.hR;have nlT:l≠T:=(Zi hT1 hl1).symm;have nl1:b1≠l:=Zi h11 hl1;obtain⟨n2T,hl2a⟩:=Zk hl2;obtain⟨n2l,hl2b⟩:=Zk hl2a;obtain⟨n2R,hl2c⟩:=Zk hl2b;have n21:b1≠l2:=Zi h11 hl2c;have h1b:(upd (upd H1 R (.lst ((b1::as).map V.ref).reverse)) l (.tup vs0)) b1=some (.lst vs1):=by
  rw[Zc nl1,Zc (h.nR b1 m1)];exact h11
 have h1d:(upd (upd (upd (upd H1 R (.lst ((b1::as).map V.ref).reverse)) l (.tup vs0)) T (.lst (ts.map V.str).reverse)) l2 (.tup [.str t,.ref l])) b1=some (.lst vs1):=by
  rw[Zc n21,Zc (h.nT b1 m1)];exact h1b
 have hTb:(upd (upd H1 R (.lst ((b1::as).map V.ref).reverse)) l (.tup vs0)) T=some (.lst (((t::ts).map V.str).reverse)):=by
  rw[Zc nlT.symm,Zc hRT.symm];exact hT1
 have tk:TK H1 (upd (upd (upd (upd (upd H1 R (.lst ((b1::as).map V.ref).reverse)) l (.tup vs0)) T (.lst (ts.map V.str).reverse)) l2 (.tup [.str t,.ref l])) b1 (.lst (vs1 ++ [.ref l2]))) :=
  ((((TK.lst hR1).trans (TK.new hl)).trans (TK.lst hTb)).trans (TK.new hl2)).trans (TK.lst h1d)
 have ndA2:=(List.nodup_cons.mp ndA).2;have n1as:=(List.nodup_cons.mp ndA2).1;have hrows:Zi0 H1 as gs:=by
  cases h.rows with
  | cons _ r =>
   cases r with
   | cons _ r=>exact r
 refine⟨((((h.sm.upd_new (h.fr R (by simp))).upd_new (h.sm.free hl1)).upd_new (h.fr T (by simp))).upd_new (h.sm.free hl2c)).upd_new (h.fr b1 (by simp)),?_,?_,.cons ⟨_,Zb,RepG.snoc (q:=l) (ys:=vs0) ?_ ?_ (r00.mono tk) (r11.mono tk)⟩ (ZdK tk hrows fun b hb o ho=>?_),?_,?_,?_,?_,?_⟩
 ·rw[Zc (h.nT b1 m1).symm,Zc n2T.symm,Zb]
 ·rw[Zc (h.nR b1 m1).symm,Zc n2R.symm,Zc hRT,Zc nlR.symm,Zb]
 ·rw[Zc n21.symm];exact Zb
 ·rw[Zc nl1.symm,Zc n2l.symm,Zc nlT];exact Zb
 ·have mb:b∈b0::b1::as:=List.mem_cons_of_mem _ (List.mem_cons_of_mem _ hb);have nb1:b≠b1:=fun e=>n1as (by rw[<- e];exact hb);rw[Zc nb1,Zc (Zi ho hl2c),Zc (h.nT b mb),Zc (Zi ho hl1),Zc (h.nR b mb)];exact ho
 ·refine List.nodup_cons.mpr ⟨fun h=>?_,List.nodup_cons.mpr ⟨fun h=>ndT' (List.mem_cons_of_mem _ h),ndA2⟩⟩;rcases List.mem_cons.mp h with h|h
  ·exact hRT h
  ·exact ndR (List.mem_cons_of_mem _ (List.mem_cons_of_mem _ h))
 ·intro b hb;refine h.fr b ?_;simp only[List.mem_cons] at hb ⊢;rcases hb with h|h|h|h
  ·exact .inl h
  ·exact .inr (.inl h)
  ·exact .inr (.inr (.inr (.inl h)))
  ·exact .inr (.inr (.inr (.inr h)))
 ·have:=h.gl
  simpa using this
 ·intro g hg;rcases List.mem_cons.mp hg with rfl|hg
  ·exact ZeH (h.tn t (List.mem_cons_self ..)) (h.cl g0 (List.mem_cons_self ..)) (h.cl g1 (List.mem_cons_of_mem _ (List.mem_cons_self ..)))
  ·exact h.cl g (List.mem_cons_of_mem _ (List.mem_cons_of_mem _ hg))
 ·exact fun x hx=>h.tn x (List.mem_cons_of_mem _ hx)
theorem GvS.f1(h:GvS H H1 R T (b0::b1::as) (g0::g1::gs) (t::ts))(h00:H1 b0=some (.lst vs0)):(upd H1 R (.lst ((b1::as).map V.ref).reverse)) b0=some (.lst vs0):=by
 rw[Zc (h.nR b0 (List.mem_cons_self ..))];exact h00
theorem GvS.f2(h:GvS H H1 R T (b0::b1::as) (g0::g1::gs) (t::ts))(h11:H1 b1=some (.lst vs1))(hl:(upd H1 R (.lst ((b1::as).map V.ref).reverse)) l=none) :
  (upd (upd H1 R (.lst ((b1::as).map V.ref).reverse)) l (.tup vs0)) R=some (.lst ((as.map V.ref).reverse ++ [.ref b1]))/\(upd (upd H1 R (.lst ((b1::as).map V.ref).reverse)) l (.tup vs0)) b1=some (.lst vs1) /\
  (upd (upd H1 R (.lst ((b1::as).map V.ref).reverse)) l (.tup vs0)) T=some (.lst ((ts.map V.str).reverse ++ [.str t])):=by
 obtain⟨nlR,hl1⟩:=Zk hl;have nlT:l≠T:=(Zi h.hT hl1).symm;have nl1:b1≠l:=Zi h11 hl1;refine⟨?_,?_,?_⟩
 ·rw[Zc nlR.symm,Zb,List.map_cons,List.reverse_cons]
 ·rw[Zc nl1,Zc (h.nR b1 (List.mem_cons_of_mem _ (List.mem_cons_self ..)))];exact h11
 ·rw[Zc nlT.symm,Zc h.RT.symm,h.hT,List.map_cons,List.reverse_cons]
theorem GvS.f3(h:GvS H H1 R T (b0::b1::as) (g0::g1::gs) (t::ts))(h11:H1 b1=some (.lst vs1))(hl:(upd H1 R (.lst ((b1::as).map V.ref).reverse)) l=none)(hl2:(upd (upd (upd H1 R (.lst ((b1::as).map V.ref).reverse)) l (.tup vs0)) T (.lst (ts.map V.str).reverse)) l2=none) :
  (upd (upd (upd (upd H1 R (.lst ((b1::as).map V.ref).reverse)) l (.tup vs0)) T (.lst (ts.map V.str).reverse)) l2 (.tup [.str t,.ref l])) b1=some (.lst vs1):=by
 obtain⟨_,hl2a⟩:=Zk hl2;obtain⟨_,hl2b⟩:=Zk hl2a;obtain⟨_,hl2c⟩:=Zk hl2b;rw[Zc (Zi h11 hl2c),Zc (h.nT b1 (List.mem_cons_of_mem _ (List.mem_cons_self ..)))];exact(h.f2 h11 hl).2.1
theorem Zfo(hgs:gs.length=ts.length):(Zbb SL (snoc g1 t g0::gs) ts).length=(Zbb SL (g0::g1::gs) (t::ts)).length+1/\(∀x∈Zbb SL (snoc g1 t g0::gs) ts,x=SL\/x∈Zbb SL (g0::g1::gs) (t::ts))/\(words SL g1).length<=(Zbb SL (g0::g1::gs) (t::ts)).length:=by
 have e:=ZgM SL t (w:=g0) (r:=g1) hgs;refine⟨?_,fun x hx=>?_,?_⟩
 ·rw[e,List.length_append,List.length_singleton]
 ·rw[e] at hx;rcases List.mem_append.mp hx with hx|hx
  ·exact .inr hx
  ·exact .inl (List.mem_singleton.mp hx)
 ·have h1:=Zku SL (r:=g1) hgs;simp only[Zbb,List.length_append];lia
end
def gsz:Gr Str->Nat
 | .nil=>0
 | .cons _ w o=>1+gsz w+gsz o
def Zbo:Gr Str->Nat
 | .nil=>0
 | .cons _ w o=>max (Zbo w+1) (Zbo o)
def Zf7:Gr Str->List (Gr Str)
 | .nil=>[]
 | .cons _ w o=>w::Zf7 o
theorem ZR:∀g:Gr Str,(words SL g).length=2*gsz g
 | .nil=>rfl
 | .cons t w o=>by
  have h1:=ZR w;have h2:=ZR o;simp only[words,gsz,List.length_cons,List.length_append];lia
theorem ZgS:∀g:Gr Str,Zbo g<=gsz g
 | .nil=>Nat.le_refl _
 | .cons t w o=>by
  have h1:=ZgS w;have h2:=ZgS o;simp only[Zbo,gsz];lia
theorem Zf6:∀{g w:Gr Str},w∈Zf7 g->Zbo w<Zbo g
 | .cons t w' o,w,h=>by
  simp only[Zbo];rcases List.mem_cons.mp h with rfl|h
  ·lia
  ·have:=Zf6 h;lia
theorem ZiC:∀{g w:Gr Str},w∈Zf7 g->gsz w<gsz g
 | .cons t w' o,w,h=>by
  simp only[gsz];rcases List.mem_cons.mp h with rfl|h
  ·lia
  ·have:=ZiC h;lia
theorem Zg1:∀g:Gr Str,(Zf7 g).length<=gsz g
 | .nil=>Nat.le_refl _
 | .cons t w o=>by
  have:=Zg1 o;simp only[Zf7,gsz,List.length_cons];lia
theorem RepG.kids{H:Hp}:∀{xs:List V}{g:Gr Str},RepG H xs g->xs.length=(Zf7 g).length
 | _,_,.nil=>rfl
 | _,_,.cons _ _ _ t=>by
  show _+1=_+1;rw[RepG.kids t]
def prs:Nat->Gr Str->List (Nat×Nat)
 | _,.nil=>[]
 | k,.cons _ w o=>prs (k+1) w++(k,k+1+2*gsz w)::prs (k+2+2*gsz w) o
def atG:Gr Str->Nat->Gr Str
 | .nil,_=>.nil
 | .cons t w o,0=>.cons t w o
 | .cons _ w o,i+1=>if i<=2*gsz w then atG w i else atG o (i-(2*gsz w+1))
theorem Zck:∀g:Gr Str,atG g 0=g
 | .nil=>rfl
 | .cons _ _ _=>rfl
theorem Zco{t:Str}{w o:Gr Str}{i:Nat}(h:i<=2*gsz w):atG (.cons t w o) (i+1)=atG w i:=by
 show(if i<=2*gsz w then _ else _)=_
 rw[if_pos h]
theorem ZbF{t:Str}{w o:Gr Str}{i:Nat}:atG (.cons t w o) (i+2*gsz w+2)=atG o i:=by
 show(if i+2*gsz w+1<=2*gsz w then _ else _)=_
 rw[if_neg (by lia)]
 congr 1
 lia
theorem Ze4{t:Str}{w o:Gr Str}{j:Nat}(h:j<2*gsz w):(words SL (.cons t w o))[j+1]?= (words SL w)[j]? := by
 show(t::(words SL w++SL::words SL o))[j+1]?= _;rw[List.getElem?_cons_succ,List.getElem?_append_left (by rw[ZR];exact h)]
theorem Zim{t:Str}{w o:Gr Str}:(words SL (.cons t w o))[2*gsz w+1]?= some SL:=by
 show(t::(words SL w++SL::words SL o))[2*gsz w+1]?= _;rw[List.getElem?_cons_succ,List.getElem?_append_right (by rw[ZR];exact Nat.le_refl _),ZR,Nat.sub_self];rfl
theorem ZdZ{t:Str}{w o:Gr Str}{j:Nat}:(words SL (.cons t w o))[j+2*gsz w+2]?= (words SL o)[j]? := by
 show(t::(words SL w++SL::words SL o))[j+2*gsz w+1+1]?= _;rw[List.getElem?_cons_succ,List.getElem?_append_right (by rw[ZR];lia),ZR,show j+2*gsz w+1-2*gsz w=j+1 by lia,List.getElem?_cons_succ]
theorem ZdN:∀(g:Gr Str)(ws:List Str)(k:Nat),ZbG SL g->(∀j,j<2*gsz g->ws[k+j]?= (words SL g)[j]?)->cst ws (k+2*gsz g)=((cst ws k).1,(cst ws k).2++prs k g)
 | .nil,ws,k,_,_=>by
  show cst ws k=((cst ws k).1,(cst ws k).2 ++ []);rw[List.append_nil]
 | .cons t w o,ws,k,hc,h=>by
  obtain⟨ht,hw,ho⟩:=hc;have hz:gsz (.cons t w o)=1+gsz w+gsz o:=rfl;have h0:ws[k]?= some t:=h 0 (by rw[hz];lia);have e1:=ZgC h0 ht;have e2:=ZdN w ws (k+1) hw fun j hj=>by
   have:=h (j+1) (by rw[hz];lia);rw[Ze4 hj] at this;rw[<- this]
   congr 1
   lia
  have h3:ws[k+1+2*gsz w]?= some SL:=by
   have:=h (2*gsz w+1) (by rw[hz];lia);rw[Zim] at this;rw[<- this]
   congr 1
   lia
  rw[e1] at e2;have e3:=Zgw (i:=k+1+2*gsz w) (o:=k) (os:=(cst ws k).1) h3 (by rw[e2]);have e4:=ZdN o ws (k+2+2*gsz w) ho fun j hj=>by
   have:=h (j+2*gsz w+2) (by rw[hz];lia);rw[ZdZ] at this;rw[<- this]
   congr 1
   lia
  rw[show k+2*gsz (.cons t w o)=k+2+2*gsz w+2*gsz o by rw[hz];lia,e4,show k+2+2*gsz w=k+1+2*gsz w+1 by lia,e3,e2];show _=(_,_++(prs (k+1) w++(k,k+1+2*gsz w)::prs (k+2+2*gsz w) o));rw[show k+2+2*gsz w=k+1+2*gsz w+1 by lia];simp
theorem Zhh:∀(g:Gr Str)(k p e:Nat),(p,e)∈prs k g->∃i,p=k+i/\∃t w o,atG g i=.cons t w o/\e=p+1+2*gsz w/\atG g (i+1)=w/\atG g (i+2*gsz w+2)=o/\(words SL g)[i]?= some t/\i+2*gsz w+2<=2*gsz g
 | .cons t w o,k,p,e,h=>by
  have hz:gsz (.cons t w o)=1+gsz w+gsz o:=rfl;rcases List.mem_append.mp h with h|h
  ·obtain⟨i,rfl,t',w',o',h1,h2,h3,h4,h5,h6⟩:=Zhh w (k+1) p e h;refine⟨i+1,by lia,t',w',o',?_,h2,?_,?_,?_,by rw[hz];lia⟩
   ·rw[Zco (by lia)];exact h1
   ·rw[Zco (by lia)];exact h3
   ·rw[show i+1+2*gsz w'+2=(i+2*gsz w'+2)+1 by lia,Zco (by lia)];exact h4
   ·rw[Ze4 (by lia)];exact h5
  ·rcases List.mem_cons.mp h with h|h
   ·injection h with h1 h2;subst h1 h2;refine⟨0,rfl,t,w,o,rfl,rfl,?_,?_,rfl,by rw[hz];lia⟩
    ·rw[Zco (Nat.zero_le _)];exact Zck w
    ·rw[ZbF];exact Zck o
   ·obtain⟨i,rfl,t',w',o',h1,h2,h3,h4,h5,h6⟩:=Zhh o (k+2+2*gsz w) p e h;refine⟨i+2*gsz w+2,by lia,t',w',o',?_,h2,?_,?_,?_,by rw[hz];lia⟩
    ·rw[ZbF];exact h1
    ·rw[show i+2*gsz w+2+1=i+1+2*gsz w+2 by lia,ZbF];exact h3
    ·rw[show i+2*gsz w+2+2*gsz w'+2=(i+2*gsz w'+2)+2*gsz w+2 by lia,ZbF];exact h4
    ·rw[ZdZ];exact h5
theorem Zi4:∀(g:Gr Str)(k i:Nat),k+i∉(prs k g).map (·.1)->i<=2*gsz g->atG g i=.nil
 | .nil,_,_,_,_=>rfl
 | .cons t w o,k,i,h,hi=>by
  have hz:gsz (.cons t w o)=1+gsz w+gsz o:=rfl;have h':k+i∉(prs (k+1) w).map (·.1)/\k+i≠k/\k+i∉(prs (k+2+2*gsz w) o).map (·.1):=by
   have e:(prs k (.cons t w o)).map (·.1)=(prs (k+1) w).map (·.1)++k::(prs (k+2+2*gsz w) o).map (·.1):=by
    show(prs (k+1) w++(k,k+1+2*gsz w)::prs (k+2+2*gsz w) o).map (·.1)=_;rw[List.map_append,List.map_cons]
   rw[e,List.mem_append,List.mem_cons] at h;exact⟨fun z=>h (.inl z),fun z=>h (.inr (.inl z)),fun z=>h (.inr (.inr z))⟩
  obtain⟨h1,h2,h3⟩:=h'
  match i,h1,h2,h3,hi with
  | 0,_,h2,_,_=>exact absurd rfl h2
  | i+1,h1,_,h3,hi =>
   by_cases c:i<=2*gsz w
   ·rw[Zco c];exact Zi4 w (k+1) i (by rw[show k+1+i=k+(i+1) by lia];exact h1) c
   ·obtain⟨j,rfl⟩:∃j,i=j+2*gsz w+1:=⟨i-(2*gsz w+1),by lia⟩;rw[show j+2*gsz w+1+1=j+2*gsz w+2 by lia,ZbF];exact Zi4 o (k+2+2*gsz w) j (by rw[show k+2+2*gsz w+j=k+(j+2*gsz w+1+1) by lia];exact h3) (by rw[hz] at hi;lia)
end Fg
namespace L2
open PySem PySem.Spec PyProof.Rows
section
variable{X:Cx}
theorem Zfd{K:PySem.W.Frag}(hK:X.K=K):Zc6 X (.builtin "len") (fun xs H Q=>∃p ys,xs=[.ref p]/\(SqL K H p ys\/SqT K H p ys)/\Q (.int ys.length) H):=hK ▸ ZS
end
end L2
namespace Fg
open PySem L2 FgM
def Zbk:Nat->Gr Str->Gr Str
 | 0,_=>.nil
 | _+1,.nil=>.nil
 | i+1,.cons t w o=>.cons t w (Zbk i o)
theorem RepG.tree{H:Hp}:∀{xs:List V}{g:Gr Str},RepG H xs g->∀(i:Nat) z,xs[i]?= some z->∃p q t ys w,z=V.ref p/\H p=some (.tup [.str t,.ref q])/\H q=some (.tup ys)/\RepG H ys w/\Zbk (i+1) g=FgM.ZaK (Zbk i g) (FgM.Gr.cons t w FgM.Gr.nil)/\w∈Zf7 g
 | _,_,.cons h1 h2 h3 t,i,z,hz=>by
  cases i with
  | zero =>
   injection hz with hz;subst hz;exact⟨_,_,_,_,_,rfl,h1,h2,h3,rfl,List.mem_cons_self ..⟩
  | succ i =>
   obtain⟨p,q,t',ys,w,e1,e2,e3,e4,e5,e6⟩:=RepG.tree t i z hz;refine⟨p,q,t',ys,w,e1,e2,e3,e4,?_,List.mem_cons_of_mem _ e6⟩;show Gr.cons _ _ (Zbk (i+1) _)=Gr.cons _ _ (FgM.ZaK (Zbk i _) _);rw[e5]
theorem RepG.take_all{H:Hp}:∀{xs:List V}{g:Gr Str},RepG H xs g->Zbk xs.length g=g
 | _,_,.nil=>rfl
 | _,_,.cons _ _ _ t=>by
  show Gr.cons _ _ (Zbk _ _)=_;rw[RepG.take_all t]
theorem Zbn:∀a b:Gr Str,gsz (ZaK a b)=gsz a+gsz b
 | .nil,b=>by simp[ZaK,gsz]
 | .cons t w o,b=>by simp only[ZaK,gsz,Zbn o b];lia
theorem ZbP:∀a b:Gr Str,Zbo (ZaK a b)=max (Zbo a) (Zbo b)
 | .nil,b=>by simp[ZaK,Zbo]
 | .cons t w o,b=>by simp only[ZaK,Zbo,ZbP o b];lia
def ZbM(ts:List Str):Gr Str->Prop
 | .nil=>True
 | .cons t w o=>t∈ts/\ZbM ts w/\ZbM ts o
theorem ZbM.app{ts:List Str}:∀{a b:Gr Str},ZbM ts a->ZbM ts b->ZbM ts (ZaK a b)
 | .nil,_,_,h=>h
 | .cons _ _ _,_,⟨h1,h2,h3⟩,h=>⟨h1,h2,ZbM.app h3 h⟩
theorem ZbM.clean{ts:List Str}(ht:∀t∈ts,t≠SL):∀{g:Gr Str},ZbM ts g->ZbG SL g
 | .nil,_=>trivial
 | .cons _ _ _,⟨h1,h2,h3⟩=>⟨ht _ h1,ZbM.clean ht h2,ZbM.clean ht h3⟩
theorem ZbM.of{ts:List Str}:∀{g:Gr Str},ZbG SL g->(∀x∈words SL g,x=SL\/x∈ts)->ZbM ts g
 | .nil,_,_=>trivial
 | .cons t w o,⟨h1,h2,h3⟩,h=>⟨(h t (by simp[words])).resolve_left h1,ZbM.of h2 fun x hx=>h x (by simp[words,hx]),ZbM.of h3 fun x hx=>h x (by simp[words,hx])⟩
theorem ZbM.words{ts:List Str}:∀{g:Gr Str},ZbM ts g->∀x∈words SL g,x=SL\/x∈ts
 | .nil,_,_,h=>nomatch h
 | .cons t w o,⟨h1,h2,h3⟩,x,h=>by
  simp only[FgM.words,List.mem_cons,List.mem_append] at h;rcases h with rfl|h|rfl|h
  ·exact .inr h1
  ·exact ZbM.words h2 x h
  ·exact .inl rfl
  ·exact ZbM.words h3 x h
end Fg
namespace Srd
open PySem PyProof.Rows
section
variable{prog:Program}{w:World}{A:Around}{E:Value->Shared->Prop}{R:Result->Shared->Prop}
abbrev TK3:=List L2.Key×Addr×Value
def ZaR(m:List TK3)(ps:List TK3):List TK3:=ps.foldl (fun m p=>storedH m p.1 p.2.1 p.2.2) m
theorem ZgR{m:List TK3}{k:List L2.Key}{a:Addr}{v:Value}{x:TK3}(h:x∈storedH m k a v):(∃y∈m,y.1=x.1/\y.2.1=x.2.1)\/(x.1=k/\x.2.1=a):=by
 unfold storedH at h
 split at h
 ·obtain⟨y,hy,rfl⟩:=List.mem_map.mp h;refine .inl ⟨y,hy,?_⟩;unfold putAt
  split <;> exact⟨rfl,rfl⟩
 ·rcases List.mem_append.mp h with h|h
  ·exact .inl ⟨x,h,rfl,rfl⟩
  ·rw[List.mem_singleton.mp h];exact .inr ⟨rfl,rfl⟩
theorem Zf3(m:List TK3)(k:List L2.Key)(a:Addr)(v:Value):(storedH m k a v).length<=m.length+1:=by
 unfold storedH
 split
 ·rw[List.length_map];lia
 ·rw[List.length_append];exact Nat.le_refl _
theorem Zea:∀(ps m:List TK3),(ZaR m ps).length<=m.length+ps.length
 | [],m=>Nat.le_refl _
 | p::ps,m=>by
  have h1:=Zea ps (storedH m p.1 p.2.1 p.2.2);have h2:=Zf3 m p.1 p.2.1 p.2.2;show(ZaR (storedH m p.1 p.2.1 p.2.2) ps).length<=_;rw[List.length_cons];lia
theorem ZeF{D:Addr}:∀(ps m:List TK3),(∀x∈m,x.2.1<D)->(∀x∈ps,x.2.1<D)->∀x∈ZaR m ps,x.2.1<D
 | [],m,h,_=>h
 | p::ps,m,h,hp=>ZeF ps _ (fun x hx=>by
   rcases ZgR hx with⟨y,hy,_,e⟩|⟨_,e⟩
   ·rw[<- e];exact h y hy
   ·rw[e];exact hp p (List.mem_cons_self ..)) fun x hx=>hp x (List.mem_cons_of_mem _ hx)
theorem ZfA(ps:List TK3)(i:Nat)(p:TK3)(h:ps[i]?= some p):ZaR [] (ps.take (i+1))=storedH (ZaR [] (ps.take i)) p.1 p.2.1 p.2.2:=by
 unfold ZaR;have e:ps.take (i+1)=ps.take i ++ [p]:=by
  obtain⟨hi,e⟩:=List.getElem?_eq_some_iff.mp h;rw[List.take_succ_eq_append_getElem hi,e]
 rw[e,List.foldl_append];rfl
abbrev tkn(prog:Program)(w:World):HeapKind prog w (List L2.Key):=tupleKind (L2.ZX prog w)
theorem Zhe{h h':Heap}{k:List L2.Key}{a:Addr}(x:(tkn prog w).is h k a)(e:∀o,h.get? a=some o->h'.get? a=some o):(tkn prog w).is h' k a:=by
 obtain⟨o,its,n,h1,h2⟩:=x;exact⟨o,its,n,e o h1,h2⟩
def ZlB(prog:Program)(w:World)(h:Heap)(v:Value)(p:TK3):Prop := ∃b o n,v=.ref b/\h.get? b=some o/\o.cls=.type "tuple" /\ o.data=.seq #[.ref p.2.1,p.2.2] n/\(tkn prog w).is h p.1 p.2.1
def ZkI(prog:Program)(w:World)(h0:Heap)(d:Addr)(items:Array Value)(ps:List TK3):Prop:=items.size=ps.length/\(∀p∈ps,p.2.1<d)/\∀(i:Nat) v p,items[i]?= some v->ps[i]?= some p->∀h:Heap,(∀b o,b<d->h0.get? b=some o->h.get? b=some o)->ZlB prog w h v p
theorem Zgz{s:Shared}{v:Value}{p:TK3}{Q:List Value->Shared->Prop}(hp:ZlB prog w s.heap v p)(q:(tkn prog w).is s.heap p.1 p.2.1->Q [.ref p.2.1,p.2.2] s):wpAny (model prog w) A (Builtin.Dict.pairItems v) Q E s:=by
 obtain⟨b,o,n,rfl,ho,hc,hd,hk⟩:=hp;unfold Builtin.Dict.pairItems;refine wpAny_bind (wpAny_typeOf (T := "tuple") ⟨o,ho,hc⟩ ?_);rw[if_pos (by decide)];exact wpAny_bind (wpAny_seqItems ho hd (wpAny_pure (q hk)))
set_option maxHeartbeats 1000000 in
theorem ZhP{h0:Heap}{D I l:Addr}{items:Array Value}{ps:List TK3}(hh:A.in1.handled=none)(hu:(tkn prog w).room A.in1)(ht:ZkI prog w h0 D items ps)(hDI:D<I)(hlI:l≠I)(hn:items.size<=100000):∀(k i:Nat)(j:Int)(jt:Tok)(s:Shared),items.size-i=k->i<=items.size->(s.heap.IsListIter I l i/\s.heap.IsList l items)->l<D->s.heap.DictOfH (tkn prog w) D (ZaR [] (ps.take i))->(∀b o,b<D->h0.get? b=some o->s.heap.get? b=some o) ->
   (∀h' tk,h'.DictOfH (tkn prog w) D (ZaR [] ps)->(∀b o,b<D->h0.get? b=some o->h'.get? b=some o)->R (.ok (.ret .none)) { s with heap:=h',toks:=tk })->codeAny (model prog w) A (.builtin "dict.update.loop" ⟨[.ref D,.ref I,.int j jt,.none],[]⟩) R s:=by
 have W:=Walks.list (prog:=prog) (w:=w) (A:=A.in1) hh I l hlI items;have DK:∀{h h':Heap}{i:Nat},h.DictOfH (tkn prog w) D (ZaR [] (ps.take i))->(∀b o,b<=D->h.get? b=some o->h'.get? b=some o)->h'.DictOfH (tkn prog w) D (ZaR [] (ps.take i)):=fun{h h' i} ⟨o,es,ep,ho,h1,h2,h3,h4,h5⟩ hk=>⟨o,es,ep,hk D o (Nat.le_refl _) ho,h1,h2,h3,fun x hx=>Zhe (h4 x hx) fun o e=>hk _ o (Nat.le_of_lt (ZeF _ [] (fun _ h=>nomatch h) (fun y hy=>ht.2.1 y (List.mem_of_mem_take hy)) x hx)) e,h5⟩
 intro k
 induction k with
 | zero =>
  intro i j jt s hk hi hst hlD hd hb hR;obtain rfl:i=items.size:=by lia
  refine codeAny_builtin Z8 ?_;rw[Around.under_plainId Zq _];change wpAny _ A.in1 (pyNext (.ref I) >>= _) _ _ s;refine wpAny_bind (W.done s _ _ hst fun h' tk hm=>?_);change wpAny _ A.in1 (Builtin.Dict.addKeywords D [] >>= fun _=>ret Value.none) _ _ _;refine wpAny_bind ?_;unfold Builtin.Dict.addKeywords;refine wpAny_pure (wpAny_pure ?_);have hd':=DK hd fun b o hb' e=>hm b o (fun z=>Nat.lt_irrefl _ (Nat.lt_of_le_of_lt (List.mem_singleton.mp z ▸ hb') hDI)) e;rw[ht.1,List.take_length] at hd';exact hR h' tk hd' fun b o hb' e=>hm b o (fun z=>Nat.lt_irrefl _ (Nat.lt_trans (List.mem_singleton.mp z ▸ hb') hDI)) (hb b o hb' e)
 | succ k ih =>
  intro i j jt s hk hi hst hlD hd hb hR;have hlt:i<items.size:=by lia
  refine codeAny_builtin Z8 ?_;rw[Around.under_plainId Zq _];change wpAny _ A.in1 (pyNext (.ref I) >>= _) _ _ s;refine wpAny_bind (W.item i s _ _ hlt hst fun v h' tk hP hst' hm=>?_);have hd':=DK hd fun b o hb' e=>hm b o (fun z=>Nat.lt_irrefl _ (Nat.lt_of_le_of_lt (List.mem_singleton.mp z ▸ hb') hDI)) e;have hb1:∀b o,b<D->h0.get? b=some o->h'.get? b=some o:=fun b o hb' e=>hm b o (fun z=>Nat.lt_irrefl _ (Nat.lt_trans (List.mem_singleton.mp z ▸ hb') hDI)) (hb b o hb' e);have hpl:i<ps.length:=by have:=ht.1;lia
  have hp:=ht.2.2 i v ps[i] hP (List.getElem?_eq_getElem hpl) h' hb1;refine wpAny_bind (wpAny_holding (wpAny_bind (wpAny_tryCatch (Zgz (s:={ s with heap:=h',toks:=tk }) hp fun huk=>?_))));dsimp only;have hml:(ZaR [] (ps.take i)).length<=sizeLine:=by
   have:=Zea (ps.take i) [];rw[List.length_take] at this;have h0l:([]:List TK3).length=0:=rfl;have:=ht.1;rw[sizeLine_eq];lia
  refine wpAny_holding (wpAny_dictSet_heap (s:={ s with heap:=h',toks:=tk }) (hsz:=hml) hu huk hd' fun h2 hd2 sb=>?_);have hk2:∀b o,b≠D->h'.get? b=some o->h2.get? b=some o:=fun b o hb e=>(sb.2 b hb).trans e;refine wpAny_pure ⟨plainId_quiet Zq _,ih (i+1) (j+1) 0 _ (by lia) hlt ?_ hlD ?_ (fun b o hb' e=>hk2 b o (Nat.ne_of_lt hb') (hb1 b o hb' e)) fun h3 tk3 hw3 hb3=>hR h3 tk3 hw3 hb3⟩
  ·refine W.frame _ h' h2 hst' fun b hb o e=>hk2 b o (fun z=>?_) e;simp only[List.mem_cons,List.not_mem_nil,or_false] at hb;rcases hb with rfl|rfl
   ·exact Nat.lt_irrefl _ (z ▸ hDI)
   ·exact Nat.lt_irrefl _ (z ▸ hlD)
  ·rw[ZfA ps i ps[i] (List.getElem?_eq_getElem hpl)];exact hd2
set_option maxHeartbeats 1000000 in
theorem Zc5{s:Shared}{l:Addr}{items:Array Value}{n:Nat}{sl:Array (Option Value)}{ps:List TK3}{Q:Value->Shared->Prop}(hh:A.handled=none)(hu:A.units+2<cLine)(hl:s.heap.get? l=some { cls:=.type "list",dict:=none,data:=.seq items n,slots:=sl }) (ht:ZkI prog w s.heap s.heap.objs.size items ps) (hn:items.size<=100000)
  (q:∀(h':Heap)(tk:Nat),h'.DictOfH (tkn prog w) s.heap.objs.size (ZaR [] ps)->(∀b o,s.heap.get? b=some o->h'.get? b=some o)->Q (.ref s.heap.objs.size) { s with heap:=h',toks:=tk }) :
  wpAny (model prog w) A (call (.type "dict") [.ref l]) Q E s:=by
 refine callType_codes (Q₁ := fun obj s₁=>obj=.ref s.heap.objs.size/\s₁ = { s with heap:=s.heap.push { cls:=.type "dict",data:=.dict #[] } }) F.kt_called_dict (F.kt_typeCall_dict_1 _) F.entry_dict_init (kt_code_dict_new _ ⟨rfl,rfl⟩) ?_;rintro obj s₁ ⟨rfl,rfl⟩;have hnew:(s.heap.push { cls:=.type "dict",data:=.dict #[] }).DictOfH (tkn prog w) s.heap.objs.size []:=Heap.DictOfH.new s.heap;have hl1:(s.heap.push { cls:=.type "dict",data:=.dict #[] }).get? l=some { cls:=.type "list",dict:=none,data:=.seq items n,slots:=sl }:=Heap.get?_push_of_some _ hl;have hlD:l<s.heap.objs.size:=Heap.lt_size hl;have k0:∀b o,b<s.heap.objs.size->s.heap.get? b=some o->(s.heap.push { cls:=.type "dict",data:=.dict #[] }).get? b=some o:=fun b o _ e=>Heap.get?_push_of_some _ e;have z0:(s.heap.push { cls:=.type "dict",data:=.dict #[] }).objs.size=s.heap.objs.size+1:=Heap.size_push ..;refine⟨hnew.typeIs,F.args_dict_init_2 _ _,?_⟩;generalize s.heap.push { cls:=.type "dict",data:=.dict #[] }=h1 at hnew hl1 k0 z0;unfold Builtin.«dict.__init__»;refine wpAny_bind ?_;unfold Builtin.Dict.selfAndRest;refine wpAny_bind (wpAny_notOrdered_dict hnew.typeIs ?_);show wpAny _ _ (pure (s.heap.objs.size,[Value.ref l])) _ _ _;refine wpAny_pure ?_;show wpAny _ _ (Builtin.Dict.updateFrom "dict.__init__" s.heap.objs.size (.ref l) [] .none) _ _ _;unfold Builtin.Dict.updateFrom;refine wpAny_bind (wpAny_typeOf (T := "list") ⟨_,hl1,rfl⟩ ?_);rw[if_pos (by decide)];refine wpAny_bind (Zb7 hh hl1 fun h2 tk2 k2 z2=>?_);rw[if_pos (show(none:Option Value).isNone=true from rfl)];refine wpAny_bind (wpAny_rule ?_);have hl2:=k2 _ _ hl1;have hL2:h2.IsList l items:=⟨_,hl2,rfl,n,rfl⟩;refine wpAny_bind (wpAny_pyIter_list hL2 ?_);have hd3:(h2.push { cls:=.type "list_iterator",data:=.fields #[.ref l,.int 0 0] }).DictOfH (tkn prog w) s.heap.objs.size []:=by
  obtain⟨o,es,ep,ho,h1,h2,h3,h4,h5⟩:=hnew;exact⟨o,es,ep,Heap.get?_push_of_some _ (k2 _ _ ho),h1,h2,h3,fun x hx=>(nomatch hx),h5⟩
 have hsz:s.heap.objs.size<h2.objs.size:=by lia
 refine wpAny_pure ⟨plainId_quiet Zq _,?_⟩;refine ZhP (h0:=s.heap) (by simpa using hh) ?_ ht hsz (Nat.ne_of_lt (Nat.lt_trans hlD hsz)) hn (items.size-0) 0 0 0 _ rfl (Nat.zero_le _) ⟨⟨_,Heap.get?_push_size _ rfl,rfl,rfl⟩,hL2.push _⟩ hlD hd3 (fun b o hb e=>Heap.get?_push_of_some _ (k2 _ _ (k0 b o hb e))) fun h' tk hd' hb'=>?_
 ·exact tupleKind_room_in1 (by show _<cLine;simp;lia)
 exact⟨rfl,q h' tk hd' fun b o e=>hb' b o (Heap.lt_size e) e⟩
end
end Srd
namespace L2
open PySem PySem.Spec PyProof.Rows PySem.W Srd
def putAllT(kvs:List (List Key×V)):List (List Key×V):=kvs.foldl (fun m kv=>putK m kv.1 kv.2) []
theorem ZbK:∀(kvs m:List (List Key×V)),(kvs.foldl (fun m kv=>putK m kv.1 kv.2) m).length<=m.length+kvs.length
 | [],m=>Nat.le_refl _
 | kv::kvs,m=>by
  have h1:=ZbK kvs (putK m kv.1 kv.2);have h2:=Za3 m kv.1 kv.2;rw[List.length_cons,List.foldl_cons];lia
theorem ZkW{H:Hp}:∀{kvs:List (List Key×V)}{ps:List TK3}{m:List (List Key×V)}{m':List TK3},KT H kvs ps->KT H m m'->KT H (kvs.foldl (fun m kv=>putK m kv.1 kv.2) m) (ZaR m' ps)
 | _,_,_,_,.nil,h=>h
 | _,_,m,m',.cons (a:=kv) (b:=p) r t,h=>by
  have e:p.1=kv.1:=r.1.symm;have h1:=h.put kv.1 r.2.1 r.2.2;have h2:=ZkW t h1;show KT H (List.foldl _ (putK m kv.1 kv.2) _) (ZaR (storedH m' p.1 p.2.1 p.2.2) _);rw[e];exact h2
section
variable{X:Cx}
theorem ZdA(hc:X.calm=true)(hu:X.A.units+2<cLine):Zc6 X (.type "dict") (fun xs H Q=>∃l ys kvs,xs=[.ref l]/\SqL X.K H l ys/\ys.length<=90000/\Paired (fun(y:V)(kv:List Key×V)=>∃t b,y=.ref t/\H t=some (.tup [.ref b,kv.2])/\H b=some (.tup (kv.1.map kV))) ys kvs/\∀d,H d=none->Q (.ref d) (upd H d (.dT (putAllT kvs)))):=by
 intro pins s σ H xs us Q I r h;obtain⟨l,ys,kvs,rfl,hq,hlen,hp,q⟩:=h;obtain⟨u,rfl,ru⟩:=vals1 r;cases ru;obtain⟨its,rv,⟨o,n,ho,ocl,odi,oda⟩,hz⟩:=I.list hq;have hl:=rv.length;obtain⟨ocls,odict,odata,oslots⟩:=o;simp only at ocl odi oda;subst ocl odi oda;have key:∀{ys:List V}{kvs:List (List Key×V)}{its:List Value},Paired (fun(y:V)(kv:List Key×V)=>∃t b,y=.ref t/\H t=some (.tup [.ref b,kv.2])/\H b=some (.tup (kv.1.map kV))) ys kvs->Vals ys its->∃ps:List TK3,KT H kvs ps/\its.length=ps.length/\(∀p∈ps,p.2.1<s.heap.objs.size)/\∀(i:Nat) v p,its[i]?= some v->ps[i]?= some p->ZlB X.prog X.w s.heap v p:=by
  intro ys kvs its hp
  induction hp generalizing its with
  | nil =>
   intro rv;cases rv;exact⟨[],.nil,rfl,fun _ h=>(nomatch h),fun i v p h=>(nomatch h)⟩
  | @cons y kv ys kvs r t ih =>
   intro rv;cases rv with
   | @cons _ v _ its ry rr =>
    obtain⟨ps,h1,h2,h4,h3⟩:=ih rr;obtain⟨ta,tb,rfl,ht,hb⟩:=r;obtain rfl:v=Value.ref ta:=ry;obtain⟨_,us,rus,o,ho,hc',n,hd⟩:=I.hok ta _ ht;obtain⟨u1,u2,rfl,r1,r2⟩:=Vals.two rus;obtain rfl:u1=Value.ref tb:=r1;have hk:=ZeD I.hok hb;refine⟨(kv.1,tb,u2)::ps,.cons ⟨rfl,hb,r2⟩ h1,by rw[List.length_cons,List.length_cons,h2],fun p hp=>?_,fun i v p e1 e2=>?_⟩
    ·rcases List.mem_cons.mp hp with rfl|hp
     ·obtain⟨o,its,n,h5,_⟩:=hk;exact Heap.lt_size h5
     ·exact h4 p hp
    ·cases i with
     | zero =>
      injection e1 with e1;injection e2 with e2;subst e1 e2;exact⟨ta,o,n,rfl,ho,hc',hd,hk⟩
     | succ i=>exact h3 i v p e1 e2
 obtain⟨ps,h1,h2,h4,h3⟩:=key hp rv;refine Srd.Zc5 (ps:=ps) (I.ok.hd hc) hu ho ⟨by rw[List.size_toArray];exact h2,h4,fun i v p e1 e2 h' hk=>?_⟩ (by rw[List.size_toArray];lia) fun h' tk hd' hk=>?_
 ·obtain⟨b,o,n,e,ho2,h5,h6,h7⟩:=h3 i v p (by rw[<- e1];simp) e2;exact⟨b,o,n,e,hk b o (Heap.lt_size ho2) ho2,h5,h6,Zhe h7 fun o e=>hk _ o (Heap.lt_size e) e⟩
 ·have hkl:kvs.length=ps.length:=h1.length;have hpl:(putAllT kvs).length<=kvs.length:=by
   have:=ZbK kvs [];rw[List.length_nil,Nat.zero_add] at this;exact this
  obtain⟨o,es,ep,g1,g2,g3,g4,g5,g6⟩:=hd';have hf:H s.heap.objs.size=none:=I.hok.fresh (Nat.le_refl _);exact⟨.ref _,_,I.laid (t':=tk) (fun b o e=>hk b o e) (Nat.le_refl _) (show Zaz X.prog X.w _ h' _ (.dT (putAllT kvs)) from⟨by rw[sizeLine_eq];lia,beq_eq_false_iff_ne.mpr (Ne.symm (Nat.ne_of_lt I.big)),_,(ZkW h1 .nil).keeps fun b ys e=>by rw[Zc (Zi e hf)];exact e,o,es,ep,g1,g2,g3,g4,g6⟩),rfl,q _ hf⟩
end
end L2
namespace Srd
open PySem PyProof.Rows Srt PySem.W
abbrev Ps:=Int×Str
def ZkQ:Ps->Ps->Bool:=Zl2 (fun a b:Int=>decide (a<b)) fun a b:Str=>decide (a.cps.toList<b.cps.toList)
theorem ZjV:Sto ZkQ:=ZlK.lex Zlz
def ZhJ(h:Heap)(v:Value)(q:Ps):Prop := ∃a o t u n,v=.ref a/\h.get? a=some o/\o.cls=.type "tuple" /\ o.data=.seq #[.int q.1 t,.str q.2 u] n
theorem ZhJ.inj{h:Heap}{v:Value}{q q':Ps}(x:ZhJ h v q)(y:ZhJ h v q'):q=q':=by
 obtain⟨a,o,t,u,n,rfl,h1,_,h3⟩:=x;obtain⟨a',o',t',u',n',e,h1',_,h3'⟩:=y;cases e;rw[h1] at h1';cases h1';rw[h3] at h3';obtain⟨q1,q2⟩:=q;obtain⟨r1,r2⟩:=q';simp only[Data.seq.injEq,Array.mk.injEq,List.cons.injEq,Value.int.injEq,Value.str.injEq,and_true] at h3';obtain⟨⟨⟨e1,_⟩,⟨e2,_⟩⟩,_⟩:=h3';rw[e1,e2]
theorem ZhJ.keep{h h':Heap}{v:Value}{q:Ps}(x:ZhJ h v q)(k:∀b o,h.get? b=some o->h'.get? b=some o):ZhJ h' v q:=by
 obtain⟨a,o,t,u,n,rfl,h1,r⟩:=x;exact⟨a,o,t,u,n,rfl,k _ _ h1,r⟩
open Classical in
noncomputable def kps(h:Heap)(v:Value):Ps:=if x:∃q,ZhJ h v q then x.choose else(0,Str.empty)
theorem Zhu{h:Heap}{v:Value}{q:Ps}(x:ZhJ h v q):kps h v=q:=by
 unfold kps;rw[dif_pos ⟨q,x⟩];exact(Exists.choose_spec (⟨q,x⟩:∃q,ZhJ h v q)).inj x
section
variable{prog:Program}{w:World}{A:Around}{s:Shared}
theorem Zhc{h:Heap}:∀{vs:List Value},(∀v∈vs,∃q,ZhJ h v q)->∃fs,KatTups h vs fs/\fs.length=vs.length/\∀f∈fs,∃i t,f=.int i t
 | [],_=>⟨[],trivial,rfl,fun _ h=>nomatch h⟩
 | v::vs,hv=>by
  obtain⟨q,a,o,t,u,n,rfl,ho,hc,hd⟩:=hv v (List.mem_cons_self ..);obtain⟨fs,kt,hl,hf⟩:=Zhc (vs:=vs) fun x hx=>hv x (List.mem_cons_of_mem _ hx);refine⟨.int q.1 t::fs,KatTups.cons ho hc hd rfl kt,by simp[hl],fun f hm=>?_⟩;rcases List.mem_cons.mp hm with rfl|hm
  ·exact⟨_,t,rfl⟩
  ·exact hf f hm
theorem Ze3{h0:Heap}{vs:List Value}(hv:∀v∈vs,∃q,ZhJ h0 v q)(k0:∀b o,h0.get? b=some o->s.heap.get? b=some o)(h2:2<=vs.length):Zd0 prog w A (fun u v=>ZkQ (kps h0 u) (kps h0 v)) vs s:=by
 have hv':∀v∈vs,∃q,ZhJ s.heap v q:=fun v hm=>let ⟨q,x⟩:=hv v hm;⟨q,x.keep k0⟩;obtain⟨fs,k,hl,hf⟩:=Zhc hv';refine⟨tuples' true,fun Q E hq=>?_,?_⟩
 ·refine kat_kind (T:=.type "int") k (by lia) (fun v hm=>?_) rfl hq;obtain⟨i,t,rfl⟩:=hf v hm;exact Looks.of_pure rfl
 ·intro x y hx hy E;rw[pairsOf_toList] at hx hy;obtain⟨q,xq⟩:=hv _ (mem_zip_self hx).2;obtain⟨q',yq⟩:=hv _ (mem_zip_self hy).2;have e1:(fun x y:Keyed=>ZkQ (kps h0 x.1) (kps h0 y.1)) x y=ZkQ q q':=by
   show ZkQ (kps h0 x.1) (kps h0 y.1)=_;have hx1:=(mem_zip_self hx);have hy1:=(mem_zip_self hy);rw[Zhu xq,Zhu yq]
  rw[e1];obtain⟨a,o,t,u,n,e,ho,hc,hd⟩:=xq.keep k0;obtain⟨a',o',t',u',n',e',ho',hc',hd'⟩:=yq.keep k0;rw[e,e'];obtain⟨q1,q2⟩:=q;obtain⟨r1,r2⟩:=q';refine kat_lt ho hd ho' hd' ?_;have unf:ZkQ (q1,q2) (r1,r2)=(decide (q1<r1) || (decide (q1=r1)&&decide (q2.cps.toList<r2.cps.toList))):=rfl;rw[unf];refine kat_cons (wpAny_eqBool_int (kat_go (fun c1=>kat_yes ?_) (fun c1=>kat_no ?_)))
  ·have c1':q1=r1:=eq_of_beq c1;refine kat_cons (wpAny_eqBool_str (kat_go (fun c4=>kat_yes (kat_nil ⟨rfl,?_⟩)) (fun c4=>kat_no ?_)))
   ·have c4':q2=r2:=eq_of_beq c4;subst c1' c4';simp[Zcd]
   ·refine kat_one _ _ (PyProof.Rows.lt_str ⟨rfl,?_⟩);subst c1';simp
  ·refine oneLt_int ⟨rfl,?_⟩;have c1' : ¬ q1=r1:=fun z=>by rw[z] at c1;simp at c1
   simp[c1']
end
end Srd
namespace L2
open PySem PySem.Spec PyProof.Rows PySem.W Srd
def tps(q:Ps):HO:=.tup [.int q.1,.str q.2]
def psK(q:Ps):List Key:=[Sum.inl q.1,Sum.inr q.2]
def PsL(H:Hp)(zs:List V)(qs:List Ps):Prop:=Paired (fun z q=>∃p,z=V.ref p/\H p=some (tps q)) zs qs
theorem PsL.mem{H:Hp}:∀{zs:List V}{qs:List Ps},PsL H zs qs->∀z∈zs,∃p,∃q∈qs,z=V.ref p/\H p=some (tps q)
 | _,_,.cons ⟨p,e1,e2⟩ t,z,hz=>by
  rcases List.mem_cons.mp hz with rfl|hz
  ·exact⟨p,_,List.mem_cons_self ..,e1,e2⟩
  ·obtain⟨p,q,hq,r⟩:=PsL.mem t z hz;exact⟨p,q,List.mem_cons_of_mem _ hq,r⟩
theorem PsL.length{H:Hp}:∀{zs:List V}{qs:List Ps},PsL H zs qs->zs.length=qs.length
 | _,_,.nil=>rfl
 | _,_,.cons _ t=>by rw[List.length_cons,List.length_cons,PsL.length t]
theorem PsL.get{H:Hp}:∀{zs:List V}{qs:List Ps},PsL H zs qs->∀(i:Nat) z,zs[i]?= some z->∃p q,qs[i]?= some q/\z=V.ref p/\H p=some (tps q)
 | _,_,.cons ⟨p,e1,e2⟩ t,i,z,hz=>by
  cases i with
  | zero =>
   injection hz with hz;subst hz;exact⟨p,_,rfl,e1,e2⟩
  | succ i=>exact PsL.get t i z hz
theorem PsL.keep{H H':Hp}:∀{zs:List V}{qs:List Ps},PsL H zs qs->(∀b xs,H b=some (.tup xs)->H' b=some (.tup xs))->PsL H' zs qs
 | _,_,.nil,_=>.nil
 | _,_,.cons ⟨p,e1,e2⟩ t,k=>.cons ⟨p,e1,k _ _ e2⟩ (PsL.keep t k)
theorem ZgL{P:Program}{w:World}{H:Hp}{h:Heap}{t:Addr}{q:Ps}(ok:HOk P w H h)(e:H t=some (tps q)):ZhJ h (.ref t) q:=by
 obtain⟨_,us,rus,o,ho,hc',n,hd⟩:=ok t _ e;obtain⟨u1,us,rfl,r1,rus⟩:=Vals.inv rus;obtain⟨u2,us,rfl,r2,rus⟩:=Vals.inv rus;obtain rfl:=Vals.end_ rus;obtain⟨t1,rfl⟩:=r1;obtain⟨t2,rfl⟩:=r2;exact⟨t,o,t1,t2,n,rfl,ho,hc',hd⟩
theorem Ziy{P:Program}{w:World}{H:Hp}{h0:Heap}(ok:HOk P w H h0){ys:List V}{its:List Value}{qs:List Ps}(rv:Vals ys its)(ql:PsL H ys qs):∀us:List Value,(∀u∈us,u∈its)->∃zs,Vals zs us/\PsL H zs (us.map (kps h0))
 | [],_=>⟨[],.nil,.nil⟩
 | u::us,h=>by
  obtain⟨y,hy,ry⟩:=Zdr rv u (h u (List.mem_cons_self ..));obtain⟨zs,rz,hz⟩:=Ziy ok rv ql us fun x hx=>h x (List.mem_cons_of_mem _ hx);obtain⟨t,q,_,rfl,e2⟩:=ql.mem y hy;have hu:u=Value.ref t:=ry;subst hu;exact⟨_,.cons ry rz,.cons ⟨t,rfl,by rw[Zhu (ZgL ok e2)];exact e2⟩ hz⟩
theorem Zjk{P:Program}{w:World}{H:Hp}{h0:Heap}(ok:HOk P w H h0):∀{ys:List V}{its:List Value}{qs:List Ps},Vals ys its->PsL H ys qs->its.map (kps h0)=qs
 | _,_,_,.nil,.nil=>rfl
 | _,_,_,.cons (b:=u) r rr,.cons ⟨p,e1,e2⟩ t=>by
  subst e1;have hu:u=Value.ref p:=r;subst hu;rw[List.map_cons,Zjk ok rr t,Zhu (ZgL ok e2)]
theorem Zkc{H:Hp}{kvs:List (List Key×V)}{xs:List (List Key×Addr×Value)}(h:Paired (fun(p:List Key×V)(q:List Key×Addr×Value)=>p.1=q.1/\H q.2.1=some (.tup (p.1.map kV))/\RelV p.2 q.2.2) kvs xs):∀{ps:List Ps},kvs.map (·.1)=ps.map psK->∃ys,Vals ys (xs.map fun x=>Value.ref x.2.1)/\PsL H ys ps:=by
 induction h with
 | nil =>
  intro ps e;cases ps with
  | nil=>exact⟨[],.nil,.nil⟩
  | cons n ns=>cases e
 | @cons p q l m r t ih =>
  intro ps e;cases ps with
  | nil=>cases e
  | cons n ns =>
   rw[List.map_cons,List.map_cons] at e;obtain⟨e1,e2⟩:=List.cons.inj e;obtain⟨ys,h1,h2⟩:=ih e2;refine⟨.ref q.2.1::ys,.cons rfl h1,.cons ⟨q.2.1,rfl,?_⟩ h2⟩;have h3:=r.2.1;rw[e1] at h3;exact h3
section
variable{X:Cx}
theorem ZdV(hc:X.calm=true):Zc6 X (.builtin "sorted") (fun xs H Q=>∃(d:Addr)(kvs:List (List Key×V))(ps:List Ps),xs=[.ref d]/\H d=some (.dT kvs)/\kvs.length<=90000/\kvs.map (·.1)=ps.map psK/\∀(r:Addr)(zs:List V)(ms:List Ps),H r=none->ms.Perm ps->ms.Pairwise (fun a b=>ZkQ b a=false)->PsL H zs ms->Q (.ref r) (upd H r (.lst zs))):=by
 intro pins s σ H xs us Q I r h;obtain⟨d,kvs,ps,rfl,hd,hlen,hkn,q⟩:=h;obtain⟨u,rfl,rx⟩:=vals1 r;obtain rfl:u=.ref d:=rx;obtain⟨z,lo,xs,rel,o,es,ep,ho,hx,hdat,hes,hnd⟩:=(show Zaz X.prog X.w H s.heap d (.dT kvs) from I.hok d _ hd);obtain⟨ys,rv,pl⟩:=Zkc rel hkn;have hek:es.toList.map (·.key)=xs.map fun x=>Value.ref x.2.1:=by
  rw[hes,List.map_map];rfl
 have hxl:kvs.length=xs.length:=rel.length;have hel:es.size=xs.length:=by rw[<- Array.length_toList,hes,List.length_map]
 refine Zgl (lv:=fun u v=>ZkQ (kps s.heap u) (kps s.heap v)) (C:=fun ys=>ys=xs.map fun x=>Value.ref x.2.1) (ZjV.swo (kps s.heap)) (fun Q' E' hq=>?_) (fun ys' h6 tk6 d6 hC k6 h2l=>?_) fun pa ys' out h3 tk3 d3 c hC hperm hso k3 e3 hle hos=>?_
 ·refine ZdW (ZiL lo) (I.ok.hd hc) (⟨o,ho,hx,hdat⟩:Zie s.heap d es ep) (by rw[sizeLine_eq];lia) fun acc h' tk kp hit hle=>?_;have hacc:acc.toList=es.toList.map (·.key):=by
   refine List.ext_getElem? fun j=>?_;rw[Array.getElem?_toList,List.getElem?_map,Array.getElem?_toList];cases hj:acc[j]? with
   | none =>
    have h3:acc.size<=j:=Array.getElem?_eq_none_iff.mp hj;rw[hit.1] at h3;rw[Array.getElem?_eq_none h3];rfl
   | some v =>
    obtain⟨e,h1,rfl⟩:=hit.2 j v hj;rw[h1];rfl
  rw[hacc,hek];exact hq _ h' tk s.drawn kp rfl (by rw[List.length_map];lia) hle
 ·subst hC;refine Ze3 (h0:=s.heap) (fun v hv=>?_) k6 h2l;obtain⟨y,hy,ry⟩:=Zdr rv v hv;obtain⟨t,q1,_,rfl,e2⟩:=pl.mem y hy;obtain rfl:v=Value.ref t:=ry;exact⟨q1,ZgL I.hok e2⟩
 ·subst hC;obtain⟨zs,rz,hzq⟩:=Ziy I.hok rv pl out.toList fun u hu=>hperm.mem_iff.mp hu;have hzl:zs.length=out.size:=rz.length.trans (Array.length_toList ..);have hol:out.size=xs.length:=by
   have:=hperm.length_eq;rw[Array.length_toList,List.length_map] at this;exact this
  have I2:=I.laid (h':=h3) (t':=tk3) (a:=pa) (o:=.lst zs) (fun b o e=>k3 b o e) hle (show Zaz X.prog X.w _ h3 _ (.lst zs) from⟨by rw[sizeLine_eq];lia,out.toList,c,rz,e3⟩);refine⟨.ref pa,_,I2.draws (d:=d3),rfl,q pa zs _ (I.hok.fresh hle) ?_ (List.pairwise_map.mpr hso) hzq⟩;rw[<- Zjk I.hok rv pl];exact hperm.map _
end
end L2
namespace L2
open PySem PySem.Spec PyProof.Rows PySem.W
section
variable{X:Cx}
theorem Zmt{c:Nat}(h1:97<=c)(h2:c<=122):∃(i:Nat)(r:List Nat),Builtin.Str.occurrences Fg.ABC ⟨#[c]⟩ 0 Fg.ABC.length 1=i::r:=by
 have h:=Fg.Zj9 (c:=c) (by lia);have e:azB c=true:=by
  unfold azB;simp;lia
 rw[e] at h;cases hh:Builtin.Str.occurrences Fg.ABC ⟨#[c]⟩ 0 Fg.ABC.length 1 with
 | nil=>rw[hh] at h;cases h
 | cons i r=>exact⟨i,r,rfl⟩
theorem Zip:MtM X "str.index" (fun x vs H Q=>∃c:Nat,x=.str Fg.ABC/\vs=[.str ⟨#[c]⟩]/\97<=c/\c<=122/\∀i:Nat,Q (.int (i:Int)) H):=by
 intro pins s σ H x vs v us Q I rx rv h;obtain⟨c,rfl,rfl,h1,h2,q⟩:=h;obtain⟨t,rfl⟩:=rx;obtain⟨u,rfl,ru⟩:=rv.one;obtain⟨t2,rfl⟩:=ru;obtain⟨i,r,e⟩:=Zmt h1 h2;exact call_gives PySem.F.slot_str_index (typeIs_str _ _ _) PySem.F.entry_str_index (PySem.F.args_str_index_2 _ _) (gives_str_index _ _ _ _ i r e) ⟨.int (i:Int),H,I.tok _,⟨_,rfl⟩,q i⟩
theorem ZiU(hu:X.A.units+20<cLine){K:PySem.W.Frag}(hK:X.K=K):MtM X "list.index" (fun x vs H Q=>∃(p y k:Addr)(as:List Str)(bs:List V)(d:PyData),x=.ref p/\vs=[.ref y]/\SqL K H p (as.map V.str ++ .ref k::bs)/\(as.length+bs.length)<=90000/\(∀b∈bs,∃t,b=V.str t/\PyData.strOk t=true)/\(∀a∈as,PyData.strOk a=true)/\Dp K H (.ref k) d/\Dp K H (.ref y) d/\d.canLay0=true/\d.depth<=8/\Q (.int (as.length:Int)) H):=by
 subst hK;intro pins s σ H x vs v us Q I rx rv h;obtain⟨p,y,k,as,bs,d,rfl,rfl,hq,hlen,hbs,has,dk,dy,hl,hdp,q⟩:=h;cases rx;obtain⟨u,rfl,ru⟩:=rv.one;obtain⟨its,r,pl,hz⟩:=I.list hq;obtain⟨⟨cls,dd,data,sl⟩,m,ho,hc,hdd,hd⟩:=pl;simp only at hc hdd hd;subst hc hdd hd;have hl2:=r.length;simp only[List.length_append,List.length_map,List.length_cons] at hl2;obtain⟨bsy,rby⟩:=dy.reads I ru;have shape:∀{as:List Str}{bs:List V}{its:List Value},Vals (as.map V.str ++ .ref k::bs) its->(∀b∈bs,∃t,b=V.str t/\PyData.strOk t=true)->(∀a∈as,PyData.strOk a=true)->(∀u∈its,(∃t x,u=Value.str x t/\PyData.strOk x=true)\/u=.ref k)/\its[as.length]?= some (.ref k)/\∀(j:Nat) v,j<as.length->its[j]?= some v->∃t x,v=Value.str x t:=by
  intro as
  induction as with
  | nil =>
   intro bs its r hb _;cases r with
   | @cons _ u _ us r rr =>
    obtain rfl:u=.ref k:=r;refine⟨fun v hv=>?_,rfl,fun j v hj=>absurd hj (Nat.not_lt_zero _)⟩;rcases List.mem_cons.mp hv with rfl|hv
    ·exact .inr rfl
    ·obtain⟨b,hbm,rb⟩:=Zdr rr v hv;obtain⟨t,rfl,ok⟩:=hb b hbm;obtain⟨t',rfl⟩:=rb;exact .inl ⟨t',t,rfl,ok⟩
  | cons a as ih =>
   intro bs its r hb ha;cases r with
   | @cons _ u _ us r rr =>
    obtain⟨t',rfl⟩:=r;obtain⟨h1,h2,h3⟩:=ih rr hb fun x hx=>ha x (List.mem_cons_of_mem _ hx);refine⟨fun v hv=>?_,h2,fun j v hj e=>?_⟩
    ·rcases List.mem_cons.mp hv with rfl|hv
     ·exact .inl ⟨t',a,rfl,ha a (List.mem_cons_self ..)⟩
     ·exact h1 v hv
    ·cases j with
     | zero =>
      injection e with e;exact⟨t',a,e.symm⟩
     | succ j=>exact h3 j v (by rw[List.length_cons] at hj;lia) e
 obtain⟨sh1,sh2,sh3⟩:=shape r hbs has
 let e:Value->Bool:=fun v=>match v with | .ref _=>true|_=>false
 have hj:as.length<its.length:=by lia
 have hk0:its[as.length]'hj=.ref k:=by
  rw[List.getElem?_eq_getElem hj] at sh2;injection sh2
 have dkt:∃ds,d=.tuple ds\/d=.list ds:=by
  cases dk with
  | lst _ _=>exact⟨_,.inr rfl⟩
  | tup _ _=>exact⟨_,.inl rfl⟩
 refine call_meets PySem.F.slot_list_index ⟨_,ho,rfl⟩ PySem.F.entry_list_index (PySem.F.args_list_index_2 _ _)
  (PySem.SeqAt.list_indexAt p its.toArray m none sl u e as.length (by rw[List.size_toArray];exact hj) (by rw[sizeLine_eq] at hz;lia) ?_ ?_) ⟨ho,fun v hv=>?_,⟨.int _,H,I.tok _,⟨_,rfl⟩,q⟩⟩
 ·show e its[as.length]=true;rw[hk0]
 ·intro j hjs hlt;show e its[j]=false;obtain⟨t,x,e'⟩:=sh3 j _ hlt (List.getElem?_eq_getElem (by simpa using hjs));rw[e']
 ·have hv':v∈its:=by simpa using hv
  have hu2:X.A.in1.units+10<cLine:=by
   show X.A.units+1+10<cLine;lia
  rcases sh1 v hv' with⟨t,x,rfl,ok⟩|rfl
  ·have:=PySem.SeqAt.eqAt_reads (.str x) d X.A.in1 s (.str x t) u _ bsy (.str x t) rby ok hl (by show _+min 0 _<_;lia);have ev:PyData.eqv (.str x) d=false:=by
    obtain⟨ds,rfl|rfl⟩:=dkt <;> rfl
   rw[ev] at this;exact this
  ·obtain⟨ask,rk⟩:=dk.reads (u:=.ref k) I rfl;have:=PySem.SeqAt.eqAt_reads d d X.A.in1 s (.ref k) u ask bsy rk rby hl hl (by lia);rw[PySem.SeqAt.eqv_refl _ hl] at this;exact this
end
end L2
namespace Fg
open PySem L2 FgM
inductive Pa where
 | nil
 | kids (m:Int) (o:Pa)
 | tag (t:Str) (w o:Pa)
inductive RepP(H:Hp):List V->Pa->Prop
 | nil:RepP H [] .nil
 | kids {a:Addr} {m:Int} {vs:List V} {o:Pa}:H a=some (.tup [.str "kids",.int m])->RepP H vs o->RepP H (.ref a::vs) (.kids m o)
 | tag {a q:Addr} {t:Str} {ys vs:List V} {w o:Pa}:H a=some (.tup [.str "tag",.str t,.ref q])->H q=some (.tup ys)->RepP H ys w->RepP H vs o->RepP H (.ref a::vs) (.tag t w o)
theorem RepP.mono{H H':Hp}(k:TK H H'):∀{vs:List V}{g:Pa},RepP H vs g->RepP H' vs g
 | _,_,.nil=>.nil
 | _,_,.kids h1 h2=>.kids (k _ _ h1) (h2.mono k)
 | _,_,.tag h1 h2 h3 h4=>.tag (k _ _ h1) (k _ _ h2) (h3.mono k) (h4.mono k)
namespace Pa
def app:Pa->Pa->Pa
 | .nil,q=>q
 | .kids m o,q=>.kids m (app o q)
 | .tag t w o,q=>.tag t w (app o q)
def nk:Pa->Nat
 | .nil=>0
 | .kids _ o=>1+nk o
 | .tag _ w o=>nk w+nk o
def sz:Pa->Nat
 | .nil=>0
 | .kids _ o=>1+sz o
 | .tag _ w o=>1+sz w+sz o
def dep:Pa->Nat
 | .nil=>0
 | .kids _ o=>dep o
 | .tag _ w o=>max (dep w+1) (dep o)
def ks:Pa->List Int
 | .nil=>[]
 | .kids m o=>m::ks o
 | .tag _ w o=>ks w++ks o
def spl:Pa->List (Str ⊕ Int)
 | .nil=>[]
 | .kids m o=>.inr m::spl o
 | .tag t w o=>.inl t::(spl w ++ .inl SL::spl o)
def tags:Pa->List Str
 | .nil=>[]
 | .kids _ o=>tags o
 | .tag t w o=>t::(tags w++tags o)
theorem Zg2:∀p:Pa,(ks p).length=nk p
 | .nil=>rfl
 | .kids m o=>by simp[ks,nk,Zg2 o];lia
 | .tag t w o=>by simp[ks,nk,Zg2 w,Zg2 o]
theorem ZcY:∀p:Pa,dep p<=sz p
 | .nil=>Nat.le_refl _
 | .kids m o=>by have:=ZcY o;simp only[dep,sz];lia
 | .tag t w o=>by have:=ZcY w;have:=ZcY o;simp only[dep,sz];lia
theorem ZcV:∀p:Pa,(spl p).length<=2*sz p
 | .nil=>Nat.le_refl _
 | .kids m o=>by have:=ZcV o;simp only[spl,sz,List.length_cons];lia
 | .tag t w o=>by have:=ZcV w;have:=ZcV o;simp only[spl,sz,List.length_cons,List.length_append];lia
theorem ZfL:∀p q:Pa,nk (app p q)=nk p+nk q
 | .nil,q=>by simp[app,nk]
 | .kids m o,q=>by simp only[app,nk,ZfL o q];lia
 | .tag t w o,q=>by simp only[app,nk,ZfL o q];lia
theorem ZfX:∀p q:Pa,sz (app p q)=sz p+sz q
 | .nil,q=>by simp[app,sz]
 | .kids m o,q=>by simp only[app,sz,ZfX o q];lia
 | .tag t w o,q=>by simp only[app,sz,ZfX o q];lia
theorem Ze8:∀p q:Pa,spl (app p q)=spl p++spl q
 | .nil,q=>rfl
 | .kids m o,q=>by simp[app,spl,Ze8 o q]
 | .tag t w o,q=>by simp[app,spl,Ze8 o q]
theorem Zd7:∀p q:Pa,ks (app p q)=ks p++ks q
 | .nil,q=>rfl
 | .kids m o,q=>by simp[app,ks,Zd7 o q]
 | .tag t w o,q=>by simp[app,ks,Zd7 o q]
theorem Zdl:∀p q:Pa,tags (app p q)=tags p++tags q
 | .nil,q=>rfl
 | .kids m o,q=>by simp[app,tags,Zdl o q]
 | .tag t w o,q=>by simp[app,tags,Zdl o q]
def take:Nat->Pa->Pa
 | 0,_=>.nil
 | _+1,.nil=>.nil
 | i+1,.kids m o=>.kids m (take i o)
 | i+1,.tag t w o=>.tag t w (take i o)
end Pa
theorem RepP.app{H:Hp}:∀{xs ys:List V}{p q:Pa},RepP H xs p->RepP H ys q->RepP H (xs++ys) (p.app q)
 | _,_,_,_,.nil,h=>h
 | _,_,_,_,.kids h1 h2,h=>.kids h1 (h2.app h)
 | _,_,_,_,.tag h1 h2 h3 h4,h=>.tag h1 h2 h3 (h4.app h)
theorem RepP.length{H:Hp}:∀{xs:List V}{p:Pa},RepP H xs p->xs.length<=p.sz
 | _,_,.nil=>Nat.le_refl _
 | _,_,.kids _ h=>by have:=h.length;simp only[Pa.sz,List.length_cons];lia
 | _,_,.tag _ _ _ h=>by have:=h.length;simp only[Pa.sz,List.length_cons];lia
theorem RepP.at{H:Hp}:∀{xs:List V}{p:Pa},RepP H xs p->∀(i:Nat) z,xs[i]?= some z->∃a,z=V.ref a/\((∃m,H a=some (.tup [.str "kids",.int m])/\p.take (i+1)=(p.take i).app (Pa.kids m Pa.nil))\/∃t q ys w,H a=some (.tup [.str "tag",.str t,.ref q])/\H q=some (.tup ys)/\RepP H ys w/\p.take (i+1)=(p.take i).app (Pa.tag t w Pa.nil)/\w.dep<p.dep/\w.sz<p.sz)
 | _,_,.kids h1 h2,i,z,hz=>by
  cases i with
  | zero =>
   injection hz with hz;subst hz;exact⟨_,rfl,.inl ⟨_,h1,rfl⟩⟩
  | succ i =>
   obtain⟨a,e,h⟩:=h2.at i z hz;refine⟨a,e,?_⟩;rcases h with⟨m,g1,g2⟩|⟨t,q,ys,w,g1,g2,g3,g4,g5,g6⟩
   ·exact .inl ⟨m,g1,by show Pa.kids _ (Pa.take (i+1) _)=Pa.kids _ ((Pa.take i _).app _);rw[g2]⟩
   ·exact .inr ⟨t,q,ys,w,g1,g2,g3,by show Pa.kids _ (Pa.take (i+1) _)=Pa.kids _ ((Pa.take i _).app _);rw[g4],g5,by simp only[Pa.sz];lia⟩
 | _,_,.tag h1 h2 h3 h4,i,z,hz=>by
  cases i with
  | zero =>
   injection hz with hz;subst hz;exact⟨_,rfl,.inr ⟨_,_,_,_,h1,h2,h3,rfl,by simp only[Pa.dep];lia,by simp only[Pa.sz];lia⟩⟩
  | succ i =>
   obtain⟨a,e,h⟩:=h4.at i z hz;refine⟨a,e,?_⟩;rcases h with⟨m,g1,g2⟩|⟨t,q,ys,w,g1,g2,g3,g4,g5,g6⟩
   ·exact .inl ⟨m,g1,by show Pa.tag _ _ (Pa.take (i+1) _)=Pa.tag _ _ ((Pa.take i _).app _);rw[g2]⟩
   ·exact .inr ⟨t,q,ys,w,g1,g2,g3,by show Pa.tag _ _ (Pa.take (i+1) _)=Pa.tag _ _ ((Pa.take i _).app _);rw[g4],by simp only[Pa.dep];lia,by simp only[Pa.sz];lia⟩
theorem RepP.take_all{H:Hp}:∀{xs:List V}{p:Pa},RepP H xs p->p.take xs.length=p
 | _,_,.nil=>rfl
 | _,_,.kids _ h=>by show Pa.kids _ (Pa.take _ _)=_;rw[h.take_all]
 | _,_,.tag _ _ _ h=>by show Pa.tag _ _ (Pa.take _ _)=_;rw[h.take_all]
theorem Pa.take_sz:∀(i:Nat)(p:Pa),(p.take i).sz<=p.sz
 | 0,_=>Nat.zero_le _
 | _+1,.nil=>Nat.le_refl _
 | i+1,.kids m o=>by have:=Pa.take_sz i o;simp only[Pa.take,Pa.sz];lia
 | i+1,.tag t w o=>by have:=Pa.take_sz i o;simp only[Pa.take,Pa.sz];lia
def WdV(H:Hp)(z:V)(x:Str ⊕ Int):Prop:=match x with | .inl s=>z=.str s | .inr m=>∃a,z=.ref a/\H a=some (.tup [.str "kids",.int m])
def WdL(H:Hp)(zs:List V)(xs:List (Str ⊕ Int)):Prop:=Paired (WdV H) zs xs
theorem WdV.tk{H H':Hp}(k:TK H H'){z:V}{x:Str ⊕ Int}(h:WdV H z x):WdV H' z x:=by
 cases x with
 | inl s=>exact h
 | inr m =>
  obtain⟨a,e,h⟩:=h;exact⟨a,e,k _ _ h⟩
theorem WdL.tk{H H':Hp}(k:TK H H'):∀{zs:List V}{xs:List (Str ⊕ Int)},WdL H zs xs->WdL H' zs xs
 | _,_,.nil=>.nil
 | _,_,.cons r t=>.cons (r.tk k) (WdL.tk k t)
theorem WdL.app{H:Hp}{zs zs':List V}{xs xs':List (Str ⊕ Int)}(h:WdL H zs xs)(h':WdL H zs' xs'):WdL H (zs++zs') (xs++xs'):=Paired.app h h'
theorem WdL.strs{H:Hp}:∀(ts:List Str),WdL H (ts.map V.str) (ts.map Sum.inl)
 | []=>.nil
 | t::ts=>.cons rfl (WdL.strs ts)
theorem WdL.to{H:Hp}:∀{zs:List V}{ts:List Str},WdL H zs (ts.map Sum.inl)->zs=ts.map V.str
 | _,[],h=>by cases h;rfl
 | _,t::ts,h=>by
  cases h with
  | cons r t =>
   have e:_=V.str _:=r;rw[e,WdL.to t];rfl
def Zge:List (Str ⊕ Int)->List Str×Option Int×List Str
 | []=>([],none,[])
 | .inl s::r=>(s::(Zge r).1,(Zge r).2)
 | .inr m::r=>([],some m,r.filterMap Sum.getLeft?)
theorem Zbi:∀p:Pa,(p.nk=0->∃ts:List Str,p.spl=ts.map Sum.inl/\p.ks=[])/\(p.nk=1->∃(a b:List Str)(m:Int),p.spl=a.map Sum.inl ++ .inr m::b.map Sum.inl/\p.ks=[m])
 | .nil=>⟨fun _=>⟨[],rfl,rfl⟩,fun h=>by simp[Pa.nk] at h⟩
 | .kids m o=>by
  refine⟨fun h=>by simp[Pa.nk] at h,fun h=>?_⟩;obtain⟨ts,e1,e2⟩:=(Zbi o).1 (by simp only[Pa.nk] at h;lia);exact⟨[],ts,m,by simp[Pa.spl,e1],by simp[Pa.ks,e2]⟩
 | .tag t w o=>by
  refine⟨fun h=>?_,fun h=>?_⟩
  ·simp only[Pa.nk] at h;obtain⟨ts,e1,e2⟩:=(Zbi w).1 (by lia);obtain⟨us,e3,e4⟩:=(Zbi o).1 (by lia);exact⟨t::(ts++SL::us),by simp[Pa.spl,e1,e3],by simp[Pa.ks,e2,e4]⟩
  ·simp only[Pa.nk] at h;by_cases c:w.nk=0
   ·obtain⟨ts,e1,e2⟩:=(Zbi w).1 c;obtain⟨a,b,m,e3,e4⟩:=(Zbi o).2 (by lia);exact⟨t::(ts++SL::a),b,m,by simp[Pa.spl,e1,e3],by simp[Pa.ks,e2,e4]⟩
   ·obtain⟨a,b,m,e1,e2⟩:=(Zbi w).2 (by lia);obtain⟨us,e3,e4⟩:=(Zbi o).1 (by lia);exact⟨t::a,b++SL::us,m,by simp[Pa.spl,e1,e3],by simp[Pa.ks,e2,e4]⟩
theorem Zfl(ts:List Str):Zge (ts.map Sum.inl)=(ts,none,[]):=by
 induction ts with
 | nil=>rfl
 | cons t ts ih=>rw[List.map_cons,Zge,ih]
theorem ZfW(a b:List Str)(m:Int):Zge (a.map Sum.inl ++ .inr m::b.map Sum.inl)=(a,some m,b):=by
 induction a with
 | nil =>
  show([],some m,(b.map Sum.inl).filterMap Sum.getLeft?)=_;have:(b.map Sum.inl:List (Str ⊕ Int)).filterMap Sum.getLeft?= b:=by
   induction b with
   | nil=>rfl
   | cons x b ih =>
    rw[List.map_cons,List.filterMap_cons];show x::_=_;rw[ih]
  rw[this]
 | cons t ts ih=>rw[List.map_cons,List.cons_append,Zge,ih]
abbrev Kn:=Int->Str->Option Pa
def rlS(kn:Kn)(m:Option Int)(t:Str):List Str×Option Int×List Str:=match m with
 | none=>([],none,[])
 | some m=>match kn m t with
  | none=>([t],some m,[SL])
  | some p=>Zge p.spl
abbrev Bg:=List (Option Int×List Str)
def Zcb(bs:Bg):Option Int:=match bs.getLast? with|none=>some 0|some b=>b.1
def Za0(kn:Kn)(bs:Bg)(w:Str):List Str×Bg:=if w=SL then(match bs.getLast? with|none=>([],[])|some b=>(b.2,bs.dropLast)) else((rlS kn (Zcb bs) w).1,bs ++ [(rlS kn (Zcb bs) w).2])
def ZjZ(bs:Bg):List Str:=(bs.reverse.map (·.2)).flatten
def KnR(H:Hp)(m:List (List Key×V))(kn:Kn):Prop := ∀(i:Int)(t:Str),(Zbe m [Sum.inl i,Sum.inr t]=none/\kn i t=none)\/∃q ys p,Zbe m [Sum.inl i,Sum.inr t]=some (.ref q)/\H q=some (.tup ys)/\RepP H ys p/\kn i t=some p
theorem KnR.tk{H H':Hp}{m:List (List Key×V)}{kn:Kn}(h:KnR H m kn)(k:TK H H'):KnR H' m kn:=fun i t=>by
 rcases h i t with h|⟨q,ys,p,h1,h2,h3,h4⟩
 ·exact .inl h
 ·exact .inr ⟨q,ys,p,h1,k _ _ h2,h3.mono k,h4⟩
structure KnOk(kn:Kn):Prop where
 one:∀i t p,kn i t=some p->p.nk<=1
 sz:∀i t p,kn i t=some p->p.sz<=20
 ok:∀i t p,kn i t=some p->∀x∈p.tags,PyData.strOk x=true
def moV(m:Option Int):V:=match m with|none=>.non|some i=>.int i
def BgV(H:Hp)(z:V)(l:Addr)(b:Option Int×List Str):Prop := ∃a,z=.ref a/\H a=some (.tup [moV b.1,.ref l])/\H l=some (.lst (b.2.map V.str))
inductive BgL(H:Hp):List V->List Addr->Bg->Prop
 | nil:BgL H [] [] []
 | cons {z:V} {l:Addr} {b:Option Int×List Str} {zs:List V} {ls:List Addr} {bs:Bg}:BgV H z l b->BgL H zs ls bs->BgL H (z::zs) (l::ls) (b::bs)
theorem BgL.keep{H H':Hp}:∀{zs:List V}{ls:List Addr}{bs:Bg},BgL H zs ls bs->TK H H'->(∀l∈ls,∀o,H l=some o->H' l=some o)->BgL H' zs ls bs
 | _,_,_,.nil,_,_=>.nil
 | _,_,_,.cons ⟨a,e1,e2,e3⟩ t,k,kl=>.cons ⟨a,e1,k _ _ e2,kl _ (List.mem_cons_self ..) _ e3⟩ (t.keep k fun l hl=>kl l (List.mem_cons_of_mem _ hl))
theorem BgL.snoc{H:Hp}{z:V}{l:Addr}{b:Option Int×List Str}(h:BgV H z l b):∀{zs:List V}{ls:List Addr}{bs:Bg},BgL H zs ls bs->BgL H (zs ++ [z]) (ls ++ [l]) (bs ++ [b])
 | _,_,_,.nil=>.cons h .nil
 | _,_,_,.cons r t=>.cons r (t.snoc h)
theorem BgL.len{H:Hp}:∀{zs:List V}{ls:List Addr}{bs:Bg},BgL H zs ls bs->zs.length=bs.length/\ls.length=bs.length
 | _,_,_,.nil=>⟨rfl,rfl⟩
 | _,_,_,.cons _ t=>by simp[t.len.1,t.len.2]
theorem BgL.unsnoc{H:Hp}:∀{zs:List V}{ls:List Addr}{bs:Bg}{b:Option Int×List Str},BgL H zs ls (bs ++ [b])->∃zs' z ls' l,zs=zs' ++ [z]/\ls=ls' ++ [l]/\BgL H zs' ls' bs/\BgV H z l b
 | _,_,[],_,h=>by
  cases h with
  | cons r t =>
   cases t;exact⟨[],_,[],_,rfl,rfl,.nil,r⟩
 | _,_,c::bs,_,h=>by
  cases h with
  | cons r t =>
   obtain⟨zs',z,ls',l,rfl,rfl,h1,h2⟩:=t.unsnoc;exact⟨_::zs',z,_::ls',l,rfl,rfl,.cons r h1,h2⟩
structure StC(K:PySem.W.Frag)(C:Addr):Prop where
 cls:Cls K C
 n1:Zb8 K C "known"
 n2:Zb8 K C "taken"
 n3:Zb8 K C "begun"
def stF(dk B:Addr)(n:Int):List (Str×V):=[("known",.ref dk),("taken",.int n),("begun",.ref B)]
structure StAt(C:Addr)(H:Hp)(a dk B:Addr)(ls:List Addr)(kn:Kn)(bs:Bg)(n:Int):Prop where
 ok:KnOk kn
 ho:∃dx,H a=some (.ins C dx (stF dk B n))
 hk:∃m,H dk=some (.dT m)/\KnR H m kn
 hb:∃zs,H B=some (.lst zs)/\BgL H zs ls bs
 nd:(B::ls).Nodup
 so:∀b∈bs,∀x∈b.2,PyData.strOk x=true
theorem StAt.keep{C:Addr}{H H':Hp}{a dk B:Addr}{ls:List Addr}{kn:Kn}{bs:Bg}{n:Int}{ex:List Addr}(h:StAt C H a dk B ls kn bs n)(k:Zbw ex H H')(hx:∀b∈ex,∀xs,H b≠some (.tup xs))(ha:a∉ex)(hd:dk∉ex)(hB:B∉ex)(hl:∀l∈ls,l∉ex):StAt C H' a dk B ls kn bs n:=by
 have tk:TK H H':=fun b xs e=>k b _ (fun z=>hx b z xs e) e;obtain⟨dx,h1⟩:=h.ho;obtain⟨m,h2,h3⟩:=h.hk;obtain⟨zs,h4,h5⟩:=h.hb;exact⟨h.ok,⟨dx,k _ _ ha h1⟩,⟨m,k _ _ hd h2,h3.tk tk⟩,⟨zs,k _ _ hB h4,h5.keep tk fun l hl' o e=>k _ _ (hl l hl') e⟩,h.nd,h.so⟩
theorem StAt.same{C:Addr}{H H':Hp}{a dk B:Addr}{ls:List Addr}{kn:Kn}{bs:Bg}{n:Int}(h:StAt C H a dk B ls kn bs n)(s:Zn H H'):StAt C H' a dk B ls kn bs n :=
 h.keep (ex:=[]) (fun b o _ e=>s b o e) (fun _ hb=>nomatch hb) (fun z=>nomatch z) (fun z=>nomatch z) (fun z=>nomatch z) (fun _ _ z=>nomatch z)
theorem StAt.opened{C:Addr}{H:Hp}{a dk Bl t l:Addr}{ls:List Addr}{kn:Kn}{bs:Bg}{n:Int}{zs:List V}{b:Option Int×List Str}(h:StAt C H a dk Bl ls kn bs n)(hB:H Bl=some (.lst zs))(ht:H t=some (.tup [moV b.1,.ref l]))(hl:H l=some (.lst (b.2.map V.str)))(hn:l∉Bl::ls)(hs:∀x∈b.2,PyData.strOk x=true):StAt C (upd H Bl (.lst (zs ++ [.ref t]))) a dk Bl (ls ++ [l]) kn (bs ++ [b]) n:=by
 obtain⟨dx,h1⟩:=h.ho;obtain⟨m,h2,h3⟩:=h.hk;obtain⟨zs',h4,h5⟩:=h.hb;rw[hB] at h4;injection h4 with h4;injection h4 with h4;subst h4;obtain⟨n1,n2⟩:=List.nodup_cons.mp h.nd;have nl:l≠Bl:=fun z=>hn (by rw[z];exact List.mem_cons_self ..);have tk:TK H (upd H Bl (.lst (zs ++ [.ref t]))):=TK.lst hB;refine⟨h.ok,⟨dx,by rw[Zc (ZgH h1 hB (by intro z;cases z))];exact h1⟩,⟨m,by rw[Zc (ZgH h2 hB (by intro z;cases z))];exact h2,h3.tk tk⟩,⟨_,Zb,(h5.keep tk fun l' hl' o e=>?_).snoc ⟨t,rfl,tk _ _ ht,by rw[Zc nl];exact hl⟩⟩,?_,fun c hc=>?_⟩
 ·rw[Zc (fun z=>n1 (by rw[<- z];exact hl'))];exact e
 ·refine List.nodup_cons.mpr ⟨fun z=>?_,List.nodup_append.mpr ⟨n2,by simp,fun x hx y hy e=>?_⟩⟩
  ·rcases List.mem_append.mp z with z|z
   ·exact n1 z
   ·exact nl (List.mem_singleton.mp z).symm
  ·rw[List.mem_singleton.mp hy] at e;exact hn (List.mem_cons_of_mem _ (e ▸ hx))
 ·rcases List.mem_append.mp hc with hc|hc
  ·exact h.so c hc
  ·rw[List.mem_singleton.mp hc];exact hs
theorem BgL.live{H:Hp}:∀{zs:List V}{ls:List Addr}{bs:Bg},BgL H zs ls bs->∀l∈ls,∃xs,H l=some (.lst xs)
 | _,_,_,.cons ⟨_,_,_,e⟩ t,l,hl=>by
  rcases List.mem_cons.mp hl with rfl|hl
  ·exact⟨_,e⟩
  ·exact BgL.live t l hl
theorem StAt.live{C:Addr}{H:Hp}{a dk Bl:Addr}{ls:List Addr}{kn:Kn}{bs:Bg}{n:Int}(h:StAt C H a dk Bl ls kn bs n):∀b∈Bl::ls,∃xs,H b=some (.lst xs):=by
 obtain⟨zs,h4,h5⟩:=h.hb;intro b hb;rcases List.mem_cons.mp hb with rfl|hb
 ·exact⟨_,h4⟩
 ·exact h5.live b hb
theorem StAt.free{C:Addr}{H:Hp}{a dk Bl l:Addr}{ls:List Addr}{kn:Kn}{bs:Bg}{n:Int}(h:StAt C H a dk Bl ls kn bs n)(hl:H l=none):l∉Bl::ls:=fun z=>by
 obtain⟨xs,e⟩:=h.live l z;rw[hl] at e;cases e
theorem Zkz(m:Int):(PyData.tuple [PyData.str "kids",PyData.int m]).canLay0=true:=by
 have h:PyData.strOk "kids" = true:=by decide +kernel
 show(PyData.strOk "kids" && _)=true;rw[h];rfl
theorem Zh5{z:Str}(h:Zez z)(h8:z.length<=8):Zl1 z=true:=by
 have h1:1<=z.length:=by
  have:0<z.cps.toList.length:=List.length_pos_iff.mpr h.1;rw[Array.length_toList] at this;exact this
 unfold Zl1;rw[decide_eq_true h1,decide_eq_true h8,Bool.true_and,Bool.true_and,List.all_eq_true];intro c hc;have:=h.2 c hc;unfold azB;simp;lia
end Fg
namespace L2
open PySem PySem.Spec PyProof.Rows PySem.W
section
variable{X:Cx}{pins:List (Addr×Obj)}{σ : St}{H:Hp}{s:Shared}{d:Addr}{ob:Obj}{kvs:List (Key×V)}
theorem Inv.freeze(I:Inv X pins σ H s)(hd:H d=some (.dK kvs))(ho:s.heap.get? d=some ob):Inv X pins σ (upd H d (.frz ob (.dK kvs))) s:=by
 have q:=I.hok d _ hd;exact I.write (x:=d) (e:=d) (h':=s.heap) (t':=s.toks) (by rw[hd];trivial) (.inl rfl) (fun b u _ q=>q) ⟨ob,ho⟩ ⟨ho,q⟩
theorem Inv.thaw(I:Inv X pins σ H s)(hd:H d=some (.frz ob (.dK kvs)))(nf:∀o u,X.H₀ d≠some (.frz o u)):Inv X pins σ (upd H d (.dK kvs)) s:=by
 obtain⟨hob,q⟩:=(show Zaz X.prog X.w H s.heap d (.frz ob (.dK kvs)) from I.hok d _ hd);have nn:∀b,H b=none->b≠d:=fun b e z=>by rw[z,hd] at e;cases e
 refine⟨I.ok,I.os,I.bare,⟨I.base.keep,I.base.slot,fun b o e n hx=>?_,I.base.there,fun b xs e=>?_,fun b o u e=>?_,fun b ps e=>?_⟩,I.loc,I.cell,?_,fun x c e=>?_,fun p hp=>?_,fun b u e=>?_,I.len⟩
 ·have:=I.base.free b o e n hx;rw[Zc (nn b this)];exact this
 ·have:=I.base.tups b xs e;rw[Zc (fun z=>by rw[z,hd] at this;cases this)];exact this
 ·have:=I.base.frzs b o u e;rw[Zc (fun z=>nf o u (by rw[<- z];exact e))];exact this
 ·obtain⟨m,this⟩:=I.base.tbls b ps e;exact⟨m,by rw[Zc (fun z=>by rw[z,hd] at this;cases this)];exact this⟩
 ·rw[Zc (nn _ I.free)];exact I.free
 ·rw[Zc (nn _ (I.freeC x c e))];exact I.freeC x c e
 ·obtain⟨e,n,r⟩:=I.pin p hp;exact⟨e,by rw[Zc (nn _ n)];exact n,r⟩
 ·by_cases hb:b=d
  ·subst hb;rw[Zb] at e;cases e;exact q
  ·rw[Zc hb] at e;exact(I.hok b u e).stay (fun c v _ q=>q) (fun c q=>by rw[Zc (fun z=>by rw[z,hd] at q;cases q)];exact q) fun c xs q=>by rw[Zc (fun z=>by rw[z,hd] at q;cases q)];exact q
end
def Itd(d:Addr)(ob:Obj)(kvs:List (Key×V)):It:=⟨fun i H=>H d=some (.frz ob (.dK kvs))/\i<kvs.length,fun i H x H'=>H'=H/\∃k v,kvs[i]?= some (k,v)/\x=kV k,fun i H=>H d=some (.frz ob (.dK kvs))/\kvs.length<=i⟩
theorem Zlt{P:Program}{w:World}{k:Key}{u:Value}(h:(ZX P w).is k u=true):RelV (kV k) u:=by
 rcases Z7 (show ZfE k u=true from h) with⟨i,t,rfl,rfl⟩|⟨x,t,rfl,rfl⟩
 ·exact⟨t,rfl⟩
 ·exact⟨t,rfl⟩
theorem Zl0{kvs:List (Key×V)}{vs:List (Key×Value)}(h:KV kvs vs):kvs.length=vs.length/\∀(i:Nat) k v,kvs[i]?= some (k,v)->∃u,vs[i]?= some (k,u):=by
 have h':Paired (fun(p:Key×V)(q:Key×Value)=>p.1=q.1/\RelV p.2 q.2) kvs vs:=h;clear h
 induction h' with
 | nil=>exact⟨rfl,fun i k v e=>by cases i <;> cases e⟩
 | @cons a b l m r t ih =>
  refine⟨congrArg (· + 1) ih.1,fun i k v e=>?_⟩;cases i with
  | zero =>
   injection e with e;subst e;exact⟨b.2,by rw[show k=b.1 from r.1];rfl⟩
  | succ i=>exact ih.2 i k v e
theorem ZiG{P:Program}{w:World}{K:PySem.W.Frag}{tg:Expr}(d:Addr)(ob:Obj)(kvs:List (Key×V))(vs:List (Key×Value))(ep:Nat)(rel:KV kvs vs)(hdat:∀h:Heap,h.get? d=some ob->h.DictAt (ZX P w) d vs ep)(it:Addr) :
  Turn P w K tg (Itd d ob kvs) [it] it (fun i h=>h.IsKeyIter it d i vs.length ep) where
 mem:=by simp
 obj:=fun i h st b hb=>by
  have e:b=it:=by simpa using hb
  subst e;obtain⟨o,e,c,dd⟩:=st;exact⟨o,e,fun v z=>by rw[dd] at z;cases z⟩
 keep:=fun i h h' st k=>st.at fun o e=>k it (by simp) o e
 item:=by
  intro X hP hw hK hc i pins s σ H E I hf st hg;subst hP hw hK;obtain⟨hH,hi⟩:=hg;obtain⟨hob,_⟩:=(show Zaz X.prog X.w H s.heap d (.frz ob (.dK kvs)) from I.hok d _ hH);obtain⟨hl,hat⟩:=Zl0 rel;obtain⟨k,v,hx⟩:∃k v,kvs[i]?= some (k,v):=⟨kvs[i].1,kvs[i].2,by simp[hi]⟩;obtain⟨u,hu⟩:=hat i k v hx;obtain⟨f0,f1,f2,f3,f4,f5⟩:=hf it (by simp);refine wpAny_pyNext_dict_item st (hdat _ hob) hu fun key h' hkey st' sb=>?_;have I1:Inv X pins σ H { s with heap:=h' }:=I.turned (t':=s.toks) (fun b o hb e=>(sb.2 b hb).trans e) f0 f1 f3 f4 f5;obtain⟨o,e,c,dd⟩:=id st';exact⟨key,rfl,Zke (s:={ s with heap:=h' }) e c dd (by decide) ⟨kV k,H,I1,Zlt hkey,⟨rfl,k,v,hx,rfl⟩,st',fun b hb=>(hf b hb).1⟩⟩
 done:=by
  intro X hP hw hK hc i pins s σ H E I hf st hg;subst hP hw hK;obtain⟨hH,hi⟩:=hg;obtain⟨hob,_⟩:=(show Zaz X.prog X.w H s.heap d (.frz ob (.dK kvs)) from I.hok d _ hH);obtain⟨hl,hat⟩:=Zl0 rel;obtain⟨f0,f1,f2,f3,f4,f5⟩:=hf it (by simp);exact wpAny_pyNext_dict_end (I.ok.hd hc) st (hdat _ hob) (by simp;lia) fun h' eb=>⟨rfl,I.turned (t':=s.toks) (fun b o hb e=>eb b o hb e) f0 f1 f3 f4 f5⟩
 self:=fun _ _ _ _ _ st h=>wpAny_pyIter_keyiter st h
section
variable{X:Cx}{tg:Expr}
def ZmU(tl:TE):TI:=fun σ H R=>tl σ H fun x H1=>∃d kvs,x=.ref d/\H1 d=some (.dK kvs)/\∀ob,R (Itd d ob kvs) (upd H1 d (.frz ob (.dK kvs)))
theorem Zjq{l:Expr}{tl:TE}(hl:PE X l tl):PI X tg l (ZmU tl):=by
 intro pins s σ H R I h;refine thn (hl pins s σ H _ I h) fun v s1 ⟨x,H1,I1,r1,q1⟩=>?_;obtain⟨d,kvs,e,hq,q⟩:=q1;subst e;cases r1;obtain⟨hz,hS,vs,rel,hm⟩:kvs.length<=sizeLine/\(d == sysModules)=false/\∃vs,KV kvs vs/\s1.heap.DictOf (ZX X.prog X.w) d vs:=I1.hok d _ hq;obtain⟨ob,es,ep,ho,hx,hdd,hk,hp,hn⟩:=hm;have I2:=I1.freeze hq ho;refine wpAny_pyIter_dict hS ⟨ob,es,ho,hx,hdd,hk,hp,hn⟩ ?_;refine⟨s1.heap.objs.size,[s1.heap.objs.size],_,_,_,rfl,I2.kept (t':=s1.toks) fun b o e=>Heap.get?_push_of_some _ e,ZiG d ob kvs vs ep rel (fun h e=>⟨ob,es,e,hx,hdd,hk,hp,hn⟩) _,⟨_,Heap.get?_push_size _ rfl,rfl,rfl⟩,fun b hb=>?_,q ob⟩;have e:b=s1.heap.objs.size:=by simpa using hb
 subst e;exact I2.fpOk (Nat.le_refl _) (I2.hok.fresh (Nat.le_refl _))
def Zm8(X:Cx)(t:TS):TS:=fun D σ H=>t { D with nx:=fun σ' H'=>∃d ob kvs,H' d=some (.frz ob (.dK kvs))/\(∀o u,X.H₀ d≠some (.frz o u))/\D.nx σ' (upd H' d (.dK kvs)) } σ H
theorem ZiM{st:Stmt}{t:TS}(h:PS X st t):PS X st (Zm8 X t):=by
 intro pins s σ H D I hq;refine thn (h pins s σ H _ I hq) fun f s1 z=>?_;cases f with
 | next =>
  obtain⟨σ',H',I',d,ob,kvs,e,nf,q⟩:=z;exact⟨σ',_,I'.thaw e nf,q⟩
 | brk=>exact z
 | cont=>exact z
 | ret u=>exact z
end
theorem Zg9{d:Addr}{ob:Obj}{kvs:List (Key×V)}{g:TG}{tb:TS}{D:Ends}{σ : St}{H:Hp}(Pv:Nat->St->Hp->Prop)(h0:Pv 0 σ H)(hl:∀i σ H,i<=kvs.length->Pv i σ H->H d=some (.frz ob (.dK kvs)))
  (hs:∀i k v σ H,kvs[i]?= some (k,v)->Pv i σ H->g (kV k) σ H fun σ2 H2=>tb { D with nx:=Pv (i+1),ct:=Pv (i+1),bk:=D.nx } σ2 H2) (hd:∀ σ H,Pv kvs.length σ H->D.nx σ H) :
  ∃W:Nat->Nat->St->Hp->Prop,(∃m,W 0 m σ H)/\∀i m σ H,W i m σ H ->
   ((Itd d ob kvs).stop i H/\D.nx σ H)\/((Itd d ob kvs).go i H/\∃N:St->Hp->Prop,(∀ σ' H',N σ' H'->∃m',m'<m/\W (i+1) m' σ' H')/\∀x H',(Itd d ob kvs).yld i H x H'->g x σ H' fun σ2 H2=>tb { D with nx:=N,ct:=N,bk:=D.nx } σ2 H2):=by
 refine⟨fun i m σ H=>m=kvs.length-i/\i<=kvs.length/\Pv i σ H,⟨kvs.length,by simp,Nat.zero_le _,h0⟩,?_⟩;rintro i m σ H ⟨rfl,hi,p⟩;have q:=hl i σ H hi p;by_cases hlt:i<kvs.length
 ·refine .inr ⟨⟨q,hlt⟩,Pv (i+1),fun σ' H' p'=>⟨kvs.length-(i+1),by lia,rfl,hlt,p'⟩,fun x H' y=>?_⟩;obtain⟨e,k,v,hk,hx⟩:=y;subst e hx;exact hs i k v σ _ hk p
 ·have e:i=kvs.length:=by lia
  subst e;exact .inl ⟨⟨q,Nat.le_refl _⟩,hd σ H p⟩
structure HasC0(K:PySem.W.Frag)(mg:Str->Option Value)(C:Addr)(x:Str):Prop where
 makes:PySem.W.makesIn K C=true
 init:PySem.W.findIn K (.ref C) "__init__" = some (some (.builtin "object.__init__"))
 kp:PySem.W.keepIn K (.ref C)=true
 nm:mg x=some (.ref C)
section
variable{X:Cx}{C:Addr}{x:Str}{p pos:Pos}
def ZlX(C:Addr):TE:=fun _ H Q=>∀x dx,H x=none->H dx=none->dx≠x->Q (.ref x) (upd (upd H dx (.own x)) x (.ins C dx []))
theorem Zjj{pins:List (Addr×Obj)}{σ : St}{H:Hp}{s:Shared}{Q:VK}(M:HasC0 X.K X.mg C x)(I:Inv X pins σ H s)
  (h:∀x dx,H x=none->H dx=none->dx≠x->Q (.ref x) (upd (upd H dx (.own x)) x (.ins C dx []))) :
  wpAny (model X.prog X.w) X.A (call (.ref C) []) (EP X pins σ Q) X.xe s:=by
 have hq:=h (s.heap.objs.size+1) s.heap.objs.size (I.hok.fresh (Nat.le_succ _)) (I.hok.fresh (Nat.le_refl _)) (Nat.ne_of_lt (Nat.lt_succ_self _));have I2:=Inv.made (C:=C) I;have Y:=makes_of (M:=model X.prog X.w) I.kIn M.makes;have hx:((s.heap.push emptyDict).push (instObj C s.heap.objs.size)).get? (s.heap.objs.size+1)=some (instObj C s.heap.objs.size):=by heap_get
 have t1:Looks (model X.prog X.w) ((s.heap.push emptyDict).push (instObj C s.heap.objs.size)) (typeOf (.ref (s.heap.objs.size+1))) (.ref C):=(Looks.ld hx).andThen .now;have t2:Looks (model X.prog X.w) ((s.heap.push emptyDict).push (instObj C s.heap.objs.size)) (isInstance (.ref (s.heap.objs.size+1)) (.type "object")) true:=t1.andThen (Y.top.keeps fun b o e=>Heap.get?_push_of_some _ (Heap.get?_push_of_some _ e));refine wpAny_call (Zjv I.kIn M.makes M.init (fun self=>Looks.of_pure (oi_bind self)) ?_);refine codeAny_call_builtin oi_plain entry_oi (@check_slot (model X.prog X.w) _ _ _ "object.__init__" "object" "__init__" (.ref (s.heap.objs.size+1)) [] [] _ oi_kind oi_split t2 (oi_args (.ref (s.heap.objs.size+1))) ?_);rw[oi_run];exact wpAny_pure (And.intro rfl ⟨V.ref (s.heap.objs.size+1),_,I2,rfl,hq⟩)
theorem Zhx(M:HasC0 X.K X.mg C x)(hg:Gl X x)(hdb:(x == ("__debug__" : Str))=false:=by decide):PE X (.Call (.Name x p) [] [] pos) (ZlX C):=by
 intro pins s σ H Q I h;refine wpAny_Call_Name_kw (ZeY I hg M.nm ?_ hdb);exact PySem.W.callWith_K0 I.kIn M.kp (Zjj M I h)
end
end L2
namespace L2
open PySem PySem.Spec PyProof.Rows
structure FunD(K:PySem.W.Frag)(x qual:Str)(st:Stmt)(f:Addr)(fd:FuncData)(T:Addr):Prop where
 ex:∃(oc:Value)(od:Option Addr)(kV doc pm:Value)(an:Option Addr)(cdv ct:Value)(osl:Array (Option Value)),
  fd=PySem.W.fnOf x qual (Zo st) (Zf st) (Zg st) (.ref T) kV doc pm an cdv ct/\K.lookup f=some ⟨oc,od,.func fd,osl⟩/\PySem.W.codeIn K cdv qual=true
 kp:PySem.W.keepIn K (.ref f)=true
structure HasD(P:Program)(w:World)(K:PySem.W.Frag)(mg:Str->Option Value)(base:Heap)(x:Str)(ps:List Str)(dvs:List V)(k:Nat)(sp:Sp):Prop where
 ex:∃(f:Addr)(fd:FuncData)(ds:List Value),FnOk P w K mg base CX0 k f fd ps sp/\Binds K fd ps ds/\Vals dvs ds/\PySem.W.keepIn K (.ref f)=true/\mg x=some (.ref f)
section
variable{P:Program}{w:World}{K:PySem.W.Frag}{mg:Str->Option Value}{base:Heap}
theorem FunD.ok{x qual:Str}{st:Stmt}{f T:Addr}{fd:FuncData}{N ps:List Str}{k:Nat}{sp:Sp}(F:FunD K x qual st f fd T)(S:FnScope N ps (Zg st))(len:∀vs H Q E,sp vs H Q E->vs.length=ps.length)
  (hbody:∀(cdv:Value)(A:Around)(outer:List Env)(s:Shared)(H:Hp)(vs:List V)(Q:VK)(E:XK),Room k (A.deeper (envOfC qual (Zg st) s.heap.objs.size f cdv))->sp vs H Q E ->
   ∃t,PSs (Zlw CX0 P w K mg base N qual (Zg st) f cdv A outer s H E).nox (Zf st) t/\t { nx:=fun _ H'=>Q .non H',rt:=Q } (start N vs) H):FnOk P w K mg base CX0 (k+1) f fd ps sp:=by
 obtain⟨oc,od,kV,doc,pm,an,cdv,ct,osl,rfl,lk,hcd⟩:=F.ex;refine ZlZ lk hcd S len fun A outer s H vs Q E hr hsp=>?_;obtain⟨t,h,q⟩:=hbody cdv A outer s H vs Q E hr hsp;exact⟨t,h.nox,q⟩
theorem FunD.binds{x qual:Str}{st:Stmt}{f T:Addr}{fd:FuncData}{ps:List Str}{o:Obj}{items:Array Value}{n:Nat}(F:FunD K x qual st f fd T)(ds:List Value)(ho:K.lookup T=some o)(hs:o.data=.seq items n)
  (h:∀(kV doc pm:Value)(an:Option Addr)(cdv ct:Value)(us:List Value),(us++ds).length=ps.length->∃k,bindArgs (PySem.W.fnOf x qual (Zo st) (Zf st) (Zg st) (.ref T) kV doc pm an cdv ct) ⟨us,[]⟩=seqItems? (.ref T) >>= k/\k (some items)=pure (ps.zip (us++ds))):Binds K fd ps ds:=by
 obtain⟨oc,od,kV,doc,pm,an,cdv,ct,osl,rfl,lk,hcd⟩:=F.ex;intro s us X hl;obtain⟨k,h1,h2⟩:=h kV doc pm an cdv ct us hl;exact PySem.W.binds_K X rfl ho hs h1 h2
theorem Zk2{x qual:Str}{st:Stmt}{f T:Addr}{oc:Value}{od an:Option Addr}{osl:Array (Option Value)}{kV doc pm cdv ct:Value}(l:K.lookup f=some ⟨oc,od,.func (PySem.W.fnOf x qual (Zo st) (Zf st) (Zg st) (.ref T) kV doc pm an cdv ct),osl⟩)
  (c:PySem.W.codeIn K cdv qual=true) (k:PySem.W.keepIn K (.ref f)=true):FunD K x qual st f (PySem.W.fnOf x qual (Zo st) (Zf st) (Zg st) (.ref T) kV doc pm an cdv ct) T:=⟨⟨oc,od,kV,doc,pm,an,cdv,ct,osl,rfl,l,c⟩,k⟩
end
section
variable{X:Cx}{x:Str}{ps:List Str}{dvs:List V}{j k:Nat}{sp:Sp}{e:Expr}{es:List Expr}{t:TA}{p pos:Pos}
theorem ZjL(G:HasD X.prog X.w X.K X.mg X.base x ps dvs j sp)(hr:Room k X.A)(hg:Gl X x)(ha:PA X (e::es) t)(hk:j<=k:=by decide)(hdb:(x == ("__debug__" : Str))=false:=by decide)
  (he:starEach (e::es) X.env=(false,eval e X.env)::starEach es X.env:=by rfl) (hpl:(backTo pos (starEach es X.env)).any (·.1)=false:=by rfl) :
  PE X (.Call (.Name x p) (e::es) [] pos) (Zlp sp dvs E0 t):=by
 obtain⟨f,fd,ds,F,b,hd,kp,m⟩:=G.ex;exact Zix (F.room hk) hr hg m kp b hd Zjy ha hdb he hpl
end
end L2
namespace Fg
open PySem L2 FgM
def paC(kn:Kn)(m:Int)(t:Str):Pa:=(kn m t).getD (.tag t (.kids m .nil) .nil)
structure Sns(D:Type) where
 R:Hp->V->D->Prop
 no:D
 tr:Str->D->D
 bs:D->D->D
 Ok:D->Prop
 mono:∀{H H':Hp}{v:V}{d:D},TK H H'->R H v d->R H' v d
 no_bs:∀a,bs no a=a
 bs_no:∀a,bs a no=a
 assoc:∀a b c,bs (bs a b) c=bs a (bs b c)
 okl:∀{a b},Ok (bs a b)->Ok a
 okr:∀{a b},Ok (bs a b)->Ok b
 okt:∀{t a},Ok (tr t a)->Ok a
section
variable{D:Type}(S:Sns D)
def Zz(f:Int->D):Pa->D
 | .nil=>S.no
 | .kids m o=>S.bs (f m) (Zz f o)
 | .tag t w o=>S.bs (S.tr t (Zz f w)) (Zz f o)
theorem ZaT(f:Int->D):∀p q:Pa,Zz S f (p.app q)=S.bs (Zz S f p) (Zz S f q)
 | .nil,q=>(S.no_bs _).symm
 | .kids m o,q=>by
  show S.bs (f m) (Zz S f (o.app q))=S.bs (S.bs (f m) (Zz S f o)) (Zz S f q);rw[ZaT f o q,S.assoc]
 | .tag t w o,q=>by
  show S.bs (S.tr t (Zz S f w)) (Zz S f (o.app q))=S.bs (S.bs (S.tr t (Zz S f w)) (Zz S f o)) (Zz S f q);rw[ZaT f o q,S.assoc]
theorem Zdh{f:Int->D}:∀{p:Pa},S.Ok (Zz S f p)->∀m∈p.ks,S.Ok (f m)
 | .nil,_,_,h=>nomatch h
 | .kids m o,h,n,hn=>by
  rcases List.mem_cons.mp hn with rfl|hn
  ·exact S.okl h
  ·exact Zdh (p:=o) (S.okr h) n hn
 | .tag t w o,h,n,hn=>by
  rcases List.mem_append.mp hn with hn|hn
  ·exact Zdh (p:=w) (S.okt (S.okl h)) n hn
  ·exact Zdh (p:=o) (S.okr h) n hn
def chS(kn:Kn):Gr Str->Int->D
 | .nil,_=>S.no
 | .cons t w o,m=>S.bs (Zz S (chS kn w) (paC kn m t)) (chS kn o m)
end
def snG(n:Nat):Sns (Gr Str) where
 R:=fun H v g=>∃a xs,v=.ref a/\H a=some (.tup xs)/\RepG H xs g
 no:=.nil
 tr:=fun t g=>.cons t g .nil
 bs:=ZaK
 Ok:=fun g=>gsz g<=n
 mono:=fun k ⟨a,xs,e,h1,h2⟩=>⟨a,xs,e,k _ _ h1,h2.mono k⟩
 no_bs:=fun _=>rfl
 bs_no:=Zcp
 assoc:=ZcT
 okl:=fun{a b} h=>by
  have h:gsz (ZaK a b)<=n:=h;rw[Zbn] at h;show gsz a<=n;lia
 okr:=fun{a b} h=>by
  have h:gsz (ZaK a b)<=n:=h;rw[Zbn] at h;show gsz b<=n;lia
 okt:=fun{t a} h=>by
  have h:1+gsz a+0<=n:=h;show gsz a<=n;lia
def snB:Sns (Nat×Nat) where
 R:=fun H v d=>∃a,v=.ref a/\H a=some (.tup [.int (d.1:Int),.int (d.2:Int)])
 no:=(0,0)
 tr:=fun _ d=>(1+d.1,1+d.2)
 bs:=fun a b=>(a.1+b.1,max a.2 b.2)
 Ok:=fun _=>True
 mono:=fun k ⟨a,e,h⟩=>⟨a,e,k _ _ h⟩
 no_bs:=fun a=>by obtain⟨x,y⟩:=a;simp
 bs_no:=fun a=>by obtain⟨x,y⟩:=a;simp
 assoc:=fun a b c=>by simp only[Prod.mk.injEq];lia
 okl:=fun _=>trivial
 okr:=fun _=>trivial
 okt:=fun _=>trivial
def bnd(g:Gr Str):Nat×Nat:=(gsz g,Zbo g)
theorem ZgD(a b:Gr Str):bnd (ZaK a b)=snB.bs (bnd a) (bnd b):=by
 show(gsz (ZaK a b),Zbo (ZaK a b))=(gsz a+gsz b,max (Zbo a) (Zbo b));rw[Zbn,ZbP]
theorem ZlS(t:Str)(g:Gr Str):bnd (.cons t g .nil)=snB.tr t (bnd g):=by
 show(1+gsz g+0,max (Zbo g+1) 0)=(1+gsz g,1+Zbo g);simp only[Prod.mk.injEq];lia
theorem Zdm{n:Nat}{f:Int->Gr Str}:∀p:Pa,bnd (Zz (snG n) f p)=Zz snB (fun m=>bnd (f m)) p
 | .nil=>rfl
 | .kids m o=>by
  show bnd (ZaK (f m) (Zz (snG n) f o))=snB.bs (bnd (f m)) (Zz snB (fun m=>bnd (f m)) o);rw[ZgD,Zdm o]
 | .tag t w o=>by
  show bnd (ZaK (.cons t (Zz (snG n) f w) .nil) (Zz (snG n) f o))=snB.bs (snB.tr t (Zz snB (fun m=>bnd (f m)) w)) (Zz snB (fun m=>bnd (f m)) o);rw[ZgD,ZlS,Zdm w,Zdm o]
theorem Zjp{n:Nat}(kn:Kn):∀(g:Gr Str)(m:Int),bnd (chS (snG n) kn g m)=chS snB kn g m
 | .nil,_=>rfl
 | .cons t w o,m=>by
  show bnd (ZaK (Zz (snG n) (chS (snG n) kn w) (paC kn m t)) (chS (snG n) kn o m))=snB.bs (Zz snB (chS snB kn w) (paC kn m t)) (chS snB kn o m);rw[ZgD,Zdm,Zjp kn o m]
  congr 2
  funext m'
  exact Zjp kn w m'
def chG(kn:Kn)(g:Gr Str)(m:Int):Gr Str:=chS (snG 0) kn g m
theorem Ze2(n k:Nat)(f:Int->Gr Str):∀p:Pa,Zz (snG n) f p=Zz (snG k) f p
 | .nil=>rfl
 | .kids m o=>by
  show ZaK (f m) (Zz (snG n) f o)=ZaK (f m) (Zz (snG k) f o);rw[Ze2 n k f o]
 | .tag t w o=>by
  show ZaK (.cons t (Zz (snG n) f w) .nil) (Zz (snG n) f o)=ZaK (.cons t (Zz (snG k) f w) .nil) (Zz (snG k) f o);rw[Ze2 n k f w,Ze2 n k f o]
theorem Zlo(n k:Nat)(kn:Kn):∀(g:Gr Str)(m:Int),chS (snG n) kn g m=chS (snG k) kn g m
 | .nil,_=>rfl
 | .cons t w o,m=>by
  show ZaK (Zz (snG n) (chS (snG n) kn w) (paC kn m t)) (chS (snG n) kn o m)=ZaK (Zz (snG k) (chS (snG k) kn w) (paC kn m t)) (chS (snG k) kn o m);rw[Zlo n k kn o m,show chS (snG n) kn w=chS (snG k) kn w from funext fun m'=>Zlo n k kn w m',Ze2 n k]
def ZeE(kn:Kn)(t:Str)(ms:List Int):List Int:=ms.foldl (fun acc m=>(paC kn m t).ks.foldl (fun acc k=>if k∈acc then acc else acc ++ [k]) acc) []
theorem Zii(ks acc:List Int):∀x,x∈ks.foldl (fun acc k=>if k∈acc then acc else acc ++ [k]) acc↔x∈acc\/x∈ks:=by
 induction ks generalizing acc with
 | nil=>simp
 | cons k ks ih =>
  intro x;rw[List.foldl_cons,ih];by_cases c:k∈acc
  ·rw[if_pos c,List.mem_cons];constructor
   ·rintro(h|h)
    ·exact .inl h
    ·exact .inr (.inr h)
   ·rintro(h|rfl|h)
    ·exact .inl h
    ·exact .inl c
    ·exact .inr h
  ·rw[if_neg c,List.mem_append,List.mem_singleton,List.mem_cons];constructor
   ·rintro((h|h)|h)
    ·exact .inl h
    ·exact .inr (.inl h)
    ·exact .inr (.inr h)
   ·rintro(h|h|h)
    ·exact .inl (.inl h)
    ·exact .inl (.inr h)
    ·exact .inr h
theorem ZkH(ks acc:List Int)(h:acc.Nodup):(ks.foldl (fun acc k=>if k∈acc then acc else acc ++ [k]) acc).Nodup:=by
 induction ks generalizing acc with
 | nil=>exact h
 | cons k ks ih =>
  rw[List.foldl_cons];refine ih _ ?_;by_cases c:k∈acc
  ·rw[if_pos c];exact h
  ·rw[if_neg c];refine List.nodup_append.mpr ⟨h,by simp,fun x hx y hy e=>c ?_⟩;rw[List.mem_singleton.mp hy] at e;exact e ▸ hx
theorem Zdg(kn:Kn)(t:Str):∀(ms acc:List Int),(∀x,x∈ms.foldl (fun acc m=>(paC kn m t).ks.foldl (fun acc k=>if k∈acc then acc else acc ++ [k]) acc) acc↔x∈acc\/∃m∈ms,x∈(paC kn m t).ks)/\(acc.Nodup->(ms.foldl (fun acc m=>(paC kn m t).ks.foldl (fun acc k=>if k∈acc then acc else acc ++ [k]) acc) acc).Nodup)
 | [],acc=>⟨fun x=>by simp,id⟩
 | m::ms,acc=>by
  obtain⟨h1,h2⟩:=Zdg kn t ms ((paC kn m t).ks.foldl (fun acc k=>if k∈acc then acc else acc ++ [k]) acc)
  refine⟨fun x=>?_,fun h=>h2 (ZkH _ _ h)⟩;rw[List.foldl_cons,h1,Zii];simp only[List.mem_cons,exists_eq_or_imp];exact or_assoc
theorem ZeO{kn:Kn}{t:Str}{ms:List Int}(x:Int):x∈ZeE kn t ms↔∃m∈ms,x∈(paC kn m t).ks:=by
 rw[ZeE,(Zdg kn t ms []).1];simp
theorem Zjw{kn:Kn}{t:Str}{ms:List Int}:(ZeE kn t ms).Nodup:=(Zdg kn t ms []).2 List.nodup_nil
def Zds(kn:Kn)(ms:List Int):Gr Str->List (List Int)
 | .nil=>[]
 | .cons t w o=>ms::(Zds kn (ZeE kn t ms) w++ZeE kn t ms::Zds kn ms o)
theorem ZeW(kn:Kn):∀(g:Gr Str)(ms:List Int),(Zds kn ms g).length=2*gsz g
 | .nil,_=>rfl
 | .cons t w o,ms=>by
  simp only[Zds,gsz,List.length_cons,List.length_append,ZeW kn w,ZeW kn o];lia
structure SnC(K:PySem.W.Frag)(C:Addr):Prop where
 cls:Cls K C
def kvM(ms:List Int):List (Key×V):=ms.map fun m=>((Sum.inl m:Key),V.bl true)
theorem Zlr{acc:List Int}(k:Int):putK (kvM acc) (Sum.inl k) (V.bl true)=kvM (if k∈acc then acc else acc ++ [k]):=by
 by_cases c:k∈acc
 ·rw[if_pos c];unfold putK;have h1:(kvM acc).any (fun p=>decide (p.1=(Sum.inl k:Key)))=true:=by
   rw[List.any_eq_true];exact⟨_,List.mem_map.mpr ⟨k,c,rfl⟩,decide_eq_true rfl⟩
  rw[if_pos h1];unfold kvM;rw[List.map_map];refine List.map_congr_left fun m _=>?_;show(if(Sum.inl m:Key)=Sum.inl k then((Sum.inl m:Key),V.bl true) else((Sum.inl m:Key),V.bl true))=_
  split <;> rfl
 ·rw[if_neg c,Ze7]
  ·unfold kvM;rw[List.map_append];rfl
  ·rw[<- Option.not_isSome_iff_eq_none,<- Zbl,List.any_eq_true];rintro⟨x,hx,e⟩;obtain⟨m,hm,rfl⟩:=List.mem_map.mp hx;have e:(Sum.inl m:Key)=Sum.inl k:=of_decide_eq_true e;injection e with e;exact c (e ▸ hm)
theorem Zkb:∀(n:Nat)(l:List Int),l.Nodup->(∀x∈l,0<=x/\x<(n:Int))->l.length<=n
 | 0,l,_,h=>by
  cases l with
  | nil=>exact Nat.le_refl _
  | cons x l =>
   have:=h x (List.mem_cons_self ..);lia
 | n+1,l,hn,h=>by
  by_cases c:(n:Int)∈l
  ·have h1:=Zkb n (l.erase (n:Int)) (hn.erase _) fun x hx=>by
    have h2:=h x (List.mem_of_mem_erase hx);have h3:x≠(n:Int):=fun e=>by
     rw[e] at hx;exact(List.Nodup.not_mem_erase hn) hx
    lia
   rw[List.length_erase_of_mem c] at h1;lia
  ·have:=Zkb n l hn fun x hx=>by
    have h2:=h x hx;have h3:x≠(n:Int):=fun e=>c (e ▸ hx);lia
   lia
structure KnV(kn:Kn)(n:Int):Prop where
 sz:∀i t p,kn i t=some p->p.sz<=20
 ks:∀i t p,kn i t=some p->∀k∈p.ks,0<=k/\k<n
theorem KnV.psz{kn:Kn}{n:Int}(h:KnV kn n)(m:Int)(t:Str):(paC kn m t).sz<=20:=by
 unfold paC;cases e:kn m t with
 | none=>exact Nat.le_of_ble_eq_true rfl
 | some p=>exact h.sz _ _ _ e
theorem KnV.pks{kn:Kn}{n:Int}(h:KnV kn n){m:Int}{t:Str}(hm:0<=m/\m<n):∀k∈(paC kn m t).ks,0<=k/\k<n:=by
 unfold paC;cases e:kn m t with
 | none =>
  intro k hk;have hk:k ∈ [m]:=hk;rw[List.mem_singleton.mp hk];exact hm
 | some p=>exact h.ks _ _ _ e
theorem KnV.mds{kn:Kn}{n:Int}(h:KnV kn n){t:Str}{ms:List Int}(hm:∀m∈ms,0<=m/\m<n):∀k∈ZeE kn t ms,0<=k/\k<n:=fun k hk=>by
 obtain⟨m,h1,h2⟩:=(ZeO k).mp hk;exact h.pks (hm m h1) k h2
def Zbj(kn:Kn):List (List Int)×List (List Int)->Str->List (List Int)×List (List Int)
 | ([],fo),_=>([],fo)
 | (top::rs,fo),w=>if w=SL then(rs,fo ++ [top]) else(ZeE kn w top::top::rs,fo ++ [top])
theorem ZbO(kn:Kn):∀(g:Gr Str)(top:List Int)(rs fo:List (List Int)),ZbG SL g->(words SL g).foldl (Zbj kn) (top::rs,fo)=(top::rs,fo++Zds kn top g)
 | .nil,top,rs,fo,_=>by
  show(top::rs,fo)=(top::rs,fo ++ []);rw[List.append_nil]
 | .cons t w o,top,rs,fo,⟨h1,h2,h3⟩=>by
  show(t::(words SL w++SL::words SL o)).foldl (Zbj kn) (top::rs,fo)=_;rw[List.foldl_cons,List.foldl_append,List.foldl_cons];have e1:Zbj kn (top::rs,fo) t=(ZeE kn t top::top::rs,fo ++ [top]):=by rw[Zbj,if_neg h1]
  rw[e1,ZbO kn w _ _ _ h2];have e2:∀fo',Zbj kn (ZeE kn t top::top::rs,fo') SL=(top::rs,fo' ++ [ZeE kn t top]):=fun fo'=>by rw[Zbj,if_pos rfl]
  rw[e2,ZbO kn o _ _ _ h3];simp[Zds]
theorem plc{D:Type}(S:Sns D){kn:Kn}{n:Int}(kv:KnV kn n):∀(g:Gr Str)(ms:List Int)(k p e:Nat),(∀m∈ms,0<=m/\m<n)->(∀m∈ms,S.Ok (chS S kn g m))->(p,e)∈prs k g ->
  ∃(i:Nat)(t:Str)(w o:Gr Str)(ms':List Int),p=k+i/\atG g i=.cons t w o/\e=p+1+2*gsz w/\atG g (i+1)=w/\atG g (i+2*gsz w+2)=o/\(words SL g)[i]?= some t/\i+2*gsz w+2<=2*gsz g /\
   (Zds kn ms g)[i]?= some ms'/\(w ≠ .nil->(Zds kn ms g)[i+1]?= some (ZeE kn t ms'))/\(o ≠ .nil->(Zds kn ms g)[i+2*gsz w+2]?= some ms')/\(∀m∈ms',0<=m/\m<n)/\∀m∈ms',S.Ok (chS S kn (.cons t w o) m)
 | .cons t w o,ms,k,p,e,hm,hok,h=>by
  have hz:gsz (.cons t w o)=1+gsz w+gsz o:=rfl;have hl1:=ZeW kn w (ZeE kn t ms);have inM:∀{j:Nat},j<2*gsz w->(Zds kn ms (.cons t w o))[j+1]?= (Zds kn (ZeE kn t ms) w)[j]? := fun{j} hj=>by
   show(ms::(Zds kn (ZeE kn t ms) w++ZeE kn t ms::Zds kn ms o))[j+1]?= _;rw[List.getElem?_cons_succ,List.getElem?_append_left (by lia)]
  have outM:∀{j:Nat},(Zds kn ms (.cons t w o))[j+2*gsz w+2]?= (Zds kn ms o)[j]? := fun{j}=>by
   show(ms::(Zds kn (ZeE kn t ms) w++ZeE kn t ms::Zds kn ms o))[j+2*gsz w+1+1]?= _;rw[List.getElem?_cons_succ,List.getElem?_append_right (by lia),hl1,show j+2*gsz w+1-2*gsz w=j+1 by lia,List.getElem?_cons_succ]
  have head0:∀(ms:List Int)(g:Gr Str),g ≠ .nil->(Zds kn ms g)[0]?= some ms:=fun ms g hg=>by
   cases g with
   | nil=>exact absurd rfl hg
   | cons _ _ _=>rfl
  have pos:∀(g:Gr Str),g ≠ .nil->0<gsz g:=fun g hg=>by
   cases g with
   | nil=>exact absurd rfl hg
   | cons _ _ _=>simp only[gsz];lia
  rcases List.mem_append.mp h with h|h
  ·obtain⟨i,t',w',o',ms',rfl,h1,h2,h3,h4,h5,h6,h7,h8,h9,h10,h11⟩:=plc S kv w (ZeE kn t ms) (k+1) p e (kv.mds hm) (fun m' hm'=>by
    obtain⟨m,g1,g2⟩:=(ZeO m').mp hm';exact Zdh S (S.okl (hok m g1)) m' g2) h
   have hz':atG w i=.cons t' w' o'->True:=fun _=>trivial;refine⟨i+1,t',w',o',ms',by lia,?_,h2,?_,?_,?_,by lia,?_,fun hw=>?_,fun ho=>?_,h10,h11⟩
   ·rw[Zco (by lia)];exact h1
   ·rw[Zco (by lia)];exact h3
   ·rw[show i+1+2*gsz w'+2=(i+2*gsz w'+2)+1 by lia,Zco (by lia)];exact h4
   ·rw[Ze4 (by lia)];exact h5
   ·rw[inM (by lia)];exact h7
   ·have:=pos w' hw;rw[inM (by lia)];exact h8 hw
   ·have hlt:i+2*gsz w'+2<2*gsz w:=by
     have h12:=h9 ho;have:=(List.getElem?_eq_some_iff.mp h12).1;lia
    rw[show i+1+2*gsz w'+2=(i+2*gsz w'+2)+1 by lia,inM hlt];exact h9 ho
  ·rcases List.mem_cons.mp h with h|h
   ·injection h with h1 h2;subst h1 h2;refine⟨0,t,w,o,ms,rfl,rfl,rfl,?_,?_,rfl,by lia,rfl,fun hw=>?_,fun ho=>?_,hm,hok⟩
    ·rw[Zco (Nat.zero_le _)];exact Zck w
    ·rw[ZbF];exact Zck o
    ·have:=pos w hw;rw[inM (by lia)];exact head0 _ w hw
    ·rw[outM];exact head0 _ o ho
   ·obtain⟨i,t',w',o',ms',rfl,h1,h2,h3,h4,h5,h6,h7,h8,h9,h10,h11⟩:=plc S kv o ms (k+2+2*gsz w) p e hm (fun m hm'=>S.okr (hok m hm')) h;refine⟨i+2*gsz w+2,t',w',o',ms',by lia,?_,h2,?_,?_,?_,by lia,?_,fun hw=>?_,fun ho=>?_,h10,h11⟩
    ·rw[ZbF];exact h1
    ·rw[show i+2*gsz w+2+1=i+1+2*gsz w+2 by lia,ZbF];exact h3
    ·rw[show i+2*gsz w+2+2*gsz w'+2=(i+2*gsz w'+2)+2*gsz w+2 by lia,ZbF];exact h4
    ·rw[ZdZ];exact h5
    ·rw[outM];exact h7
    ·rw[show i+2*gsz w+2+1=(i+1)+2*gsz w+2 by lia,outM];exact h8 hw
    ·rw[show i+2*gsz w+2+2*gsz w'+2=(i+2*gsz w'+2)+2*gsz w+2 by lia,outM];exact h9 ho
end Fg
namespace K97
open PySem L2 FgM Fg
def top(i:Nat):Stmt:=PySem.Challenge.pw_formgrove_k97_whole_two_streams.main.body.getD i (.Pass ⟨0,0,0,0⟩)
abbrev Zb4:Stmt:=top 8
abbrev Zbf:Stmt:=top 9
abbrev ZaX:Stmt:=top 10
abbrev ZaZ:Stmt:=top 14
abbrev Z5:Stmt:=top 15
abbrev ZaM:Stmt:=top 16
abbrev Z6:Stmt:=top 17
abbrev ZM:Stmt:=top 18
abbrev Zbd:Stmt:=top 19
abbrev Zag:Stmt:=top 20
abbrev Zab:Stmt:=inClass (top 21) 0
abbrev ZaD:Stmt:=inClass (top 21) 1
abbrev Zak:Stmt:=inClass (top 21) 2
abbrev Zad:Stmt:=inClass (top 22) 0
abbrev ZaB:Stmt:=inClass (top 22) 1
abbrev Zam:Stmt:=inClass (top 22) 2
abbrev Zbv:Stmt:=top 23
abbrev Zaq:Stmt:=top 24
abbrev Zbg:Stmt:=top 26
abbrev Zbs:Stmt:=top 27
abbrev Zac:Stmt:=top 28
abbrev Z4:Stmt:=inClass (top 29) 0
abbrev ZaE:Stmt:=inClass (top 29) 1
abbrev ZJ:Stmt:=inClass (top 29) 2
abbrev ZaF:Stmt:=inClass (top 29) 4
abbrev Zb2:Stmt:=top 31
abbrev Z9:Stmt:=top 32
abbrev Zt:Stmt:=top 33
abbrev ZbA:Stmt:=top 34
abbrev ZC:Stmt:=top 35
abbrev Zbx:Stmt:=top 36
abbrev ZcQ:Stmt:=top 37
abbrev ZaV:Stmt:=top 38
abbrev ZaL:Stmt:=top 39
abbrev ZaU:Stmt:=top 40
theorem Zjn:FnScope ["text"] ["text"] (Zg Zb4):=⟨rfl,rfl,rfl,by decide +kernel,rfl,by decide +kernel,by decide +kernel⟩
theorem ZbC:FnScope ["grove","words","waiting","tree"] ["grove"] (Zg Zbf):=⟨rfl,rfl,rfl,by decide +kernel,rfl,by decide +kernel,by decide +kernel⟩
theorem Zbh:FnScope ["words","ended_at","begun","place","word"] ["words"] (Zg ZaX):=⟨rfl,rfl,rfl,by decide +kernel,rfl,by decide +kernel,by decide +kernel⟩
theorem ZbW:FnScope ["parts","found","part"] ["parts"] (Zg ZaZ):=⟨rfl,rfl,rfl,by decide +kernel,rfl,by decide +kernel,by decide +kernel⟩
theorem Zc8:FnScope ["changer"] ["changer"] (Zg Z5):=⟨rfl,rfl,rfl,by decide +kernel,rfl,by decide +kernel,by decide +kernel⟩
theorem ZfJ:FnScope ["known","mode","tag"] ["known","mode","tag"] (Zg ZaM):=⟨rfl,rfl,rfl,by decide +kernel,rfl,by decide +kernel,by decide +kernel⟩
theorem Zae:FnScope ["parts","kids","sense","row","part","piece"] ["parts","kids","sense"] (Zg Z6):=⟨rfl,rfl,rfl,by decide +kernel,rfl,by decide +kernel,by decide +kernel⟩
theorem Zap:FnScope ["changer","words","mode","sense","known","modes","ended_at","told","place","others","come","each","first"] ["changer","words","mode","sense"] (Zg ZM):=⟨rfl,rfl,rfl,by decide +kernel,rfl,by decide +kernel,by decide +kernel⟩
theorem ZbD:FnScope ["known","words","mode","found","rows","word"] ["known","words","mode"] (Zg Zbd):=⟨rfl,rfl,rfl,by decide +kernel,rfl,by decide +kernel,by decide +kernel⟩
theorem ZaQ:FnScope ["known","modes","tag","found","mode","part"] ["known","modes","tag"] (Zg Zag):=⟨rfl,rfl,rfl,by decide +kernel,rfl,by decide +kernel,by decide +kernel⟩
theorem ZcI:FnScope ["self"] ["self"] (Zg Zab):=⟨rfl,rfl,rfl,by decide +kernel,rfl,by decide +kernel,by decide +kernel⟩
theorem Zek:FnScope ["self","tag","within"] ["self","tag","within"] (Zg ZaD):=⟨rfl,rfl,rfl,by decide +kernel,rfl,by decide +kernel,by decide +kernel⟩
theorem Zc3:FnScope ["self","one","other"] ["self","one","other"] (Zg Zak):=⟨rfl,rfl,rfl,by decide +kernel,rfl,by decide +kernel,by decide +kernel⟩
theorem ZcN:FnScope ["self"] ["self"] (Zg Zad):=⟨rfl,rfl,rfl,by decide +kernel,rfl,by decide +kernel,by decide +kernel⟩
theorem Zel:FnScope ["self","tag","within"] ["self","tag","within"] (Zg ZaB):=⟨rfl,rfl,rfl,by decide +kernel,rfl,by decide +kernel,by decide +kernel⟩
theorem Zc7:FnScope ["self","one","other"] ["self","one","other"] (Zg Zam):=⟨rfl,rfl,rfl,by decide +kernel,rfl,by decide +kernel,by decide +kernel⟩
theorem ZcK:FnScope ["changer","grove","mode","words","bounds"] ["changer","grove","mode"] (Zg Zbv):=⟨rfl,rfl,rfl,by decide +kernel,rfl,by decide +kernel,by decide +kernel⟩
theorem ZdT:FnScope ["tags","deep"] ["tags","deep"] (Zg Zaq):=⟨rfl,rfl,rfl,by decide +kernel,rfl,by decide +kernel,by decide +kernel⟩
theorem Zgn:FnScope ["changer"] ["changer"] (Zg Zbg):=⟨rfl,rfl,rfl,by decide +kernel,rfl,by decide +kernel,by decide +kernel⟩
theorem Zhz:FnScope ["parts"] ["parts"] (Zg Zbs):=⟨rfl,rfl,rfl,by decide +kernel,rfl,by decide +kernel,by decide +kernel⟩
theorem Za1:FnScope ["parts","words","part"] ["parts"] (Zg Zac):=⟨rfl,rfl,rfl,by decide +kernel,rfl,by decide +kernel,by decide +kernel⟩
theorem Zcm:FnScope ["self","changer"] ["self","changer"] (Zg Z4):=⟨rfl,rfl,rfl,by decide +kernel,rfl,by decide +kernel,by decide +kernel⟩
theorem Zej:FnScope ["self","word"] ["self","word"] (Zg ZaE):=⟨rfl,rfl,rfl,by decide +kernel,rfl,by decide +kernel,by decide +kernel⟩
theorem Z2:FnScope ["self","mode","tag","parts","words","kids","at"] ["self","mode","tag"] (Zg ZJ):=⟨rfl,rfl,rfl,by decide +kernel,rfl,by decide +kernel,by decide +kernel⟩
theorem Za4:FnScope ["self","words","mode","behind"] ["self"] (Zg ZaF):=⟨rfl,rfl,rfl,by decide +kernel,rfl,by decide +kernel,by decide +kernel⟩
theorem ZdE:FnScope ["_law_script","_law_k","_law_number"] ["_law_script","_law_k"] (Zg Zb2):=⟨rfl,rfl,rfl,by decide +kernel,rfl,by decide +kernel,by decide +kernel⟩
theorem Za6:FnScope ["_law_cell_here","_law_letters","_law_base","_law_tags_here","_law_k","_law_other","_law_at","_law_place"] ["_law_cell_here"] (Zg Z9):=⟨rfl,rfl,rfl,by decide +kernel,rfl,by decide +kernel,by decide +kernel⟩
theorem Zal:FnScope ["_law_cell_here","_law_tags_here","_law_modes","_law_rows","_law_opened","_law_kids","_law_rest","_law_k","_law_turn","_law_inner"] ["_law_cell_here","_law_tags_here","_law_modes"] (Zg Zt):=⟨rfl,rfl,rfl,by decide +kernel,rfl,by decide +kernel,by decide +kernel⟩
theorem Zcq:FnScope ["_law_script","_law_at","_law_tags_here","_law_modes","_law_made_here","_law_k","_law_cell_here"] ["_law_script","_law_at","_law_tags_here","_law_modes"] (Zg ZbA):=⟨rfl,rfl,rfl,by decide +kernel,rfl,by decide +kernel,by decide +kernel⟩
theorem ZaA:FnScope ["_law_script","_law_tags_here","_law_rows","_law_opened","_law_many","_law_k","_law_cell_here","_law_inner"] ["_law_script","_law_tags_here"] (Zg ZC):=⟨rfl,rfl,rfl,by decide +kernel,rfl,by decide +kernel,by decide +kernel⟩
theorem Zbr:FnScope ["_law_grove_here","_law_words_here","_law_tag","_law_inner"] ["_law_grove_here"] (Zg Zbx):=⟨rfl,rfl,rfl,by decide +kernel,rfl,by decide +kernel,by decide +kernel⟩
theorem Zcl:FnScope ["_law_made_here","_law_parts_here","_law_inner","_law_grove_here","_law_part"] ["_law_made_here","_law_parts_here","_law_inner"] (Zg ZcQ):=⟨rfl,rfl,rfl,by decide +kernel,rfl,by decide +kernel,by decide +kernel⟩
theorem Za2:FnScope ["_law_made_here","_law_mode","_law_grove_here","_law_found","_law_tag","_law_inner"] ["_law_made_here","_law_mode","_law_grove_here"] (Zg ZaV):=⟨rfl,rfl,rfl,by decide +kernel,rfl,by decide +kernel,by decide +kernel⟩
theorem ZfS:FnScope ["_law_modes","_law_made_here"] ["_law_modes","_law_made_here"] (Zg ZaL):=⟨rfl,rfl,rfl,by decide +kernel,rfl,by decide +kernel,by decide +kernel⟩
theorem Za5:FnScope ["_law_script","_law_tags_here","_law_modes","_law_more","_law_made_here","_law_after","_law_one","_law_other","_law_grove_here","_law_first","_law_second","_law_came","_law_word","_law_some","_law_due","_law_mode"] ["_law_script"] (Zg ZaU):=⟨rfl,rfl,rfl,by decide +kernel,rfl,by decide +kernel,by decide +kernel⟩
abbrev ZbN:List Str:=["all","dict","enumerate","len","list","max","range","sorted","tuple"]
section
variable{P:Program}{w:World}{K:PySem.W.Frag}{mg:Str->Option Value}{base:Heap}{f:Addr}{fd:FuncData}
theorem ZjA(B:∀x∈ZbN,mg x=none)(Cc:∃t:Tok,mg "LONGEST_TAG" = some (.int 8 t)) (F:Fun K "is_tag" "is_tag" Zb4 f fd):FnOk P w K mg base CX0 1 f fd ["text"] Zf9:=by
 refine F.ok Zjn (fun vs H Q E h=>?_) (fun cdv A outer s H vs Q E hr h=>?_)
 ·obtain⟨z,rfl,_⟩:=h;rfl
 obtain⟨z,rfl,hz,q⟩:=h;obtain⟨t8,c_LONGEST_TAG⟩:=Cc;unfold Zl1 at q;refine⟨_,(Zj (ZL (Zmp (Zj0 ZlG ZlG Zh (Zaj ZfQ rfl (B "len" (by decide)) PySem.boot_len (Za (pv 0) Ze)) (Zgu (v:=.int 8) rfl c_LONGEST_TAG ⟨_,rfl⟩)) (ZlO (Zaj (Zht rfl) rfl (B "all" (by decide)) ZkD (Za (Zh2 (pv 0) rfl (by decide) (by decide) rfl (by decide) rfl (by decide) (fun _=>rfl)) Ze)))))),?_⟩;refine⟨_,rfl,z,rfl,Zao (by lia),_,_,rfl,rfl,_,rfl,?_⟩;refine Zew (fun c=>?_) (fun c=>?_)
 ·have c1:1<=z.length:=by
   have:=of_decide_eq_true c;lia
  rw[decide_eq_true c1,Bool.true_and] at q;refine⟨_,_,rfl,rfl,_,rfl,?_⟩;refine Zew (fun c=>?_) (fun c=>?_)
  ·have c2:z.length<=8:=by
    have:=of_decide_eq_true c;lia
   rw[decide_eq_true c2,Bool.true_and] at q;refine⟨_,rfl,z,rfl,Zao (by lia),fun p hp=>⟨p,z.cps.toList.map azB,rfl,SqL.of ?_,?_⟩⟩
   ·rw[Zb,List.map_map];rfl
   ·have e:(z.cps.toList.map azB).all id=z.cps.toList.all azB:=by
     rw[List.all_map];rfl
    rw[e];exact q _ (Zn.new hp)
  ·have c2 : ¬ z.length<=8:=fun h=>c (decide_eq_true (by show((z.length:Nat):Int)<=8;lia));rw[decide_eq_false c2,Bool.false_and] at q;exact q H (Zn.refl H)
 ·have c1 : ¬ 1<=z.length:=fun h=>c (decide_eq_true (by show(1:Int)<=((z.length:Nat):Int);lia));rw[decide_eq_false c1,Bool.false_and,Bool.false_and] at q;exact⟨_,rfl,Zdt (q H (Zn.refl H))⟩
theorem Zgc(B:∀x∈ZbN,mg x=none)(F:Fun K "words_of" "words_of" Zbf f fd):FnOk P w K mg base CX0 1 f fd ["grove"] (Zgb K):=by
 refine F.ok ZbC (fun vs H Q E h=>?_) (fun cdv A outer s H vs Q E hr h=>?_)
 ·obtain⟨a,xs,g,rfl,_⟩:=h;rfl
 obtain⟨a,xs,g,rfl,hT,hG,hlen,q⟩:=h;have hu:=Zfe hr;refine⟨_,(Zd (Zm (i:=1) ZbC.nd rfl (Or.inl rfl) (Zaa Ze))
  (Zd (Zm (i:=2) ZbC.nd rfl (Or.inl rfl) (Zaw ZcZ rfl (B "list" (by decide)) Zjm (Za (Ziw (pv 0)) Ze)))
  (Zd (Ze6 PassesOwn.never (ZbB (pv 2) (fun _=>rfl))
   (Zd (Zm (i:=3) ZbC.nd rfl (Or.inl rfl) (ZbI PySem.F.plainAttrs_list PySem.F.slot_list_pop PySem.F.type_list_pop ZbL (pv 2)))
    (Zj (Za8 (ZK (ZlA hu) (pv 3) ZaJ (Z0 _))
     (Zj (ZQ (ZaS PySem.F.plainAttrs_list PySem.F.slot_list_append PySem.F.type_list_append Zy (pv 1) (Za (pv 3) Ze))))
     (Zd (ZQ (ZaS PySem.F.plainAttrs_list PySem.F.slot_list_append PySem.F.type_list_append Zy (pv 1) (Za (ZF Z3 (pv 3) Zh (fun _ _=>rfl)) Ze)))
      (Zd (ZQ (ZaS PySem.F.plainAttrs_list PySem.F.slot_list_append PySem.F.type_list_append Zy (pv 2) (Za ZaJ Ze)))
      (Zj (ZQ (ZaS PySem.F.plainAttrs_list PySem.F.slot_list_extend PySem.F.type_list_extend ZhL (pv 2) (Za (Ziw (ZF Z3 (pv 3) Zh (fun _ _=>rfl))) Ze))))))))))
  (Zj (ZL (pv 1)))))),?_⟩
 refine⟨by decide,fun p hp=>?_⟩;refine⟨_,rfl,a,xs,rfl,(Zn.new hp).seqT hT,fun t ht=>⟨t,_,rfl,.inr (SqT.of Zb),fun l hl=>?_⟩⟩;obtain⟨ntp,ht0⟩:=Zk ht;obtain⟨nlt,hl0⟩:=Zk hl;obtain⟨nlp,hl1⟩:=Zk hl0
 let W:Nat->St->Hp->Prop:=fun m σ H1=>∃(acc:List Str)(st:List (Item Str))(vs:List V)(v3:Option V),σ =[some (.ref a),some (.ref p),some (.ref l),v3]/\Zn H H1 /\
  H1 p=some (.lst (acc.map V.str))/\H1 l=some (.lst vs)/\Paired (Zk8 H1) vs st/\acc++Za7 SL st=words SL g/\m=(Za7 SL st).length
 have s3:Zn H (upd (upd (upd H p (.lst [])) t (.tup xs.reverse)) l (.lst xs.reverse)):=((Zn.new hp).upd_new ht0).upd_new hl1;refine⟨W,⟨_,[],(items g).reverse,xs.reverse,none,rfl,s3,?_,Zb,?_,?_,rfl⟩,?_⟩
 ·rw[Zc nlp.symm,Zc ntp.symm];exact Zb
 ·exact Zcy s3.tk (ZcA hG.items)
 ·rw[ZfG];rfl
 rintro m σ H1 ⟨acc,st,vs,v3,rfl,sm,hp1,hl1',hst,hw,rfl⟩;have hacc:acc.length<=1000:=by
  have:=congrArg List.length hw;rw[List.length_append] at this;lia
 refine⟨_,rfl,!vs.isEmpty,.inl ⟨vs,SqL.of hl1',rfl⟩,?_⟩;by_cases e:vs=[]
 ·subst e;cases hst;refine Zdt ?_;rw[ZhH,List.append_nil] at hw;subst hw;exact⟨_,rfl,q p H1 sm hp hp1⟩
 ·obtain⟨vs',v,rfl⟩:=ZjB e;obtain⟨st',x,rfl,hst',hx⟩:=Paired.unsnoc hst;have ne:(!(vs' ++ [v]).isEmpty)=true:=by simp
  rw[ne];refine Zhj ?_;rw[Zcc] at hw;refine⟨fun σ' H'=>∃m',m'<(Za7 SL (st' ++ [x])).length/\W m' σ' H',fun _ _ h=>h,?_⟩;refine⟨_,rfl,.inl ⟨rfl,_,SqL.of hl1'⟩,l,_,v,rfl,rfl,hl1',Zay _ _,?_⟩;rw[Zav];have k1:TK H1 (upd H1 l (.lst vs')):=TK.lst hl1';have hp2:(upd H1 l (.lst vs')) p=some (.lst (acc.map V.str)):=by
   rw[Zc nlp.symm];exact hp1
  have hstk:=Zcy k1 hst';have hx2:=hx.mono k1;have sm2:Zn H (upd H1 l (.lst vs')):=sm.upd_new hl1;have hvl:vs'.length=st'.length:=Paired.length hst';have hsl:st'.length<=1000:=by
   have:=congrArg List.length hw;rw[List.length_append,List.length_append] at this;have h2:=ZhM SL st';lia
  cases x with
  | none =>
   have hv:v=.str SL:=hx;subst hv;refine⟨_,rfl,.inr ⟨rfl,_,rfl,?_⟩⟩;refine Zew (fun _=>?_) (fun c=>absurd (decide_eq_true rfl) c);refine⟨_,rfl,.inl ⟨rfl,_,SqL.of hp2⟩,_,rfl,p,_,_,rfl,rfl,hp2,Zv (by rw[List.length_map];lia),?_⟩;refine⟨(Za7 SL st').length,?_,acc ++ [SL],st',vs',_,rfl,sm2.upd_new hp,?_,?_,Zcy (TK.lst hp2) hstk,?_,rfl⟩
   ·rw[Zcc,List.length_append];show _<1+_;lia
   ·rw[Zb,List.map_append];rfl
   ·rw[Zc nlp];exact Zb
   ·rw[List.append_assoc];exact hw
  | some tw =>
   obtain⟨t',w'⟩:=tw;obtain⟨p',q',ys,rfl,h1,h2,h3⟩:=hx2;refine⟨_,rfl,.inl ⟨p',_,_,rfl,rfl,SqT.of h1,_,rfl,?_⟩⟩;refine Zdt ?_;refine⟨_,rfl,.inl ⟨rfl,_,SqL.of hp2⟩,_,rfl,p',_,0,_,rfl,rfl,SqT.of h1,rfl,p,_,_,rfl,rfl,hp2,Zv (by rw[List.length_map];lia),?_⟩;have k3:TK (upd H1 l (.lst vs')) (upd (upd H1 l (.lst vs')) p (.lst (acc.map V.str ++ [.str t']))):=TK.lst hp2;have hl3:(upd (upd H1 l (.lst vs')) p (.lst (acc.map V.str ++ [.str t']))) l=some (.lst vs'):=by
    rw[Zc nlp];exact Zb
   refine⟨_,rfl,.inl ⟨rfl,_,SqL.of hl3⟩,l,_,_,rfl,rfl,hl3,Zv (by lia),?_⟩;have k4:=TK.lst (o:=.lst (vs' ++ [.str SL])) hl3;have hl4:(upd (upd (upd H1 l (.lst vs')) p (.lst (acc.map V.str ++ [.str t']))) l (.lst (vs' ++ [.str SL]))) l=some (.lst (vs' ++ [.str SL])):=Zb;refine⟨_,rfl,.inl ⟨rfl,_,SqL.of hl4⟩,_,rfl,p',_,1,_,rfl,rfl,SqT.of (k4 _ _ (k3 _ _ h1)),rfl,q',ys,rfl,SqT.of (k4 _ _ (k3 _ _ h2)),fun t2 ht2=>?_⟩;obtain⟨n2l,ht3⟩:=Zk ht2;obtain⟨n2p,ht4⟩:=Zk ht3;obtain⟨_,ht5⟩:=Zk ht4;have hl5:(upd (upd (upd (upd H1 l (.lst vs')) p (.lst (acc.map V.str ++ [.str t']))) l (.lst (vs' ++ [.str SL]))) t2 (.tup ys.reverse)) l=some (.lst (vs' ++ [.str SL])):=by
    rw[Zc n2l.symm];exact Zb
   have hys:=h3.length;have hwl:(words SL w').length<=1000:=by
    have:=congrArg List.length hw;rw[List.length_append,List.length_append] at this;have e2:(wi SL (some (t',w'))).length=(words SL w').length+2:=by
     show(t'::(words SL w' ++ [SL])).length=_;rw[List.length_cons,List.length_append];rfl
    lia
   refine⟨l,t2,_,_,rfl,rfl,hl5,SqT.of Zb,Zao (by rw[List.length_append,List.length_reverse,List.length_singleton];lia),?_⟩;have k6:=(k3.trans k4).trans ((TK.new (o:=.tup ys.reverse) ht2).trans (TK.lst (o:=.lst ((vs' ++ [.str SL])++ys.reverse)) hl5));refine⟨(Za7 SL (st' ++ [none]++(items w').reverse)).length,?_,acc ++ [t'],st' ++ [none]++(items w').reverse,_,_,rfl,?_,?_,Zb,?_,?_,rfl⟩
   ·rw[ZdQ,Zcc];show _<(t'::(words SL w' ++ [SL])++Za7 SL st').length;simp only[List.length_append,List.length_cons,List.length_nil];lia
   ·exact(((sm2.upd_new hp).upd_new hl1).upd_new (sm.free ht5)).upd_new hl1
   ·rw[Zc nlp.symm,Zc n2p.symm,Zc nlp.symm,Zb,List.map_append];rfl
   ·exact Paired.app (Paired.app (Zcy k6 hstk) (.cons rfl .nil)) (Zcy k6 (ZcA h3.items))
   ·rw[ZdQ,<- hw];show _=acc++(t'::(words SL w' ++ [SL])++Za7 SL st');simp
def Zf5(K:PySem.W.Frag):Sp:=fun vs H Q _=>∃(a:Addr)(ws:List Str),vs=[.ref a]/\SqL K H a (ws.map V.str)/\Can SL 0 ws/\ws.length<=1000/\∀(d:Addr)(H':Hp),Zn H H'->H d=none->H' d=some (.dK (kvC (cst ws ws.length).2))->Q (.ref d) H'
theorem Zh3(l:List V)(x:V):(l ++ [x])[(l ++ [x]).length-1]?= some x:=by
 rw[List.length_append,List.length_singleton,Nat.add_sub_cancel,List.getElem?_append_right (Nat.le_refl _),Nat.sub_self];rfl
set_option maxHeartbeats 1000000 in
theorem Zgm(B:∀x∈ZbN,mg x=none)(F:Fun K "closings" "closings" ZaX f fd):FnOk P w K mg base CX0 1 f fd ["words"] (Zf5 K):=by
 refine F.ok Zbh (fun vs H Q E h=>?_) (fun cdv A outer s H vs Q E hr h=>?_)
 ·obtain⟨a,ws,rfl,_⟩:=h;rfl
 obtain⟨a,ws,rfl,hS,hcan,hwl,q⟩:=h;have hu1:(A.deeper (PyProof.Rows.envOfC (Str.ofString "closings") (Zg ZaX) s.heap.objs.size f cdv)).units+1<cLine:=by have:=hr.un;lia
 refine⟨_,(Zd (Zm (i:=1) Zbh.nd rfl (Or.inl rfl) ZeT)
  (Zd (Zm (i:=2) Zbh.nd rfl (Or.inl rfl) (Zaa Ze))
  (Zd (ZaP PassesOwn.never rfl (Zlq rfl (B "enumerate" (by decide)) (Za (pv 0) Ze)) (Zfn rfl (Zas (ZD (i:=3) Zbh.nd rfl (Or.inl rfl)) (Zas (ZD (i:=4) Zbh.nd rfl (Or.inl rfl)) ZcJ)))
   (Zj (Za8 (ZK Zca (pv 4) ZaJ (Z0 _))
     (Zj (ZeK hu1 (pv 1) (ZbI PySem.F.plainAttrs_list PySem.F.slot_list_pop PySem.F.type_list_pop ZbL (pv 2)) (pv 3) rfl))
     (Zj (ZQ (ZaS PySem.F.plainAttrs_list PySem.F.slot_list_append PySem.F.type_list_append Zy (pv 2) (Za (pv 3) Ze)))))))
  (Zj (ZL (pv 1)))))),?_⟩
 refine fun d hd=>⟨by decide,fun b hb=>?_⟩;obtain⟨nbd,hb0⟩:=Zk hb;have s2:Zn H (upd (upd H d (.dK [])) b (.lst [])):=(Zn.new hd).upd_new hb0;refine⟨_,rfl,a,_,rfl,s2.seq hS,Zkh (K:=K) (a:=a) (xs:=ws.map V.str) (fun i σ H1=>∃(v3 v4:Option V),σ =[some (.ref a),some (.ref d),some (.ref b),v3,v4]/\Zn H H1/\H1 d=some (.dK (kvC (cst ws i).2))/\H1 b=some (.lst ((cst ws i).1.reverse.map fun(o:Nat)=>V.int (o:Int))))
  ⟨none,none,rfl,s2,by rw[Zc nbd.symm];exact Zb,Zb⟩ ?_ ?_ ?_⟩
 ·rintro i σ H1 _ ⟨v3,v4,_,sm,_⟩;exact sm.seq hS
 ·rintro i x p σ H0 hi ⟨v3,v4,rfl,sm0,hd0,hb1⟩ hp;rw[List.getElem?_map] at hi;obtain⟨wd,hw,rfl⟩:=Option.map_eq_some_iff.mp hi;have hil:=(List.getElem?_eq_some_iff.mp hw).1;have x:=ZiH hcan i (by lia);have s0:Zn H0 (upd H0 p (.tup [.int i,.str wd])):=Zn.new hp;have sm:=sm0.trans s0;have hd1:=s0 _ _ hd0;have hb2:=s0 _ _ hb1;refine⟨p,_,rfl,SqT.of Zb,rfl,_,_,rfl,_,_,rfl,rfl,?_⟩;generalize upd H0 p (.tup [.int i,.str wd])=H1 at sm hd1 hb2 ⊢;have nbd2:d≠b:=fun e=>by rw[e,hb2] at hd1;cases hd1
  have hcl:(kvC (cst ws i).2).length<=1000:=by
   have:=x.cnt;unfold kvC;rw[List.length_map];lia
  refine⟨_,rfl,rfl,_,rfl,Zew (fun c=>?_) (fun c=>?_)⟩
  ·have e:wd=SL:=by
    have:=of_decide_eq_true c;injection this
   subst e;cases hs:(cst ws i).1 with
   | nil =>
    have:=x.len;rw[hs,ZbS hw,Zk6] at this;cases this
   | cons o os =>
    have hz:=Zgw hw hs;have hno:o∉(cst ws i).2.map (·.1):=fun h=>by
     have:=x.nd;rw[hs,List.cons_append,List.nodup_cons] at this;exact this.1 (List.mem_append_right _ h)
    rw[hs,List.reverse_cons,List.map_append] at hb2;have hb3:H1 b=some (.lst ((os.reverse.map fun(o:Nat)=>V.int (o:Int)) ++ [.int (o:Int)])):=hb2;refine⟨_,rfl,_,rfl,_,rfl,.inl ⟨rfl,_,SqL.of hb3⟩,b,_,_,rfl,rfl,hb3,Zh3 _ _,?_⟩;rw[List.dropLast_concat];have hd2:(upd H1 b (.lst (os.reverse.map fun(o:Nat)=>V.int (o:Int)))) d=some (.dK (kvC (cst ws i).2)):=by rw[Zc nbd2];exact hd1
    refine⟨d,_,rfl,ZjN.k (k:=Sum.inl (o:Int)) hd2 (Zv (by lia)),?_⟩;refine⟨_,_,rfl,(sm.upd_new hb0).upd_new hd,?_,?_⟩
    ·rw[Zb,Ze7 _ (ZjY hno),hz];unfold kvC;rw[List.map_append];rfl
    ·rw[Zc nbd2.symm,Zb,hz]
  ·have e:wd≠SL:=fun z=>c (by rw[z];exact decide_eq_true rfl);have hz:=ZgC hw e;refine⟨_,rfl,.inl ⟨rfl,_,SqL.of hb2⟩,_,rfl,b,_,_,rfl,rfl,hb2,Zv (by rw[List.length_map,List.length_reverse];have:=x.cnt;lia),?_⟩;refine⟨_,_,rfl,sm.upd_new hb0,by rw[Zc nbd2,hz];exact hd1,?_⟩;rw[Zb,hz,List.reverse_cons,List.map_append];rfl
 ·rintro σ H1 ⟨v3,v4,rfl,sm,hd1,hb1⟩;rw[List.length_map] at hd1;exact⟨_,rfl,q d H1 sm hd hd1⟩
def PtV(H:Hp)(z:V)(x:Option Int):Prop:=match x with|some m=>∃a,z=.ref a/\H a=some (.tup [.str "kids",.int m])|none=>∃a t q,z=.ref a/\H a=some (.tup [.str "tag",.str t,.ref q])
def PtL(H:Hp)(zs:List V)(xs:List (Option Int)):Prop:=Paired (PtV H) zs xs
theorem PtL.tk{H H':Hp}(k:TK H H'):∀{zs:List V}{xs:List (Option Int)},PtL H zs xs->PtL H' zs xs
 | _,_,.nil=>.nil
 | _,_,.cons (b:=x) r t=>.cons (by
   cases x with
   | some m=>obtain⟨a,e,h⟩:=r;exact⟨a,e,k _ _ h⟩
   | none=>obtain⟨a,t',q,e,h⟩:=r;exact⟨a,t',q,e,k _ _ h⟩) (PtL.tk k t)
def Zde:Pa->List (Option Int)
 | .nil=>[]
 | .kids m o=>some m::Zde o
 | .tag _ w o=>none::(Zde w++Zde o)
theorem Zdv:∀p q:Pa,Zde (p.app q)=Zde p++Zde q
 | .nil,q=>rfl
 | .kids m o,q=>by simp[Pa.app,Zde,Zdv o q]
 | .tag t w o,q=>by simp[Pa.app,Zde,Zdv o q]
theorem Zd2:∀p:Pa,(Zde p).filterMap id=p.ks
 | .nil=>rfl
 | .kids m o=>by simp[Zde,Pa.ks,Zd2 o]
 | .tag t w o=>by simp[Zde,Pa.ks,Zd2 w,Zd2 o]
theorem Zbz:∀p:Pa,(Zde p).length=p.sz
 | .nil=>rfl
 | .kids m o=>by simp[Zde,Pa.sz,Zbz o];lia
 | .tag t w o=>by simp[Zde,Pa.sz,Zbz w,Zbz o];lia
def ZfK(d:Nat):Sp:=fun vs H Q _=>∃(q:Addr)(ys:List V)(p:Pa),vs=[.ref q]/\H q=some (.tup ys)/\RepP H ys p/\p.dep<d/\p.sz<=1000/\∀(r:Addr)(zs:List V)(H':Hp),Zn H H'->H r=none->H' r=some (.lst zs)->PtL H' zs (Zde p)->Q (.ref r) H'
set_option maxHeartbeats 2000000 in
theorem Zfq(d:Nat)(B:∀x∈ZbN,mg x=none)(g_all_parts:Has P w K mg base "all_parts" ["parts"] d (ZfK d)) (F:Fun K "all_parts" "all_parts" ZaZ f fd):FnOk P w K mg base CX0 (d+1) f fd ["parts"] (ZfK (d+1)):=by
 refine F.ok ZbW (fun vs H Q E h=>?_) (fun cdv A outer s H vs Q E hr h=>?_)
 ·obtain⟨q,ys,p,rfl,_⟩:=h;rfl
 obtain⟨q,ys,p,rfl,hq,hP,hd,hz,qq⟩:=h;have hpl:=hP.length;refine⟨_,(Zd (Zm (i:=1) ZbW.nd rfl (Or.inl rfl) (Zaa Ze))
  (Zd (ZaP PassesOwn.never rfl (Zc0 (pv 0)) (ZD (i:=2) ZbW.nd rfl (Or.inl rfl))
   (Zd (ZQ (ZaS PySem.F.plainAttrs_list PySem.F.slot_list_append PySem.F.type_list_append Zy (pv 1) (Za (pv 2) Ze)))
    (Zj (Za8 (ZK Zca (ZF Z3 (pv 2) Zh (fun _ _=>rfl)) ZaJ (Z0 _))
     (Zj (ZQ (ZaS PySem.F.plainAttrs_list PySem.F.slot_list_extend PySem.F.type_list_extend ZdX (pv 1) (Za (Zx g_all_parts hr rfl (Za (ZF Z3 (pv 2) Zh (fun _ _=>rfl)) Ze) (by lia)) Ze))))
     ZaH))))
  (Zj (ZL (pv 1))))),?_⟩
 refine⟨by decide,fun L hL=>?_⟩;have s0:Zn H (upd H L (.lst [])):=Zn.new hL;refine⟨_,rfl,q,rfl,⟨_,SqT.of (s0 _ _ hq)⟩,ZcB (K:=K) (a:=q) (xs:=ys) (fun i σ H1=>∃(v2:Option V)(zs:List V),σ =[some (.ref q),some (.ref L),v2]/\Zn H H1/\H1 L=some (.lst zs)/\PtL H1 zs (Zde (p.take i)))
  ⟨none,[],rfl,s0,Zb,.nil⟩ ?_ ?_ ?_⟩
 ·rintro i σ H1 _ ⟨_,_,_,s1,_⟩;exact SqT.of (s1 _ _ hq)
 ·rintro i x σ H1 hx ⟨v2,zs,rfl,s1,hL1,hzs⟩;obtain⟨a,rfl,ha⟩:=hP.at i x hx;have hts:=p.take_sz i;have hzl:zs.length=(p.take i).sz:=(Paired.length hzs).trans (Zbz _);refine⟨_,rfl,.inl ⟨rfl,_,SqL.of hL1⟩,_,rfl,L,_,_,rfl,rfl,hL1,Zv (by lia),?_⟩;have tk:TK H1 (upd H1 L (.lst (zs ++ [.ref a]))):=TK.lst hL1;rcases ha with⟨m,h1,h2⟩|⟨t,q',ys',w',h1,h2,h3,h4,h5,h6⟩
  ·have h1':=tk _ _ (s1 _ _ h1);refine⟨_,rfl,a,_,0,_,rfl,rfl,SqT.of h1',rfl,rfl,_,rfl,Zdt ?_⟩;refine⟨_,_,rfl,s1.upd_new hL,Zb,?_⟩;rw[h2,Zdv];exact Paired.app (hzs.tk tk) (.cons ⟨a,rfl,h1'⟩ .nil)
  ·have h1':=tk _ _ (s1 _ _ h1);refine⟨_,rfl,a,_,0,_,rfl,rfl,SqT.of h1',rfl,rfl,_,rfl,Zhj ?_⟩;have s2:Zn H (upd H1 L (.lst (zs ++ [.ref a]))):=s1.upd_new hL;refine⟨_,rfl,.inl ⟨rfl,_,SqL.of Zb⟩,_,rfl,a,_,2,_,rfl,rfl,SqT.of h1',rfl,q',ys',w',rfl,s2 _ _ h2,h3.mono s2.tk,by lia,by lia,fun r zr H3 s3 hr0 hr3 hzr=>?_⟩;have hL3:=s3 _ _ (show(upd H1 L (.lst (zs ++ [.ref a]))) L=some (.lst (zs ++ [.ref a])) from Zb);have hrl:zr.length=w'.sz:=(Paired.length hzr).trans (Zbz _);refine⟨L,r,_,_,rfl,rfl,hL3,hr3,Zao (by rw[List.length_append,List.length_singleton];lia),?_⟩;have tk4:=TK.lst (o:=.lst (zs ++ [.ref a]++zr)) hL3;refine⟨_,_,rfl,(s2.trans s3).upd_new hL,Zb,?_⟩;rw[h4,Zdv];have e:Zde (Pa.tag t w' .nil)=none::Zde w':=by simp[Zde]
   rw[e];have k5:PtL (upd H3 L (.lst (zs ++ [.ref a]++zr))) (zs++(.ref a::zr)) (Zde (p.take i)++none::Zde w'):=Paired.app (((hzs.tk tk).tk s3.tk).tk tk4) (.cons ⟨a,t,q',rfl,tk4 _ _ (s3 _ _ h1')⟩ (hzr.tk tk4));rw[show zs++V.ref a::zr=zs ++ [V.ref a]++zr by simp] at k5;exact k5
 ·rintro σ H1 ⟨v2,zs,rfl,s1,hL1,hzs⟩;rw[hP.take_all] at hzs;exact⟨_,rfl,qq L zs H1 s1 hL hL1 hzs⟩
def KdL(H:Hp)(zs:List V)(ms:List Int):Prop:=Paired (fun z m=>∃a,z=V.ref a/\H a=some (.tup [.str "kids",.int m])) zs ms
theorem KdL.tk{H H':Hp}(k:TK H H'):∀{zs:List V}{xs:List Int},KdL H zs xs->KdL H' zs xs
 | _,_,.nil=>.nil
 | _,_,.cons ⟨a,e,h⟩ t=>.cons ⟨a,e,k _ _ h⟩ (KdL.tk k t)
def Zdn(d:Nat):Sp:=fun vs H Q _=>∃(q:Addr)(ys:List V)(p:Pa),vs=[.ref q]/\H q=some (.tup ys)/\RepP H ys p/\p.dep<d/\p.sz<=1000/\∀(r:Addr)(zs:List V)(H':Hp),Zn H H'->H r=none->H' r=some (.lst zs)->KdL H' zs p.ks->Q (.ref r) H'
theorem PtL.get{H:Hp}:∀{zs:List V}{xs:List (Option Int)},PtL H zs xs->∀(i:Nat) z,zs[i]?= some z->∃x,xs[i]?= some x/\PtV H z x
 | _,_,.cons r t,0,z,hz=>by
  injection hz with hz;subst hz;exact⟨_,rfl,r⟩
 | _,_,.cons r t,i+1,z,hz=>PtL.get t i z hz
set_option maxHeartbeats 2000000 in
theorem ZhG(B:∀x∈ZbN,mg x=none)(g_all_parts:Has P w K mg base "all_parts" ["parts"] 22 (ZfK 22)) (F:Fun K "kids_in" "kids_in" Zbs f fd):FnOk P w K mg base CX0 23 f fd ["parts"] (Zdn 22):=by
 refine F.ok Zhz (fun vs H Q E h=>?_) (fun cdv A outer s H vs Q E hr h=>?_)
 ·obtain⟨q,ys,p,rfl,_⟩:=h;rfl
 obtain⟨q,ys,p,rfl,hq,hP,hd,hz,qq⟩:=h;refine⟨_,(Zj (ZL (Zh6 (cl:=[]) ["part"] [] (ZbT (Zx g_all_parts hr rfl (Za (pv 0) Ze))) (fun _ _ _ _=>(ZD (i:=0) nd1 rfl (Or.inl rfl))) (fun _ _ _ _=>(ZK Zca (ZF (ZgB (K:=K) rfl) (pv 0) Zh (fun _ _=>rfl)) ZaJ (Z0 _))) (fun _ _ _ _=>(pv 0)) rfl rfl (by decide) rfl (by decide) (fun _ _ h=>nomatch h) (ZfC (by decide)) (fun _ _ h=>nomatch h) (fun _=>rfl)))),?_⟩
 refine⟨_,rfl,q,ys,p,rfl,hq,hP,hd,hz,fun r zr H1 s1 hr0 hr1 hzr=>?_⟩;have hzl:zr.length=p.sz:=(Paired.length hzr).trans (Zbz _);refine⟨r,rfl,⟨_,SqL.of hr1⟩,fun pc hpc=>ZhB (K:=K) (a:=r) (p:=pc) (xs:=zr) (fun i us σ H2=>∃(v0:Option V),σ =[v0]/\Zn H1 H2/\H2 pc=some (.lst us)/\KdL H2 us (((Zde p).take i).filterMap id))
  ⟨none,rfl,Zn.new hpc,Zb,.nil⟩ ?_ ?_ ?_⟩
 ·rintro i us σ H2 _ ⟨_,_,s2,h,_⟩;exact⟨SqL.of (s2 _ _ hr1),h⟩
 ·rintro i us x σ H2 hi hx ⟨v0,rfl,s2,hp,hus⟩;obtain⟨o,ho,hv⟩:=hzr.get i x hx;have hul:us.length<=i:=by
   rw[Paired.length hus];exact Nat.le_trans (List.length_filterMap_le _ _) (by rw[List.length_take];lia)
  cases o with
  | some m =>
   obtain⟨a,rfl,ha⟩:=hv;refine⟨_,rfl,a,_,0,_,rfl,rfl,SqT.of (s2 _ _ ha),rfl,rfl,_,rfl,Zhj ?_⟩;refine⟨_,rfl,hp,Zv (by lia),CW.next hi ⟨_,rfl,s2.upd_new hpc,Zb,?_⟩⟩
   rw[ZW ho,List.filterMap_append];exact Paired.app (hus.tk (TK.lst hp)) (.cons ⟨a,rfl,TK.lst hp _ _ (s2 _ _ ha)⟩ .nil)
  | none =>
   obtain⟨a,t,q',rfl,ha⟩:=hv;refine⟨_,rfl,a,_,0,_,rfl,rfl,SqT.of (s2 _ _ ha),rfl,rfl,_,rfl,Zdt ?_⟩;refine CW.next hi ⟨_,rfl,s2,hp,?_⟩
   rw[ZW ho,List.filterMap_append]
   simpa using hus
 rintro us σ H2 ⟨v0,rfl,s2,hp,hus⟩;rw[hzl,<- Zbz,List.take_length,Zd2] at hus;exact qq pc us H2 (s1.trans s2) (s1.free hpc) hp hus
def RlV(H:Hp)(z:V)(r:Int×Str×Pa):Prop := ∃a q ys,z=.ref a/\H a=some (.tup [.int r.1,.str r.2.1,.ref q])/\H q=some (.tup ys)/\RepP H ys r.2.2
def RlL(H:Hp)(zs:List V)(rs:List (Int×Str×Pa)):Prop:=Paired (RlV H) zs rs
theorem RlL.tk{H H':Hp}(k:TK H H'):∀{zs:List V}{rs:List (Int×Str×Pa)},RlL H zs rs->RlL H' zs rs
 | _,_,.nil=>.nil
 | _,_,.cons ⟨a,q,ys,e,h1,h2,h3⟩ t=>.cons ⟨a,q,ys,e,k _ _ h1,k _ _ h2,h3.mono k⟩ (RlL.tk k t)
theorem RlL.get{H:Hp}:∀{zs:List V}{xs:List (Int×Str×Pa)},RlL H zs xs->∀(i:Nat) z,zs[i]?= some z->∃x,xs[i]?= some x/\RlV H z x
 | _,_,.cons r t,0,z,hz=>by
  injection hz with hz;subst hz;exact⟨_,rfl,r⟩
 | _,_,.cons r t,i+1,z,hz=>RlL.get t i z hz
def ChR(H:Hp)(c:Addr)(rs:List (Int×Str×Pa)):Prop := ∃n rt zs,H c=some (.tup [.int n,.ref rt])/\H rt=some (.tup zs)/\RlL H zs rs/\rs.length<=100/\∀r∈rs,r.2.2.sz<=20
theorem ChR.tk{H H':Hp}{c:Addr}{rs:List (Int×Str×Pa)}(h:ChR H c rs)(k:TK H H'):ChR H' c rs:=by
 obtain⟨n,rt,zs,h1,h2,h3,h4⟩:=h;exact⟨n,rt,zs,k _ _ h1,k _ _ h2,h3.tk k,h4⟩
def ZcH:Sp:=fun vs H Q _=>∃(c:Addr)(rs:List (Int×Str×Pa)),vs=[.ref c]/\ChR H c rs/\∀H',Zn H H'->Q (.bl (rs.all fun r=>decide (r.2.2.nk<=1))) H'
set_option maxHeartbeats 2000000 in
theorem Zgp(B:∀x∈ZbN,mg x=none)(g_kids_in:Has P w K mg base "kids_in" ["parts"] 23 (Zdn 22)) (F:Fun K "straight" "straight" Zbg f fd):FnOk P w K mg base CX0 24 f fd ["changer"] ZcH:=by
 refine F.ok Zgn (fun vs H Q E h=>?_) (fun cdv A outer s H vs Q E hr h=>?_)
 ·obtain⟨c,rs,rfl,_⟩:=h;rfl
 obtain⟨c,rs,rfl,⟨n,rt,zs,h1,h2,h3,h4,h5⟩,qq⟩:=h;have hzl:zs.length=rs.length:=Paired.length h3;refine⟨_,(Zj (ZL (Zaj (Zht rfl) rfl (B "all" (by decide)) ZkD (Za (Zff (cl:=[]) ["mode","tag","parts"] [] (Zc0 (ZF Z3 (pv 0) Zh (fun _ _=>rfl))) (fun _ _ _ _=>(Ziq (K:=K) (n:=3) rfl rfl (Zas (ZD (i:=0) (show List.Nodup (["mode","tag","parts"]:List Str) by decide) rfl (Or.inl rfl)) (Zas (ZD (i:=1) (show List.Nodup (["mode","tag","parts"]:List Str) by decide) rfl (Or.inl rfl)) (Zas (ZD (i:=2) (show List.Nodup (["mode","tag","parts"]:List Str) by decide) rfl (Or.inl rfl)) ZcJ))))) (fun _ _ _ _=>(ZgQ ZlG (Zaj (Zfd (K:=K) rfl) rfl (B "len" (by decide)) PySem.boot_len (Za (Zx g_kids_in hr rfl (Za (pv 2) Ze)) Ze)) Zh (Z0 _))) rfl rfl (by decide) rfl (by decide) (fun _ _ h=>nomatch h) (ZfC (by decide)) (fun _ _ h=>nomatch h) (fun _=>rfl)) Ze)))),?_⟩
 refine⟨_,rfl,c,_,1,_,rfl,rfl,SqT.of h1,rfl,rt,rfl,⟨_,SqT.of h2⟩,fun pc hpc=>Zg3 (K:=K) (a:=rt) (p:=pc) (xs:=zs) (fun i us σ H2=>∃(v0 v1 v2:Option V),σ =[v0,v1,v2]/\Zn H H2/\H2 pc=some (.lst us)/\us=((rs.take i).map fun r=>decide (r.2.2.nk<=1)).map V.bl)
  ⟨none,none,none,rfl,Zn.new hpc,Zb,rfl⟩ ?_ ?_ ?_⟩
 ·rintro i us σ H2 _ ⟨_,_,_,_,s2,h,_⟩;exact⟨SqT.of (s2 _ _ h2),h⟩
 ·rintro i us x σ H2 hi hx ⟨v0,v1,v2,rfl,s2,hp,rfl⟩;obtain⟨r,hr1,a,q,ys,rfl,g1,g2,g3⟩:=h3.get i x hx;have hsz:=h5 r (List.mem_of_getElem? hr1);have hdp:=r.2.2.ZcY;refine⟨a,_,rfl,SqT.of (s2 _ _ g1),rfl,_,_,rfl,_,_,rfl,_,_,rfl,rfl,?_⟩;refine⟨_,rfl,q,ys,r.2.2,rfl,s2 _ _ g2,g3.mono s2.tk,by lia,by lia,fun r' zr H3 s3 hr0 hr3 hk=>?_⟩;have hkl:zr.length=r.2.2.nk:=(Paired.length hk).trans (Pa.Zg2 _);refine⟨r',_,rfl,.inl (SqL.of hr3),_,_,rfl,rfl,s3 _ _ hp,Zv (by rw[List.length_map,List.length_map,List.length_take];lia),CW.next hi ⟨_,_,_,rfl,(s2.trans s3).upd_new hpc,Zb,?_⟩⟩
  rw[ZW hr1,List.map_append,List.map_append]
  congr 1
  show [V.bl (decide ((zr.length:Int)<=1))] =[V.bl (decide (r.2.2.nk<=1))]
  congr 2
  rw[decide_eq_decide];lia
 rintro us σ H2 ⟨v0,v1,v2,rfl,s2,hp,rfl⟩;rw[hzl,List.take_length] at hp;refine⟨pc,_,rfl,SqL.of hp,?_⟩;have:=qq H2 s2;rw[show(rs.map fun r=>decide (r.2.2.nk<=1)).all id=rs.all fun r=>decide (r.2.2.nk<=1) by rw[List.all_map];rfl];exact this
def Zcf(f:Kn)(r:Int×Str×Pa):Kn:=fun i t=>if i=r.1/\t=r.2.1 then some r.2.2 else f i t
def Zaf(rs:List (Int×Str×Pa)):Kn:=rs.foldl Zcf fun _ _=>none
def ZaI(i:Int)(t:Str):List Key:=[Sum.inl i,Sum.inr t]
theorem Zcs{i j:Int}{t u:Str}(h:ZaI i t=ZaI j u):i=j/\t=u:=by
 unfold ZaI at h
 simpa using h
def Zdi:Sp:=fun vs H Q _=>∃(c:Addr)(rs:List (Int×Str×Pa)),vs=[.ref c]/\ChR H c rs/\∀(d:Addr)(m:List (List Key×V))(H':Hp),Zn H H'->H d=none->H' d=some (.dT m)->KnR H' m (Zaf rs)->Q (.ref d) H'
def PkV(H:Hp)(y:V)(kv:List Key×V)(r:Int×Str×Pa):Prop:=(∃t b,y=.ref t/\H t=some (.tup [.ref b,kv.2])/\H b=some (.tup (kv.1.map kV)))/\kv.1=ZaI r.1 r.2.1/\∃q ys,kv.2=.ref q/\H q=some (.tup ys)/\RepP H ys r.2.2
inductive PkL(H:Hp):List V->List (List Key×V)->List (Int×Str×Pa)->Prop
 | nil:PkL H [] [] []
 | cons {y:V} {kv:List Key×V} {r:Int×Str×Pa} {ys:List V} {kvs:List (List Key×V)} {rs:List (Int×Str×Pa)}:PkV H y kv r->PkL H ys kvs rs->PkL H (y::ys) (kv::kvs) (r::rs)
theorem PkL.tk{H H':Hp}(k:TK H H'):∀{ys:List V}{kvs:List (List Key×V)}{rs:List (Int×Str×Pa)},PkL H ys kvs rs->PkL H' ys kvs rs
 | _,_,_,.nil=>.nil
 | _,_,_,.cons ⟨⟨t,b,e1,e2,e3⟩,e4,q,zs,e5,e6,e7⟩ t'=>.cons ⟨⟨t,b,e1,k _ _ e2,k _ _ e3⟩,e4,q,zs,e5,k _ _ e6,e7.mono k⟩ (t'.tk k)
theorem PkL.snoc{H:Hp}{y:V}{kv:List Key×V}{r:Int×Str×Pa}(h:PkV H y kv r):∀{ys:List V}{kvs:List (List Key×V)}{rs:List (Int×Str×Pa)},PkL H ys kvs rs->PkL H (ys ++ [y]) (kvs ++ [kv]) (rs ++ [r])
 | _,_,_,.nil=>.cons h .nil
 | _,_,_,.cons r t=>.cons r (t.snoc h)
theorem PkL.pairs{H:Hp}:∀{ys:List V}{kvs:List (List Key×V)}{rs:List (Int×Str×Pa)},PkL H ys kvs rs->Paired (fun(y:V)(kv:List Key×V)=>∃t b,y=.ref t/\H t=some (.tup [.ref b,kv.2])/\H b=some (.tup (kv.1.map kV))) ys kvs/\ys.length=rs.length
 | _,_,_,.nil=>⟨.nil,rfl⟩
 | _,_,_,.cons r t=>⟨.cons r.1 t.pairs.1,by simp[t.pairs.2]⟩
theorem PkL.kn{H:Hp}:∀{ys:List V}{kvs:List (List Key×V)}{rs:List (Int×Str×Pa)}{m:List (List Key×V)}{f:Kn},PkL H ys kvs rs->KnR H m f->KnR H (kvs.foldl (fun m kv=>putK m kv.1 kv.2) m) (rs.foldl Zcf f)
 | _,_,_,_,_,.nil,h=>h
 | _,_,_,m,f,.cons (kv:=kv) (r:=r) ⟨_,e4,q,zs,e5,e6,e7⟩ t,h=>by
  refine t.kn (m:=putK m kv.1 kv.2) (f:=Zcf f r) fun i u=>?_;show(Zbe (putK m kv.1 kv.2) (ZaI i u)=none/\Zcf f r i u=none)\/∃q ys p,Zbe (putK m kv.1 kv.2) (ZaI i u)=some (.ref q)/\H q=some (.tup ys)/\RepP H ys p/\Zcf f r i u=some p;rw[Zhi,e4];unfold Zcf;by_cases c:i=r.1/\u=r.2.1
  ·rw[if_pos (by rw[c.1,c.2]),if_pos c];exact .inr ⟨q,zs,r.2.2,by rw[e5],e6,e7,rfl⟩
  ·rw[if_neg (fun z=>c (Zcs (i:=i) (t:=u) z)),if_neg c];exact h i u
set_option maxHeartbeats 2000000 in
theorem Zc9(B:∀x∈ZbN,mg x=none)(F:Fun K "parts_by_rule" "parts_by_rule" Z5 f fd):FnOk P w K mg base CX0 1 f fd ["changer"] Zdi:=by
 refine F.ok Zc8 (fun vs H Q E h=>?_) (fun cdv A outer s H vs Q E hr h=>?_)
 ·obtain⟨c,rs,rfl,_⟩:=h;rfl
 obtain⟨c,rs,rfl,⟨n,rt,zs,h1,h2,h3,h4,h5⟩,qq⟩:=h;have hu2:(A.deeper (PyProof.Rows.envOfC (Str.ofString "parts_by_rule") (Zg Z5) s.heap.objs.size f cdv)).units+2<cLine:=by have:=hr.un;lia
 have hzl:zs.length=rs.length:=Paired.length h3;refine⟨_,(Zj (ZL (Zaw (ZdA rfl hu2) rfl (B "dict" (by decide)) ZiV (Za (Zff (cl:=[]) ["mode","tag","parts"] [] (Zc0 (ZF Z3 (pv 0) Zh (fun _ _=>rfl))) (fun _ _ _ _=>(Ziq (K:=K) (n:=3) rfl rfl (Zas (ZD (i:=0) (show List.Nodup (["mode","tag","parts"]:List Str) by decide) rfl (Or.inl rfl)) (Zas (ZD (i:=1) (show List.Nodup (["mode","tag","parts"]:List Str) by decide) rfl (Or.inl rfl)) (Zas (ZD (i:=2) (show List.Nodup (["mode","tag","parts"]:List Str) by decide) rfl (Or.inl rfl)) ZcJ))))) (fun _ _ _ _=>(Z1 (Za (Z1 (Za (pv 0) (Za (pv 1) Ze))) (Za (pv 2) Ze)))) rfl rfl (by decide) rfl (by decide) (fun _ _ h=>nomatch h) (ZfC (by decide)) (fun _ _ h=>nomatch h) (fun _=>rfl)) Ze)))),?_⟩
 refine⟨_,rfl,c,_,1,_,rfl,rfl,SqT.of h1,rfl,rt,rfl,⟨_,SqT.of h2⟩,fun pc hpc=>Zg3 (K:=K) (a:=rt) (p:=pc) (xs:=zs) (fun i us σ H2=>∃(v0 v1 v2:Option V)(kvs:List (List Key×V)),σ =[v0,v1,v2]/\Zn H H2/\H2 pc=some (.lst us)/\PkL H2 us kvs (rs.take i))
  ⟨none,none,none,[],rfl,Zn.new hpc,Zb,.nil⟩ ?_ ?_ ?_⟩
 ·rintro i us σ H2 _ ⟨_,_,_,_,_,s2,h,_⟩;exact⟨SqT.of (s2 _ _ h2),h⟩
 ·rintro i us x σ H2 hi hx ⟨v0,v1,v2,kvs,rfl,s2,hp,hpk⟩;obtain⟨r,hr1,a,q,ys,rfl,g1,g2,g3⟩:=h3.get i x hx;have hul:=hpk.pairs.2;rw[List.length_take] at hul;refine⟨a,_,rfl,SqT.of (s2 _ _ g1),rfl,_,_,rfl,_,_,rfl,_,_,rfl,rfl,?_⟩;refine⟨_,rfl,_,rfl,(by show 2<=sizeLine;decide),fun t1 ht1=>⟨_,rfl,(by show 2<=sizeLine;decide),fun t2 ht2=>?_⟩⟩;obtain⟨n21,ht2'⟩:=Zk ht2;have s4:Zn H2 (upd (upd H2 t1 (.tup [.int r.1,.str r.2.1])) t2 (.tup [.ref t1,.ref q])):=(Zn.new ht1).upd_new ht2';refine⟨s4 _ _ hp,Zv (by lia),CW.next hi ⟨_,_,_,kvs ++ [(ZaI r.1 r.2.1,.ref q)],rfl,(s2.trans s4).upd_new hpc,Zb,?_⟩⟩
  rw[ZW hr1];have tk:=s4.tk.trans (TK.lst (o:=.lst (us ++ [.ref t2])) (s4 _ _ hp));have nt2:t2≠pc:=fun z=>by rw[z,hp] at ht2';cases ht2'
  have nt1:t1≠pc:=fun z=>by rw[z,hp] at ht1;cases ht1
  refine(hpk.tk tk).snoc ⟨⟨t2,t1,rfl,?_,?_⟩,rfl,q,ys,rfl,tk _ _ (s2 _ _ g2),(g3.mono s2.tk).mono tk⟩
  ·rw[Zc nt2];exact Zb
  ·rw[Zc nt1,Zc n21.symm,Zb];rfl
 rintro us σ H2 ⟨v0,v1,v2,kvs,rfl,s2,hp,hpk⟩;rw[hzl,List.take_length] at hpk;obtain⟨hpp,hul⟩:=hpk.pairs;refine⟨pc,us,kvs,rfl,SqL.of hp,by lia,hpp,fun d hd=>?_⟩;have s3:Zn H2 (upd H2 d (.dT (putAllT kvs))):=Zn.new hd;refine qq d (putAllT kvs) _ (s2.trans s3) (s2.free hd) Zb ?_;exact(hpk.kn (m:=[]) (f:=fun _ _=>none) (fun i t=>.inl ⟨rfl,rfl⟩)).tk s3.tk
def paD(kn:Kn)(m:Int)(t:Str):Pa:=(kn m t).getD (.tag t (.kids m .nil) .nil)
def Zby:Sp:=fun vs H Q _=>∃(d:Addr)(m:List (List Key×V))(kn:Kn)(i:Int)(t:Str),vs=[.ref d,.int i,.str t]/\H d=some (.dT m)/\KnR H m kn/\∀(q:Addr)(ys:List V)(H':Hp),Zn H H'->H' q=some (.tup ys)->RepP H' ys (paD kn i t)->Q (.ref q) H'
set_option maxHeartbeats 2000000 in
theorem Zfm(B:∀x∈ZbN,mg x=none)(F:Fun K "parts_for" "parts_for" ZaM f fd):FnOk P w K mg base CX0 1 f fd ["known","mode","tag"] Zby:=by
 refine F.ok ZfJ (fun vs H Q E h=>?_) (fun cdv A outer s H vs Q E hr h=>?_)
 ·obtain⟨d,m,kn,i,t,rfl,_⟩:=h;rfl
 obtain⟨d,m,kn,i,t,rfl,hd,hkn,qq⟩:=h;have hu1:(A.deeper (PyProof.Rows.envOfC (Str.ofString "parts_for") (Zg ZaM) s.heap.objs.size f cdv)).units+1<cLine:=by have:=hr.un;lia
 refine⟨_,(Zj (ZL (Zki hu1 (pv 0) (Z1 (Za (pv 1) (Za (pv 2) Ze))) (Z1 (Za (Z1 (Za ZaJ (Za (pv 2) (Za (Z1 (Za (Z1 (Za ZaJ (Za (pv 1) Ze))) Ze)) Ze)))) Ze)) ⟨rfl,rfl,rfl,rfl⟩))),?_⟩;refine⟨_,rfl,d,rfl,.inr ⟨m,.inl hd⟩,_,rfl,_,rfl,(by show 2<=sizeLine;decide),fun t1 ht1=>?_⟩;refine⟨_,rfl,_,rfl,(by show 2<=sizeLine;decide),fun t2 ht2=>⟨(by show 1<=sizeLine;decide),fun t3 ht3=>⟨(by show 3<=sizeLine;decide),fun t4 ht4=>⟨(by show 1<=sizeLine;decide),fun t5 ht5=>?_⟩⟩⟩⟩;obtain⟨n21,ht2a⟩:=Zk ht2;obtain⟨n32,ht3a⟩:=Zk ht3;obtain⟨n31,ht3b⟩:=Zk ht3a;obtain⟨n43,ht4a⟩:=Zk ht4;obtain⟨n42,ht4b⟩:=Zk ht4a;obtain⟨n41,ht4c⟩:=Zk ht4b;obtain⟨n54,ht5a⟩:=Zk ht5;obtain⟨n53,ht5b⟩:=Zk ht5a;obtain⟨n52,ht5c⟩:=Zk ht5b;obtain⟨n51,ht5d⟩:=Zk ht5c;have s5:Zn H (upd (upd (upd (upd (upd H t1 (.tup [.int i,.str t])) t2 (.tup [.str "kids",.int i])) t3 (.tup [.ref t2])) t4 (.tup [.str "tag",.str t,.ref t3])) t5 (.tup [.ref t4])):=((((Zn.new ht1).upd_new ht2a).upd_new ht3b).upd_new ht4c).upd_new ht5d;have x1:(upd (upd (upd (upd (upd H t1 (.tup [.int i,.str t])) t2 (.tup [.str "kids",.int i])) t3 (.tup [.ref t2])) t4 (.tup [.str "tag",.str t,.ref t3])) t5 (.tup [.ref t4])) t1=some (.tup ((ZaI i t).map kV)):=by
  rw[Zc n51.symm,Zc n41.symm,Zc n31.symm,Zc n21.symm,Zb];rfl
 have x2:(upd (upd (upd (upd (upd H t1 (.tup [.int i,.str t])) t2 (.tup [.str "kids",.int i])) t3 (.tup [.ref t2])) t4 (.tup [.str "tag",.str t,.ref t3])) t5 (.tup [.ref t4])) t2=some (.tup [.str "kids",.int i]):=by
  rw[Zc n52.symm,Zc n42.symm,Zc n32.symm,Zb]
 have x3:(upd (upd (upd (upd (upd H t1 (.tup [.int i,.str t])) t2 (.tup [.str "kids",.int i])) t3 (.tup [.ref t2])) t4 (.tup [.str "tag",.str t,.ref t3])) t5 (.tup [.ref t4])) t3=some (.tup [.ref t2]):=by
  rw[Zc n53.symm,Zc n43.symm,Zb]
 have x4:(upd (upd (upd (upd (upd H t1 (.tup [.int i,.str t])) t2 (.tup [.str "kids",.int i])) t3 (.tup [.ref t2])) t4 (.tup [.str "tag",.str t,.ref t3])) t5 (.tup [.ref t4])) t4=some (.tup [.str "tag",.str t,.ref t3]):=by
  rw[Zc n54.symm,Zb]
 have x5:(upd (upd (upd (upd (upd H t1 (.tup [.int i,.str t])) t2 (.tup [.str "kids",.int i])) t3 (.tup [.ref t2])) t4 (.tup [.str "tag",.str t,.ref t3])) t5 (.tup [.ref t4])) t5=some (.tup [.ref t4]):=Zb;refine⟨_,Zee.t (k:=ZaI i t) (s5 _ _ hd) x1,?_⟩;rcases hkn i t with⟨e1,e2⟩|⟨q,ys,p,e1,e2,e3,e4⟩
 ·have e1':Zbe m (ZaI i t)=none:=e1;rw[e1'];refine qq t5 [.ref t4] _ s5 x5 ?_;unfold paD;rw[e2];exact .tag x4 x3 (.kids x2 .nil) .nil
 ·have e1':Zbe m (ZaI i t)=some (.ref q):=e1;rw[e1'];refine qq q ys _ s5 (s5 _ _ e2) ?_;unfold paD;rw[e4];exact e3.mono s5.tk
def Zdx(d:Nat):Sp:=fun vs H Q _=>∃(q:Addr)(ys:List V)(p:Pa),vs=[.ref q]/\H q=some (.tup ys)/\RepP H ys p/\p.dep<d/\p.sz<=1000/\∀(r:Addr)(zs:List V)(H':Hp),Zn H H'->H r=none->H' r=some (.lst zs)->WdL H' zs p.spl->Q (.ref r) H'
set_option maxHeartbeats 2000000 in
theorem ZcW(d:Nat)(B:∀x∈ZbN,mg x=none)(g_words_of_parts:Has P w K mg base "words_of_parts" ["parts"] d (Zdx d)) (F:Fun K "words_of_parts" "words_of_parts" Zac f fd):FnOk P w K mg base CX0 (d+1) f fd ["parts"] (Zdx (d+1)):=by
 refine F.ok Za1 (fun vs H Q E h=>?_) (fun cdv A outer s H vs Q E hr h=>?_)
 ·obtain⟨q,ys,p,rfl,_⟩:=h;rfl
 obtain⟨q,ys,p,rfl,hq,hP,hd,hz,qq⟩:=h;have hpl:=hP.length;refine⟨_,(Zd (Zm (i:=1) Za1.nd rfl (Or.inl rfl) (Zaa Ze))
  (Zd (ZaP PassesOwn.never rfl (Zc0 (pv 0)) (ZD (i:=2) Za1.nd rfl (Or.inl rfl))
   (Zj (Za8 (ZK Zca (ZF Z3 (pv 2) Zh (fun _ _=>rfl)) ZaJ (Z0 _))
     (Zj (ZQ (ZaS PySem.F.plainAttrs_list PySem.F.slot_list_append PySem.F.type_list_append Zy (pv 1) (Za (pv 2) Ze))))
     (Zj (ZQ (ZaS PySem.F.plainAttrs_list PySem.F.slot_list_extend PySem.F.type_list_extend ZdX (pv 1) (Za (Zr Zet (Zr Zet (Zaa (Za (ZF Z3 (pv 2) Zh (fun _ _=>rfl)) Ze)) (Zx g_words_of_parts hr rfl (Za (ZF Z3 (pv 2) Zh (fun _ _=>rfl)) Ze) (by lia))) (Zaa (Za ZaJ Ze))) Ze)))))))
  (Zj (ZL (pv 1))))),?_⟩
 refine⟨by decide,fun L hL=>?_⟩;have s0:Zn H (upd H L (.lst [])):=Zn.new hL;refine⟨_,rfl,q,rfl,⟨_,SqT.of (s0 _ _ hq)⟩,ZcB (K:=K) (a:=q) (xs:=ys) (fun i σ H1=>∃(v2:Option V)(zs:List V),σ =[some (.ref q),some (.ref L),v2]/\Zn H H1/\H1 L=some (.lst zs)/\WdL H1 zs (p.take i).spl)
  ⟨none,[],rfl,s0,Zb,.nil⟩ ?_ ?_ ?_⟩
 ·rintro i σ H1 _ ⟨_,_,_,s1,_⟩;exact SqT.of (s1 _ _ hq)
 ·rintro i x σ H1 hx ⟨v2,zs,rfl,s1,hL1,hzs⟩;obtain⟨a,rfl,ha⟩:=hP.at i x hx;have hts:=p.take_sz i;have hzl:=Paired.length hzs;have hsl:=(p.take i).ZcV;rcases ha with⟨m,h1,h2⟩|⟨t,q',ys',w',h1,h2,h3,h4,h5,h6⟩
  ·have h1':=s1 _ _ h1;refine⟨_,rfl,a,_,0,_,rfl,rfl,SqT.of h1',rfl,rfl,_,rfl,Zhj ?_⟩;refine⟨_,rfl,.inl ⟨rfl,_,SqL.of hL1⟩,_,rfl,L,_,_,rfl,rfl,hL1,Zv (by lia),?_⟩;have tk:TK H1 (upd H1 L (.lst (zs ++ [.ref a]))):=TK.lst hL1;refine⟨_,_,rfl,s1.upd_new hL,Zb,?_⟩;rw[h2,Pa.Ze8];exact(hzs.tk tk).app (.cons ⟨a,rfl,tk _ _ h1'⟩ .nil)
  ·have h1':=s1 _ _ h1;have hwl:=w'.ZcV;refine⟨_,rfl,a,_,0,_,rfl,rfl,SqT.of h1',rfl,rfl,_,rfl,Zdt ?_⟩;refine⟨_,rfl,.inl ⟨rfl,_,SqL.of hL1⟩,_,rfl,a,_,1,_,rfl,rfl,SqT.of h1',rfl,(by show 1<=sizeLine;decide),fun l1 hl1=>?_⟩;have s2:Zn H1 (upd H1 l1 (.lst [.str t])):=Zn.new hl1;have s12:=s1.trans s2;refine⟨_,rfl,a,_,2,_,rfl,rfl,SqT.of (s2 _ _ h1'),rfl,q',ys',w',rfl,s12 _ _ h2,h3.mono s12.tk,by lia,by lia,fun r zr H3 s3 hr0 hr3 hzr=>?_⟩;have hrl:=Paired.length hzr;refine⟨l1,r,_,_,rfl,rfl,s3 _ _ Zb,hr3,Zao (by show 1+_<=_;lia),fun l2 hl2=>⟨(by show 1<=sizeLine;decide),fun l3 hl3=>?_⟩⟩;obtain⟨n32,hl3a⟩:=Zk hl3;refine⟨l2,l3,_,_,rfl,rfl,by rw[Zc n32.symm];exact Zb,Zb,Zao (by rw[List.length_append];show 1+_+1<=_;lia),fun l4 hl4=>?_⟩;obtain⟨n43,hl4a⟩:=Zk hl4;obtain⟨n42,hl4b⟩:=Zk hl4a;have s5:Zn H3 (upd (upd (upd H3 l2 (.lst ([.str t]++zr))) l3 (.lst [.str SL])) l4 (.lst ([.str t]++zr ++ [.str SL]))):=((Zn.new hl2).upd_new hl3a).upd_new hl4b;have hL5:=s5 _ _ (s3 _ _ (s2 _ _ hL1));refine⟨L,l4,_,_,rfl,rfl,hL5,Zb,Zao (by rw[List.length_append,List.length_append];show _+(1+_+1)<=_;lia),?_⟩;have s15:=(s2.trans s3).trans s5;refine⟨_,_,rfl,(s1.trans s15).upd_new hL,Zb,?_⟩;rw[h4,Pa.Ze8];have tk6:=TK.lst (o:=.lst (zs++([.str t]++zr ++ [.str SL]))) hL5;have e:Pa.spl (Pa.tag t w' .nil)=[Sum.inl t]++w'.spl ++ [Sum.inl SL]:=by simp[Pa.spl]
   rw[e];exact((hzs.tk s15.tk).tk tk6).app (((WdL.app (WdL.strs [t]) ((hzr.tk s5.tk).tk tk6))).app (WdL.strs [SL]))
 ·rintro σ H1 ⟨v2,zs,rfl,s1,hL1,hzs⟩;rw[hP.take_all] at hzs;exact⟨_,rfl,qq L zs H1 s1 hL hL1 hzs⟩
def Ze5(C:Addr):Sp:=fun vs H Q _=>∃(a c dx:Addr)(rs:List (Int×Str×Pa)),vs=[.ref a,.ref c]/\H a=some (.ins C dx [])/\ChR H c rs/\(∀r∈rs,r.2.2.nk<=1/\∀x∈r.2.2.tags,PyData.strOk x=true) /\
 ∀(H':Hp)(dk Bl:Addr),Zbw [a] H H'->H dk=none->H Bl=none->StAt C H' a dk Bl [] (Zaf rs) [] 0->Q .non H'
theorem Zgt{rs:List (Int×Str×Pa)}{i:Int}{t:Str}{p:Pa}:Zaf rs i t=some p->∃r∈rs,r.1=i/\r.2.1=t/\r.2.2=p:=by
 have go:∀(rs:List (Int×Str×Pa))(f:Kn),rs.foldl Zcf f i t=some p->f i t=some p\/∃r∈rs,r.1=i/\r.2.1=t/\r.2.2=p:=by
  intro rs
  induction rs with
  | nil=>exact fun f h=>.inl h
  | cons r rs ih =>
   intro f h;rcases ih (Zcf f r) h with h|⟨r',hr,e⟩
   ·unfold Zcf at h;by_cases c:i=r.1/\t=r.2.1
    ·rw[if_pos c] at h;injection h with h;exact .inr ⟨r,List.mem_cons_self ..,c.1.symm,c.2.symm,h⟩
    ·rw[if_neg c] at h;exact .inl h
   ·exact .inr ⟨r',List.mem_cons_of_mem _ hr,e⟩
 intro h;rcases go rs _ h with h|h
 ·cases h
 ·exact h
set_option maxHeartbeats 2000000 in
theorem Zcx{C:Addr}(B:∀x∈ZbN,mg x=none)(c_Stream:StC K C)(g_straight:Has P w K mg base "straight" ["changer"] 24 ZcH) (g_parts_by_rule:Has P w K mg base "parts_by_rule" ["changer"] 1 Zdi) (F:Fun K "__init__" "Stream.__init__" Z4 f fd):FnOk P w K mg base CX0 25 f fd ["self","changer"] (Ze5 C):=by
 refine F.ok Zcm (fun vs H Q E h=>?_) (fun cdv A outer s H vs Q E hr h=>?_)
 ·obtain⟨a,c,dx,rs,rfl,_⟩:=h;rfl
 obtain⟨a,c,dx,rs,rfl,hA,hC,hrs,qq⟩:=h;refine⟨_,(Zd (Za8 (ZgX (ZbB (Zx g_straight hr rfl (Za (pv 1) Ze)) (fun _=>rfl)))
   (Zj Zfc)
   ZaH)
  (Zd (Ziv (pv 0) (Zx g_parts_by_rule hr rfl (Za (pv 1) Ze)) rfl)
  (Zd (Ziv (pv 0) Zh rfl)
  (Zj (Ziv (pv 0) (Zaa Ze) rfl))))),?_⟩
 refine⟨_,rfl,c,rs,rfl,hC,fun H1 s1=>⟨true,?_,Zdt ?_⟩⟩
 ·show true=_
  symm
  rw[List.all_eq_true];exact fun r hr=>decide_eq_true (hrs r hr).1
 refine⟨_,rfl,c,rs,rfl,hC.tk s1.tk,fun dk m H2 s2 hdk hdk2 hkn=>?_⟩;have s12:=s1.trans s2;have hA2:=s12 _ _ hA;have ndk:dk≠a:=fun z=>by rw[z,s1 _ _ hA] at hdk;cases hdk
 refine⟨_,rfl,a,C,dx,_,rfl,hA2,c_Stream.cls,c_Stream.n1,by decide,?_⟩;refine⟨_,rfl,a,C,dx,_,rfl,Zb,c_Stream.cls,c_Stream.n2,(show 1<1000 by decide),?_⟩;rw[ZlF];refine⟨by decide,fun Bl hBg=>?_⟩;obtain⟨nBa,hBg2⟩:=Zk hBg;refine⟨_,rfl,a,C,dx,ZaG "taken" (.int 0) (ZaG "known" (.ref dk) []),rfl,by rw[Zc nBa.symm];exact Zb,c_Stream.cls,c_Stream.n3,(show 2<1000 by decide),?_⟩;have x9:(upd (upd (upd H2 a (.ins C dx (ZaG "taken" (.int 0) (ZaG "known" (.ref dk) [])))) Bl (.lst [])) a (.ins C dx (ZaG "begun" (.ref Bl) (ZaG "taken" (.int 0) (ZaG "known" (.ref dk) []))))) a=some (.ins C dx (stF dk Bl 0)):=by
  rw[Zb];rfl
 have k9:Zbw [a] H2 (upd (upd (upd H2 a (.ins C dx (ZaG "taken" (.int 0) (ZaG "known" (.ref dk) [])))) Bl (.lst [])) a (.ins C dx (ZaG "begun" (.ref Bl) (ZaG "taken" (.int 0) (ZaG "known" (.ref dk) []))))):=fun b o hb e=>by
  have hb':b≠a:=fun z=>hb (List.mem_singleton.mpr z);rw[Zc hb',Zc (Zi e hBg2),Zc hb'];exact e
 have b9:(upd (upd (upd H2 a (.ins C dx (ZaG "taken" (.int 0) (ZaG "known" (.ref dk) [])))) Bl (.lst [])) a (.ins C dx (ZaG "begun" (.ref Bl) (ZaG "taken" (.int 0) (ZaG "known" (.ref dk) []))))) Bl=some (.lst []):=by
  rw[Zc nBa];exact Zb
 have tk9:TK H2 (upd (upd (upd H2 a (.ins C dx (ZaG "taken" (.int 0) (ZaG "known" (.ref dk) [])))) Bl (.lst [])) a (.ins C dx (ZaG "begun" (.ref Bl) (ZaG "taken" (.int 0) (ZaG "known" (.ref dk) []))))):=fun b xs e=>k9 b _ (fun z=>by rw[List.mem_singleton.mp z,hA2] at e;cases e) e;refine qq _ dk Bl (fun b o hb e=>k9 b o hb (s12 _ _ e)) (s1.free hdk) (s12.free hBg2) ⟨⟨fun i t p h=>?_,fun i t p h=>?_,fun i t p h=>?_⟩,⟨dx,x9⟩,⟨m,k9 _ _ (fun z=>ndk (List.mem_singleton.mp z)) hdk2,hkn.tk tk9⟩,⟨[],b9,.nil⟩,by simp,fun _ h=>(nomatch h)⟩
 ·obtain⟨r,hr,_,_,rfl⟩:=Zgt h;exact(hrs r hr).1
 ·obtain⟨r,hr,_,_,rfl⟩:=Zgt h;obtain⟨_,_,_,_,_,_,_,h5⟩:=hC;exact h5 r hr
 ·obtain⟨r,hr,_,_,rfl⟩:=Zgt h;exact(hrs r hr).2
def Zgo(C:Addr):Sp:=fun vs H Q _=>∃(a dk Bl:Addr)(ls:List Addr)(kn:Kn)(bs:Bg)(n:Int)(m:Option Int)(t:Str),vs=[.ref a,moV m,.str t]/\StAt C H a dk Bl ls kn bs n/\bs.length<=900/\PyData.strOk t=true /\
 ∀(r l:Addr)(H':Hp),Zbw [Bl] H H'->H r=none->H l=none->r≠l->H' r=some (.lst ((rlS kn m t).1.map V.str))->StAt C H' a dk Bl (ls ++ [l]) kn (bs ++ [(rlS kn m t).2]) n->Q (.ref r) H'
theorem Zj1{kn:Kn}(ok:KnOk kn){m:Int}{t:Str}(ht:PyData.strOk t=true):(paD kn m t).nk<=1/\(paD kn m t).sz<=20/\(∀x∈(paD kn m t).tags,PyData.strOk x=true)/\rlS kn (some m) t=Zge (paD kn m t).spl:=by
 unfold paD;show _/\_/\_/\(match kn m t with|none=>([t],some m,[SL])|some p=>Zge p.spl)=_
 cases h:kn m t with
 | none =>
  refine⟨(show 1<=1 by decide),(show 2<=20 by decide),fun x hx=>?_,rfl⟩;have:x=t:=by simpa[Pa.tags] using hx
  rw[this];exact ht
 | some p=>exact⟨ok.one _ _ _ h,ok.sz _ _ _ h,ok.ok _ _ _ h,rfl⟩
theorem ZfR:∀{p:Pa},(∀x∈p.tags,PyData.strOk x=true)->∀s:Str,Sum.inl s∈p.spl->PyData.strOk s=true
 | .nil,_,s,h=>by cases h
 | .kids m o,hp,s,h=>by
  rcases List.mem_cons.mp h with h|h
  ·cases h
  ·exact ZfR (p:=o) hp s h
 | .tag t w o,hp,s,h=>by
  rcases List.mem_cons.mp h with h|h
  ·injection h with h;rw[h];exact hp t (List.mem_cons_self ..)
  ·rcases List.mem_append.mp h with h|h
   ·exact ZfR (p:=w) (fun x hx=>hp x (List.mem_cons_of_mem _ (List.mem_append_left _ hx))) s h
   ·rcases List.mem_cons.mp h with h|h
    ·injection h with h;rw[h];exact Zma
    ·exact ZfR (p:=o) (fun x hx=>hp x (List.mem_cons_of_mem _ (List.mem_append_right _ hx))) s h
set_option maxHeartbeats 4000000 in
theorem Zb6{C:Addr}(B:∀x∈ZbN,mg x=none)(c_Stream:StC K C)(g_parts_for:Has P w K mg base "parts_for" ["known","mode","tag"] 1 Zby) (g_words_of_parts:Has P w K mg base "words_of_parts" ["parts"] 22 (Zdx 22)) (g_kids_in:Has P w K mg base "kids_in" ["parts"] 23 (Zdn 22)) (F:Fun K "take_begin" "Stream.take_begin" ZJ f fd):FnOk P w K mg base CX0 24 f fd ["self","mode","tag"] (Zgo C):=by
 refine F.ok Z2 (fun vs H Q E h=>?_) (fun cdv A outer s H vs Q E hr h=>?_)
 ·obtain⟨a,dk,Bl,ls,kn,bs,n,m,t,rfl,_⟩:=h;rfl
 obtain⟨a,dk,Bl,ls,kn,bs,n,m,t,rfl,hS,hbl,hto,qq⟩:=h;have hu:=Zfe hr;have hu20:(A.deeper (PyProof.Rows.envOfC (Str.ofString "Stream.take_begin") (Zg ZJ) s.heap.objs.size f cdv)).units+20<cLine:=by lia
 obtain⟨dx,h1⟩:=hS.ho;obtain⟨km,h2,h3⟩:=hS.hk;obtain⟨zs,h4,h5⟩:=hS.hb;have hzl:=h5.len.1;refine⟨_,(Zd (Za8 (ZK Zmz (pv 1) Zjb (Z0 _))
   (Zd (ZQ (ZaS PySem.F.plainAttrs_list PySem.F.slot_list_append PySem.F.type_list_append Zy (Zcv (pv 0) rfl) (Za (Z1 (Za Zjb (Za (Zaa Ze) Ze))) Ze)))
    (Zj (ZL (Zaa Ze))))
   ZaH)
  (Zd (Zm (i:=3) Z2.nd rfl (Or.inl rfl) (Zx g_parts_for hr rfl (Za (Zcv (pv 0) rfl) (Za (pv 1) (Za (pv 2) Ze)))))
  (Zd (Zm (i:=4) Z2.nd rfl (Or.inl rfl) (Zx g_words_of_parts hr rfl (Za (pv 3) Ze)))
  (Zd (Zm (i:=5) Z2.nd rfl (Or.inl rfl) (Zx g_kids_in hr rfl (Za (pv 3) Ze)))
  (Zd (Za8 (ZgX (ZbB (pv 5) (fun _=>rfl)))
   (Zd (ZQ (ZaS PySem.F.plainAttrs_list PySem.F.slot_list_append PySem.F.type_list_append Zy (Zcv (pv 0) rfl) (Za (Z1 (Za Zjb (Za (Zaa Ze) Ze))) Ze)))
    (Zj (ZL (pv 4))))
   ZaH)
  (Zd (Zm (i:=6) Z2.nd rfl (Or.inl rfl) (ZaS PySem.F.plainAttrs_list PySem.F.slot_list_index PySem.F.type_list_index (ZiU hu20 (K:=K) rfl) (pv 4) (Za (ZF ZP (pv 5) Zh (fun _ _=>rfl)) Ze)))
  (Zd (ZQ (ZaS PySem.F.plainAttrs_list PySem.F.slot_list_append PySem.F.type_list_append Zy (Zcv (pv 0) rfl) (Za (Z1 (Za (ZF Z3 (ZF ZP (pv 5) Zh (fun _ _=>rfl)) Zh (fun _ _=>rfl)) (Za (Zg4 Zi9 (pv 4) (ZeZ (Zr ZaN (pv 6) Zh)) ZcG) Ze))) Ze)))
  (Zj (ZL (Zg4 Zi9 (pv 4) ZcG (ZeZ (pv 6)))))))))))),?_⟩
 have new0:∀(H1:Hp),Zn H H1->∀l,H1 l=none->∀t',(upd H1 l (.lst [])) t'=none->StAt C (upd (upd (upd H1 l (.lst [])) t' (.tup [.non,.ref l])) Bl (.lst (zs ++ [.ref t']))) a dk Bl (ls ++ [l]) kn (bs ++ [(none,[])]) n/\Zbw [Bl] H (upd (upd (upd H1 l (.lst [])) t' (.tup [.non,.ref l])) Bl (.lst (zs ++ [.ref t']))):=fun H1 s1 l hl t' ht'=>by
  obtain⟨ntl,ht0⟩:=Zk ht';have s2:Zn H (upd (upd H1 l (.lst [])) t' (.tup [.non,.ref l])):=(s1.upd_new (s1.free hl)).upd_new (s1.free ht0);refine⟨(hS.same s2).opened (b:=(none,[])) (s2 _ _ h4) Zb (by rw[Zc ntl.symm];exact Zb) (hS.free (s1.free hl)) (fun _ h=>nomatch h),fun b o hb e=>?_⟩
  rw[Zc (fun z=>hb (List.mem_singleton.mpr z))];exact s2 _ _ e
 cases m with
 | none =>
  refine⟨_,rfl,rfl,_,rfl,Zhj ?_⟩;refine⟨_,rfl,a,C,dx,_,_,rfl,h1,c_Stream.cls,c_Stream.n3,rfl,.inl ⟨rfl,_,SqL.of h4⟩,by decide,fun l hl=>⟨(by show 2<=sizeLine;decide),fun t' ht'=>?_⟩⟩;obtain⟨ntl,ht0⟩:=Zk ht';have s2:Zn H (upd (upd H l (.lst [])) t' (.tup [.non,.ref l])):=(Zn.new hl).upd_new ht0;refine⟨Bl,_,_,rfl,rfl,s2 _ _ h4,Zv (by lia),?_⟩;refine⟨by decide,fun r hr'=>?_⟩;obtain⟨g1,g2⟩:=new0 H (Zn.refl H) l hl t' ht';have hrB:=Zk hr';obtain⟨nrB,hr1⟩:=Zk hr';obtain⟨nrt,hr2⟩:=Zk hr1;obtain⟨nrl,hr3⟩:=Zk hr2;have s9:=Zn.new (o:=.lst []) hr';exact qq r l _ (fun b o hb e=>s9 _ _ (g2 b o hb e)) hr3 hl nrl Zb (g1.same s9)
 | some m =>
  obtain⟨r1,r2,r3,r4⟩:=Zj1 hS.ok (m:=m) hto;have hdp:=(paD kn m t).ZcY;refine⟨_,rfl,rfl,_,rfl,Zdt ?_⟩;refine⟨_,rfl,a,C,dx,_,_,rfl,h1,c_Stream.cls,c_Stream.n1,rfl,_,rfl,_,rfl,dk,km,kn,m,t,rfl,h2,h3,fun q ys H1 s1 hq hP=>?_⟩;refine⟨_,rfl,q,ys,_,rfl,hq,hP,by lia,by lia,fun W ws H2 s2 hW0 hW2 hWd=>?_⟩;refine⟨_,rfl,q,ys,_,rfl,s2 _ _ hq,hP.mono s2.tk,by lia,by lia,fun kd kz H3 s3 hkd0 hkd3 hKd=>?_⟩;have s13:=(s1.trans s2).trans s3;have hW3:=s3 _ _ hW2;have hWd3:=hWd.tk s3.tk;have hwl:=Paired.length hWd;have hsl:=(paD kn m t).ZcV;by_cases c:(paD kn m t).nk=0
  ·obtain⟨ts,e1,e2⟩:=(Zbi (paD kn m t)).1 c;rw[e1,Zfl] at r4;rw[e1] at hWd3;obtain rfl:=hWd3.to;rw[e2] at hKd;cases hKd;refine⟨_,rfl,_,.inl ⟨[],SqL.of hkd3,rfl⟩,Zhj ?_⟩;refine⟨_,rfl,a,C,dx,_,_,rfl,s13 _ _ h1,c_Stream.cls,c_Stream.n3,rfl,.inl ⟨rfl,_,SqL.of (s13 _ _ h4)⟩,by decide,fun l hl=>⟨(by show 2<=sizeLine;decide),fun t' ht'=>?_⟩⟩;obtain⟨ntl,ht0⟩:=Zk ht';have s2':Zn H (upd (upd H3 l (.lst [])) t' (.tup [.non,.ref l])):=(s13.upd_new (s13.free hl)).upd_new (s13.free ht0);refine⟨Bl,_,_,rfl,rfl,s2' _ _ h4,Zv (by lia),?_⟩;obtain⟨g1,g2⟩:=new0 H3 s13 l hl t' ht';have nWl:W≠l:=Zi hW3 hl;have nWt:W≠t':=Zi hW3 ht0;have nWB:W≠Bl:=fun z=>by
    have:=(s1 _ _ h4);rw[<- z,hW0] at this;cases this
   refine⟨_,rfl,qq W l _ g2 (s1.free hW0) (s13.free hl) nWl ?_ ?_⟩
   ·rw[r4,Zc nWB,Zc nWt,Zc nWl];exact hW3
   ·rw[r4];exact g1
  ·obtain⟨ta,tb,mk,e1,e2⟩:=(Zbi (paD kn m t)).2 (by lia);have oka:∀x∈ta,PyData.strOk x=true:=fun x hx=>ZfR r3 x (by rw[e1];exact List.mem_append_left _ (List.mem_map.mpr ⟨x,hx,rfl⟩));have okb:∀x∈tb,PyData.strOk x=true:=fun x hx=>ZfR r3 x (by rw[e1];exact List.mem_append_right _ (List.mem_cons_of_mem _ (List.mem_map.mpr ⟨x,hx,rfl⟩)));rw[e1,ZfW] at r4;rw[e1] at hWd3 hsl hwl;rw[List.length_append,List.length_cons,List.length_map,List.length_map] at hsl hwl;rw[e2] at hKd;have cutA:∀{ta:List Str}{ws:List V},WdL H3 ws (ta.map Sum.inl ++ .inr mk::tb.map Sum.inl)->∃k,ws=ta.map V.str ++ .ref k::tb.map V.str/\H3 k=some (.tup [.str "kids",.int mk]):=by
    intro ta
    induction ta with
    | nil =>
     intro ws h;cases h with
     | cons r t =>
      obtain⟨k,e,hk⟩:=r;have ht:WdL H3 _ (tb.map Sum.inl):=t;exact⟨k,by rw[e,ht.to];rfl,hk⟩
    | cons x ta ih =>
     intro ws h;cases h with
     | cons r t =>
      obtain⟨k,e,hk⟩:=ih t;have e0:_=V.str x:=r;exact⟨k,by rw[e0,e];rfl,hk⟩
   obtain⟨k,rfl,hk⟩:=cutA hWd3;cases hKd with
   | cons r rt =>
    cases rt;obtain⟨ka,rfl,hka⟩:=r;refine⟨_,rfl,_,.inl ⟨[.ref ka],SqL.of hkd3,rfl⟩,Zdt ?_⟩;have dpk:∀x,H3 x=some (.tup [.str "kids",.int mk])->Dp K H3 (.ref x) (.tuple [.str "kids",.int mk]):=fun x hx=>.tup (SqT.of hx) (.cons (.str _) (.cons (.int _) .nil));refine⟨_,rfl,.inl ⟨rfl,_,SqL.of hW3⟩,_,rfl,kd,_,0,_,rfl,rfl,SqL.of hkd3,rfl,W,ka,k,ta,tb.map V.str,_,rfl,rfl,SqL.of hW3,by rw[List.length_map];lia,fun b hb=>?_,oka,dpk k hk,dpk ka hka,Zkz mk,(show(1:Nat)<=8 by decide),?_⟩
    ·obtain⟨x,hx,rfl⟩:=List.mem_map.mp hb;exact⟨x,rfl,okb x hx⟩
    refine⟨_,rfl,a,C,dx,_,_,rfl,s13 _ _ h1,c_Stream.cls,c_Stream.n3,rfl,.inl ⟨rfl,_,SqL.of (s13 _ _ h4)⟩,_,rfl,kd,_,0,_,rfl,rfl,SqL.of hkd3,rfl,ka,_,1,_,rfl,rfl,SqT.of hka,rfl,_,rfl,_,rfl,_,_,rfl,rfl,_,rfl,W,_,rfl,SqL.of hW3,fun l hl=>?_⟩;have cb:ZjO (ta.map V.str ++ .ref k::tb.map V.str) (some ((ta.length:Int)+1)) none=tb.map V.str:=by
     have:=Zkq (ta.map V.str ++ .ref k::tb.map V.str) (ta.length+1);rw[show((ta.length+1:Nat):Int)=(ta.length:Int)+1 from rfl] at this;rw[this,List.drop_append,List.drop_eq_nil_of_le (by rw[List.length_map];lia),List.length_map,show ta.length+1-ta.length=1 by lia];rfl
    have ca:ZjO (ta.map V.str ++ .ref k::tb.map V.str) none (some (ta.length:Int))=ta.map V.str:=by
     rw[Zkn,List.take_append,List.take_of_length_le (by rw[List.length_map];lia),List.length_map,Nat.sub_self];exact List.append_nil _
    refine⟨(by show 2<=sizeLine;decide),fun t' ht'=>?_⟩;rw[cb] at ht' ⊢;obtain⟨ntl,ht0⟩:=Zk ht';have s4:Zn H (upd (upd H3 l (.lst (tb.map V.str))) t' (.tup [.int mk,.ref l])):=(s13.upd_new (s13.free hl)).upd_new (s13.free ht0);refine⟨Bl,_,_,rfl,rfl,s4 _ _ h4,Zv (by lia),?_⟩;have g1:=(hS.same s4).opened (b:=(some mk,tb)) (s4 _ _ h4) (show(upd (upd H3 l (.lst (tb.map V.str))) t' (.tup [.int mk,.ref l])) t'=some (.tup [.int mk,.ref l]) from Zb) (by rw[Zc ntl.symm];exact Zb) (hS.free (s13.free hl)) okb;have nWl:W≠l:=Zi hW3 hl;have nWt:W≠t':=Zi hW3 ht0;have nWB:W≠Bl:=fun z=>by
     have:=(s1 _ _ h4);rw[<- z,hW0] at this;cases this
    have hW5:(upd (upd (upd H3 l (.lst (tb.map V.str))) t' (.tup [.int mk,.ref l])) Bl (.lst (zs ++ [.ref t']))) W=some (.lst (ta.map V.str ++ .ref k::tb.map V.str)):=by
     rw[Zc nWB,Zc nWt,Zc nWl];exact hW3
    refine⟨_,rfl,_,rfl,_,rfl,W,_,rfl,SqL.of hW5,fun r hr'=>?_⟩;rw[ca];have s9:=Zn.new (o:=.lst (ta.map V.str)) hr';obtain⟨nrB,hr1⟩:=Zk hr';obtain⟨nrt,hr2⟩:=Zk hr1;obtain⟨nrl,hr3⟩:=Zk hr2;refine qq r l _ (fun b o hb e=>s9 _ _ ?_) (s13.free hr3) (s13.free hl) nrl ?_ ?_
    ·rw[Zc (fun z=>hb (List.mem_singleton.mpr z))];exact s4 _ _ e
    ·rw[r4,Zb]
    ·rw[r4];exact g1.same s9
def Zgq(C:Addr):Sp:=fun vs H Q _=>∃(a dk Bl:Addr)(ls:List Addr)(kn:Kn)(bs:Bg)(n:Int)(t:Str),vs=[.ref a,.str t]/\StAt C H a dk Bl ls kn bs n/\bs.length<=900/\((t=SL/\bs ≠ [])\/(Zez t/\t.length<=8)) /\
 ∀(r:Addr)(ls':List Addr)(H':Hp),Zbw [a,Bl] H H'->(H r=none\/r∈ls)->(∀l∈ls',l∈ls\/H l=none)->r∉Bl::ls'->H' r=some (.lst ((Za0 kn bs t).1.map V.str))->StAt C H' a dk Bl ls' kn (Za0 kn bs t).2 (n+1)->Q (.ref r) H'
theorem Zgg{α : Type}{l:List α}(h:l ≠ []):∃l' x,l=l' ++ [x]:=⟨l.dropLast,l.getLast h,(List.dropLast_concat_getLast h).symm⟩
set_option maxHeartbeats 4000000 in
theorem Zed{C:Addr}(B:∀x∈ZbN,mg x=none)(c_Stream:StC K C)(g_is_tag:Has P w K mg base "is_tag" ["text"] 1 Zf9) (g_Stream_take_begin:HasM P w K mg base C "take_begin" ["self","mode","tag"] 24 (Zgo C)) (F:Fun K "take" "Stream.take" ZaE f fd):FnOk P w K mg base CX0 25 f fd ["self","word"] (Zgq C):=by
 refine F.ok Zej (fun vs H Q E h=>?_) (fun cdv A outer s H vs Q E hr h=>?_)
 ·obtain⟨a,dk,Bl,ls,kn,bs,n,t,rfl,_⟩:=h;rfl
 obtain⟨a,dk,Bl,ls,kn,bs,n,t,rfl,hS,hbl,ht,qq⟩:=h;obtain⟨dx,h1⟩:=hS.ho;obtain⟨km,h2,h3⟩:=hS.hk;obtain⟨zs,h4,h5⟩:=hS.hb;have hzl:=h5.len.1;have nab:a≠Bl:=ZgH h1 h4 (by intro z;cases z);have nad:dk≠a:=ZgH h2 h1 (by intro z;cases z);have more:∀(G:Hp),Zn H G->∀(H1:Hp),H1=upd G a (.ins C dx (ZaG "taken" (.int (n+1)) (stF dk Bl n)))->StAt C H1 a dk Bl ls kn bs (n+1)/\Zbw [a] G H1/\H1 a=some (.ins C dx (stF dk Bl (n+1))):=fun G sG H1 e=>by
  subst e
  replace h1:=sG _ _ h1
  replace h2:=sG _ _ h2
  replace h3:=h3.tk sG.tk
  replace h4:=sG _ _ h4
  replace h5:=h5.keep sG.tk fun l _ o e=>sG _ _ e
  have x1:(upd G a (.ins C dx (ZaG "taken" (.int (n+1)) (stF dk Bl n)))) a=some (.ins C dx (stF dk Bl (n+1))):=by
   rw[Zb];rfl
  have kx:Zbw [a] G (upd G a (.ins C dx (ZaG "taken" (.int (n+1)) (stF dk Bl n)))):=fun b o hb e=>by
   rw[Zc (fun z=>hb (List.mem_singleton.mpr z))];exact e
  have tk:TK G (upd G a (.ins C dx (ZaG "taken" (.int (n+1)) (stF dk Bl n)))):=fun b xs e=>kx b _ (fun z=>by rw[List.mem_singleton.mp z,h1] at e;cases e) e;refine⟨⟨hS.ok,⟨dx,x1⟩,⟨km,kx _ _ (fun z=>nad (List.mem_singleton.mp z)) h2,h3.tk tk⟩,⟨zs,kx _ _ (fun z=>nab (List.mem_singleton.mp z).symm) h4,h5.keep tk fun l hl o e=>kx _ _ (fun z=>?_) e⟩,hS.nd,hS.so⟩,kx,x1⟩;obtain⟨xs,el⟩:=h5.live l hl;rw[List.mem_singleton.mp z,h1] at el;cases el
 refine⟨_,(Zd (Za8 (PW.pt (ZgZ (ZK Zca (pv 1) ZaJ (Z0 _)) (ZeQ (ZbB (Zcv (pv 0) rfl) (fun _=>rfl)))))
   (Zd (Zfv (pv 0) Zh ZkT)
    (Zj (ZL (ZF Z3 (ZbI PySem.F.plainAttrs_list PySem.F.slot_list_pop PySem.F.type_list_pop ZbL (Zcv (pv 0) rfl)) Zh (fun _ _=>rfl)))))
   ZaH)
  (Zd (Za8 (ZgX (ZbB (Zx g_is_tag hr rfl (Za (pv 1) Ze)) (fun _=>rfl)))
   (Zj Zfc)
   ZaH)
  (Zd (Zfv (pv 0) Zh ZkT)
  (Zj (ZL (ZcU g_Stream_take_begin hr (pv 0) c_Stream.cls (Za (Zkm (ZbB (Zcv (pv 0) rfl) (fun _=>rfl)) (ZF Z3 (ZF ZP (Zcv (pv 0) rfl) (Zeh Zb9 Zh) (fun _ _=>rfl)) Zh (fun _ _=>rfl)) Zh) (Za (pv 1) Ze)))))))),?_⟩
 by_cases c:t=SL
 ·subst c;have hbn:bs ≠ []:=by
   rcases ht with h|h
   ·exact h.2
   ·exact absurd rfl h.1.ne
  obtain⟨bs',b,rfl⟩:=Zgg hbn;obtain⟨zs',z,ls',l,rfl,rfl,h6,h7⟩:=h5.unsnoc;obtain⟨tb,rfl,g1,g2⟩:=h7;have est:Za0 kn (bs' ++ [b]) SL=(b.2,bs'):=by
   unfold Za0;rw[if_pos rfl,List.getLast?_concat,List.dropLast_concat]
  refine⟨_,rfl,rfl,_,rfl,Zhj ?_⟩;refine⟨_,rfl,a,C,dx,_,_,rfl,h1,c_Stream.cls,c_Stream.n3,rfl,true,.inl ⟨_,SqL.of h4,by simp⟩,Zhj ?_⟩;refine⟨_,rfl,a,C,dx,_,_,rfl,h1,c_Stream.cls,c_Stream.n2,rfl,_,_,rfl,rfl,dx,_,h1,(show 3<1000 by decide),?_⟩;obtain⟨S1,k1,x1⟩:=more H (Zn.refl H) _ rfl;obtain⟨zs2,h42,h52⟩:=S1.hb;have hB1:(upd H a (.ins C dx (ZaG "taken" (.int (n+1)) (stF dk Bl n)))) Bl=some (.lst (zs' ++ [.ref tb])):=k1 _ _ (fun z=>nab (List.mem_singleton.mp z).symm) h4;rw[hB1] at h42;injection h42 with h42;injection h42 with h42;subst h42;have tk1:TK H (upd H a (.ins C dx (ZaG "taken" (.int (n+1)) (stF dk Bl n)))):=fun b xs e=>k1 b _ (fun z=>by rw[List.mem_singleton.mp z,h1] at e;cases e) e;refine⟨_,rfl,a,C,dx,_,_,rfl,x1,c_Stream.cls,c_Stream.n3,rfl,.inl ⟨rfl,_,SqL.of hB1⟩,Bl,_,_,rfl,rfl,hB1,Zay _ _,?_⟩;rw[Zav];have g1':(upd (upd H a (.ins C dx (ZaG "taken" (.int (n+1)) (stF dk Bl n)))) Bl (.lst zs')) tb=some (.tup [moV b.1,.ref l]):=TK.lst hB1 _ _ (tk1 _ _ g1);refine⟨tb,_,1,_,rfl,rfl,SqT.of g1',rfl,?_⟩;obtain⟨nd1,nd2⟩:=List.nodup_cons.mp S1.nd;obtain⟨nda,_,ndb⟩:=List.nodup_append.mp nd2;have nlB:l≠Bl:=fun z=>nd1 (by rw[<- z];exact List.mem_append_right _ (List.mem_singleton.mpr rfl));have nla:l≠a:=fun z=>by rw[z,h1] at g2;cases g2
  refine qq l ls' _ (fun b' o hb e=>?_) (.inr (List.mem_append_right _ (List.mem_singleton.mpr rfl))) (fun l' hl'=>.inl (List.mem_append_left _ hl')) ?_ ?_ ?_
  ·simp only[List.mem_cons,List.not_mem_nil,or_false,not_or] at hb;rw[Zc hb.2];exact k1 _ _ (fun z=>hb.1 (List.mem_singleton.mp z)) e
  ·intro z;rcases List.mem_cons.mp z with z|z
   ·exact nlB z
   ·exact ndb l z l (List.mem_singleton.mpr rfl) rfl
  ·rw[est,Zc nlB];exact k1 _ _ (fun z=>nla (List.mem_singleton.mp z)) g2
  ·rw[est];obtain⟨m2,y1,y2⟩:=S1.hk;have tk2:TK (upd H a (.ins C dx (ZaG "taken" (.int (n+1)) (stF dk Bl n)))) (upd (upd H a (.ins C dx (ZaG "taken" (.int (n+1)) (stF dk Bl n)))) Bl (.lst zs')):=TK.lst hB1;refine⟨S1.ok,⟨dx,by rw[Zc nab];exact x1⟩,⟨m2,by rw[Zc (ZgH y1 hB1 (by intro z;cases z))];exact y1,y2.tk tk2⟩,⟨zs',Zb,?_⟩,List.nodup_cons.mpr ⟨fun z=>nd1 (List.mem_append_left _ z),nda⟩,fun c hc=>S1.so c (List.mem_append_left _ hc)⟩;refine(h6.keep tk1 fun l' hl' o e=>k1 _ _ (fun z=>?_) e).keep tk2 fun l' hl' o e=>?_
   ·obtain⟨xs,el⟩:=h6.live l' hl';rw[List.mem_singleton.mp z,h1] at el;cases el
   ·rw[Zc (fun z=>nd1 (by rw[<- z];exact List.mem_append_left _ hl'))];exact e
 ·have htt:Zez t/\t.length<=8:=by
   rcases ht with h|h
   ·exact absurd h.1 c
   ·exact h
  have est:Za0 kn bs t=((rlS kn (Zcb bs) t).1,bs ++ [(rlS kn (Zcb bs) t).2]):=by
   unfold Za0;rw[if_neg c]
  refine⟨_,rfl,rfl,_,rfl,?_⟩;rw[decide_eq_false (fun z=>c (by injection z))];refine Zdt ?_;refine⟨_,rfl,t,rfl,by lia,fun H1 s1=>⟨true,?_,Zdt ?_⟩⟩
  ·show true=Zl1 t;rw[Zh5 htt.1 htt.2]
  refine⟨_,rfl,a,C,dx,_,_,rfl,s1 _ _ h1,c_Stream.cls,c_Stream.n2,rfl,_,_,rfl,rfl,dx,_,s1 _ _ h1,(show 3<1000 by decide),?_⟩;obtain⟨S1,k1,x1⟩:=more H1 s1 _ rfl;have hB1:(upd H1 a (.ins C dx (ZaG "taken" (.int (n+1)) (stF dk Bl n)))) Bl=some (.lst zs):=k1 _ _ (fun z=>nab (List.mem_singleton.mp z).symm) (s1 _ _ h4);have tk1:TK H (upd H1 a (.ins C dx (ZaG "taken" (.int (n+1)) (stF dk Bl n)))):=fun b xs e=>k1 b _ (fun z=>by rw[List.mem_singleton.mp z,h1] at e;cases e) (s1 _ _ e);generalize upd H1 a (.ins C dx (ZaG "taken" (.int (n+1)) (stF dk Bl n)))=H2 at S1 k1 x1 hB1 tk1 ⊢;have ok:PyData.strOk t=true:=htt.1.let0.ok;have fin:∀(r l:Addr)(H':Hp),Zbw [Bl] H2 H'->H2 r=none->H2 l=none->r≠l->H' r=some (.lst ((rlS kn (Zcb bs) t).1.map V.str))->StAt C H' a dk Bl (ls ++ [l]) kn (bs ++ [(rlS kn (Zcb bs) t).2]) (n+1)->Q (.ref r) H':=fun r l H' kx hr0 hl0 nrl hr1 S2=>by
   have free:∀b,H2 b=none->H b=none:=fun b hb=>by
    refine Option.eq_none_iff_forall_ne_some.mpr fun o ho=>?_;by_cases z:b=a
    ·rw[z,x1] at hb;cases hb
    ·rw[k1 _ _ (fun y=>z (List.mem_singleton.mp y)) (s1 _ _ ho)] at hb;cases hb
   refine qq r (ls ++ [l]) H' (fun b o hb e=>?_) (.inl (free r hr0)) (fun l' hl'=>?_) (fun z=>?_) (by rw[est];exact hr1) (by rw[est];exact S2)
   ·simp only[List.mem_cons,List.not_mem_nil,or_false,not_or] at hb;exact kx _ _ (fun z=>hb.2 (List.mem_singleton.mp z)) (k1 _ _ (fun z=>hb.1 (List.mem_singleton.mp z)) (s1 _ _ e))
   ·rcases List.mem_append.mp hl' with h|h
    ·exact .inl h
    ·rw[List.mem_singleton.mp h];exact .inr (free l hl0)
   ·rcases List.mem_cons.mp z with z|z
    ·rw[z,hB1] at hr0;cases hr0
    ·rcases List.mem_append.mp z with z|z
     ·obtain⟨xs,el⟩:=S1.live r (List.mem_cons_of_mem _ z);rw[hr0] at el;cases el
     ·exact nrl (List.mem_singleton.mp z)
  by_cases hbs:bs=[]
  ·subst hbs;have hz0:zs=[]:=List.eq_nil_of_length_eq_zero hzl;subst hz0;refine⟨_,rfl,a,dx,_,rfl,x1,rfl,_,rfl,a,C,dx,_,_,rfl,x1,c_Stream.cls,c_Stream.n3,rfl,false,.inl ⟨_,SqL.of hB1,rfl⟩,Zdt ?_⟩;refine⟨_,rfl,a,dk,Bl,ls,kn,[],n+1,some 0,t,rfl,S1,by decide,ok,fin⟩
  ·obtain⟨bs',b,e⟩:=Zgg hbs;subst e;obtain⟨zs2,y1,y2⟩:=S1.hb;rw[hB1] at y1;injection y1 with y1;injection y1 with y1;subst y1;obtain⟨zs',z,ls',l,rfl,rfl,h6,h7⟩:=y2.unsnoc;obtain⟨tb,rfl,g1,g2⟩:=h7;refine⟨_,rfl,a,dx,_,rfl,x1,rfl,_,rfl,a,C,dx,_,_,rfl,x1,c_Stream.cls,c_Stream.n3,rfl,true,.inl ⟨_,SqL.of hB1,by simp⟩,Zhj ?_⟩;have em:Zcb (bs' ++ [b])=b.1:=by
    unfold Zcb;rw[List.getLast?_concat]
   refine⟨_,rfl,a,C,dx,_,_,rfl,x1,c_Stream.cls,c_Stream.n3,rfl,1,rfl,Bl,_,-1,_,rfl,rfl,SqL.of hB1,Zbm _ _,tb,_,0,_,rfl,rfl,SqT.of g1,rfl,?_⟩;exact⟨_,rfl,a,dk,Bl,_,kn,_,n+1,b.1,t,rfl,S1,hbl,ok,by rw[em] at fin;exact fin⟩
def Zjx(C:Addr):Sp:=fun vs H Q _=>∃(a dk Bl:Addr)(ls:List Addr)(kn:Kn)(bs:Bg)(n:Int),vs=[.ref a]/\StAt C H a dk Bl ls kn bs n/\bs.length<=900/\(ZjZ bs).length<=90000 /\
 ∀(r:Addr)(H':Hp),Zn H H'->H r=none->H' r=some (.lst ((ZjZ bs).map V.str))->Q (.ref r) H'
theorem BgL.at{H:Hp}:∀{zs:List V}{ls:List Addr}{bs:Bg},BgL H zs ls bs->∀(i:Nat) z,zs[i]?= some z->∃l b,bs[i]?= some b/\BgV H z l b
 | _,_,_,.cons r t,i,z,hz=>by
  cases i with
  | zero =>
   injection hz with hz;subst hz;exact⟨_,_,rfl,r⟩
  | succ i=>exact BgL.at t i z hz
set_option maxHeartbeats 2000000 in
theorem Zef{C:Addr}(B:∀x∈ZbN,mg x=none)(c_Stream:StC K C)(F:Fun K "owed" "Stream.owed" ZaF f fd):FnOk P w K mg base CX0 1 f fd ["self"] (Zjx C):=by
 refine F.ok Za4 (fun vs H Q E h=>?_) (fun cdv A outer s H vs Q E hr h=>?_)
 ·obtain⟨a,dk,Bl,ls,kn,bs,n,rfl,_⟩:=h;rfl
 obtain⟨a,dk,Bl,ls,kn,bs,n,rfl,hS,hbl,hol,qq⟩:=h;obtain⟨dx,h1⟩:=hS.ho;obtain⟨zs,h4,h5⟩:=hS.hb;have hzl:=h5.len.1;refine⟨_,(Zd (Zm (i:=1) Za4.nd rfl (Or.inl rfl) (Zaa Ze))
  (Zd (ZaP PassesOwn.never rfl (ZbT (Zlj (Zcv (pv 0) rfl))) (Zfn rfl (Zas (ZD (i:=2) Za4.nd rfl (Or.inl rfl)) (Zas (ZD (i:=3) Za4.nd rfl (Or.inl rfl)) ZcJ)))
   (Zj (ZQ (ZaS PySem.F.plainAttrs_list PySem.F.slot_list_extend PySem.F.type_list_extend ZdX (pv 1) (Za (pv 3) Ze)))))
  (Zj (ZL (pv 1))))),?_⟩
 refine⟨by decide,fun L hL=>?_⟩;have s0:Zn H (upd H L (.lst [])):=Zn.new hL;refine⟨_,rfl,a,C,dx,_,_,rfl,s0 _ _ h1,c_Stream.cls,c_Stream.n3,rfl,Bl,zs,rfl,SqL.of (s0 _ _ h4),fun rv hrv=>?_⟩;obtain⟨nrL,hrv0⟩:=Zk hrv;have s1:Zn H (upd (upd H L (.lst [])) rv (.lst zs.reverse)):=s0.upd_new hrv0;refine⟨rv,rfl,⟨_,SqL.of Zb⟩,Zb0 (K:=K) (a:=rv) (xs:=zs.reverse) (fun i σ H1=>∃(v2 v3:Option V),σ =[some (.ref a),some (.ref L),v2,v3]/\Zn H H1/\H1 rv=some (.lst zs.reverse)/\H1 L=some (.lst (((bs.reverse.take i).map (·.2)).flatten.map V.str)))
  ⟨none,none,rfl,s1,Zb,by rw[Zc nrL.symm];exact Zb⟩ ?_ ?_ ?_⟩
 ·rintro i σ H1 _ ⟨_,_,_,_,h,_⟩;exact SqL.of h
 ·rintro i x σ H1 hx ⟨v2,v3,rfl,s2,hrv2,hL2⟩;have hil:=(List.getElem?_eq_some_iff.mp hx).1;rw[List.length_reverse] at hil;rw[List.getElem?_reverse hil] at hx;obtain⟨l,b,hb,tb,rfl,g1,g2⟩:=BgL.at h5 _ x hx;have hb':bs.reverse[i]?= some b:=by
   rw[List.getElem?_reverse (by lia),<- hzl];exact hb
  refine⟨tb,_,rfl,SqT.of (s2 _ _ g1),rfl,_,_,rfl,_,_,rfl,rfl,?_⟩;have hlen:(((bs.reverse.take i).map (·.2)).flatten.map V.str).length+(b.2.map V.str).length<=90000:=by
   rw[List.length_map,List.length_map];have e:(((bs.reverse.take (i+1)).map (·.2)).flatten).length<=(ZjZ bs).length:=by
    unfold ZjZ;have:=List.take_append_drop (i+1) bs.reverse;rw[<- this,List.map_append,List.flatten_append,List.length_append,this];lia
   rw[ZW hb',List.map_append,List.flatten_append,List.length_append] at e;simp only[List.map_cons,List.map_nil,List.flatten_cons,List.flatten_nil,List.append_nil] at e;lia
  refine⟨_,rfl,.inl ⟨rfl,_,SqL.of hL2⟩,_,rfl,L,l,_,_,rfl,rfl,hL2,s2 _ _ g2,Zao (by lia),?_⟩;refine⟨_,_,rfl,s2.upd_new hL,?_,?_⟩
  ·rw[Zc nrL];exact hrv2
  ·rw[Zb,ZW hb',List.map_append,List.flatten_append,List.map_append];simp
 ·rintro σ H1 ⟨v2,v3,rfl,s2,hrv2,hL2⟩;rw[List.length_reverse,hzl,<- List.length_reverse,List.take_length] at hL2;exact⟨_,rfl,qq L H1 s2 hL hL2⟩
def ZdH(K:PySem.W.Frag):Sp:=fun vs H Q _=>∃(a:Addr)(ns:List Int)(k:Int),vs=[.ref a,.int k]/\SqL K H a (ns.map V.int)/\ns.length<=63/\0<=k/\k<=1000/\∀v:Int,Q (.int v) H
theorem Zig(B:∀x∈ZbN,mg x=none)(F:Fun K "_law_cell" "_law_cell" Zb2 f fd):FnOk P w K mg base CX0 1 f fd ["_law_script","_law_k"] (ZdH K):=by
 refine F.ok ZdE (fun vs H Q E h=>?_) (fun cdv A outer s H vs Q E hr h=>?_)
 ·obtain⟨a,ns,k,rfl,_⟩:=h;rfl
 obtain⟨a,ns,k,rfl,hS,h63,h0,hk,q⟩:=h;refine⟨_,(Zd (Za8 (ZK Zj3 (pv 1) (Zaj ZS rfl (B "len" (by decide)) PySem.boot_len (Za (pv 0) Ze)) (Z0 _))
   (Zj (ZL (ZF ZP (pv 0) (pv 1) (fun _ _=>rfl))))
   ZaH)
  (Zd (Zm (i:=2) ZdE.nd rfl (Or.inl rfl) (Zr ZaN (Zr ZdR (pv 1) Zh) Zh))
  (Zd (Za8 (ZK ZgO (Zaj ZS rfl (B "len" (by decide)) PySem.boot_len (Za (pv 0) Ze)) Zh (Z0 _))
   (Zj (Zm (i:=2) ZdE.nd rfl (Or.inl rfl) (Zr Zah (Zr ZaN (Zr ZdR (ZF ZP (pv 0) (Zr Zah (Zr ZdR (pv 1) Zh) (Zaj ZS rfl (B "len" (by decide)) PySem.boot_len (Za (pv 0) Ze))) (fun _ _=>rfl)) Zh) (Zr ZdR (pv 1) Zh)) Zh)))
   ZaH)
  (Zj (ZL (Zr Zah (Zr ZdR (pv 2) (pv 2)) Zh)))))),?_⟩
 refine⟨_,rfl,_,rfl,a,_,rfl,.inl hS,_,_,rfl,rfl,_,rfl,Zew (fun c=>?_) (fun c=>?_)⟩
 ·have c':=of_decide_eq_true c;rw[List.length_map] at c';obtain⟨v,hv⟩:=Zja (ns:=ns) h0 c';exact⟨_,rfl,_,rfl,a,_,k,_,rfl,rfl,hS,hv,q _⟩
 ·refine⟨_,rfl,_,_,rfl,rfl,.inl ⟨by lia,by lia⟩,_,_,rfl,rfl,?_⟩;refine⟨_,rfl,a,_,rfl,.inl hS,_,_,rfl,rfl,_,rfl,Zew (fun c2=>?_) (fun c2=>?_)⟩
  ·have c2':(0:Int)<((ns.map V.int).length:Nat):=of_decide_eq_true c2;obtain⟨v,hv⟩:=Zja (ns:=ns) (Int.emod_nonneg (k*5) (Int.ne_of_gt c2')) (by have:=Int.emod_lt_of_pos (k*5) c2';rw[List.length_map] at this ⊢;exact this);have m1:=Int.emod_nonneg (v*48271+k*607) (by decide:(2147483647:Int)≠0);have m2:=Int.emod_lt_of_pos (v*48271+k*607) (by decide:(0:Int)<2147483647);refine⟨_,rfl,_,rfl,_,_,rfl,rfl,.inl ⟨by lia,by lia⟩,_,rfl,a,_,rfl,.inl hS,_,_,rfl,rfl,c2',a,_,_,_,rfl,rfl,hS,hv,_,_,rfl,rfl,.inr ⟨by decide,by decide⟩,_,rfl,_,_,rfl,rfl,.inl ⟨by lia,by lia⟩,_,_,rfl,rfl,_,_,rfl,rfl,(by show(0:Int)<2147483647;decide),?_⟩;exact⟨_,rfl,_,rfl,_,_,rfl,rfl,.inl ⟨by lia,by lia⟩,_,_,rfl,rfl,(by show(0:Int)<2147483249;decide),q _⟩
  ·exact⟨_,rfl,_,rfl,_,_,rfl,rfl,.inl ⟨by lia,by lia⟩,_,_,rfl,rfl,(by show(0:Int)<2147483249;decide),q _⟩
def ZgA:Sp:=fun vs H Q _=>∃c:Int,vs=[.int c]/\0<=c/\c<1000000000/\∀(r:Addr)(ts:List Str)(H':Hp),Zn H H'->H r=none->H' r=some (.lst (ts.map V.str))->ts.length=3->(∀t∈ts,Zez t/\t.length<=8)->Q (.ref r) H'
def Zb3(c:Nat):Str:=⟨#[c]⟩
theorem ZjF:∀l:List Nat,jn "" (l.map Zb3)=l
 | []=>rfl
 | [c]=>rfl
 | c::d::r=>by
  show cs (Zb3 c)++(cs "" ++ jn "" ((d::r).map Zb3))=_;rw[ZjF (d::r)];rfl
theorem join_ones(l:List Nat):(Txt.join "" (l.map Zb3)).cps.toList=l:=by
 have:=Zli "" (l.map Zb3);rw[ZjF] at this;exact this
theorem Zfx{l:List Nat}(h0:l ≠ [])(hl:∀c∈l,97<=c/\c<=122):Zez (Txt.join "" (l.map Zb3))/\(Txt.join "" (l.map Zb3)).length=l.length:=by
 have e:=join_ones l;refine⟨⟨by rw[e];exact h0,fun c hc=>?_⟩,?_⟩
 ·rw[e] at hc;exact hl c hc
 ·have:=congrArg List.length e;rw[Array.length_toList] at this;exact this
theorem Zfb:∀l:List Nat,((l.map Zb3).map (·.length)).sum=l.length
 | []=>rfl
 | c::l=>by
  rw[List.map_cons,List.map_cons,List.sum_cons,Zfb l,List.length_cons];show 1+_=_;lia
set_option maxHeartbeats 4000000 in
theorem ZjC(B:∀x∈ZbN,mg x=none)(F:Fun K "_law_tags" "_law_tags" Z9 f fd):FnOk P w K mg base CX0 1 f fd ["_law_cell_here"] ZgA:=by
 refine F.ok Za6 (fun vs H Q E h=>?_) (fun cdv A outer s H vs Q E hr h=>?_)
 ·obtain⟨c,rfl,_⟩:=h;rfl
 obtain⟨c,rfl,c0,c9,q⟩:=h;refine Zu ((Zf Z9).drop 6) (Zj (ZL (pv 3))) (fun u6 h6 e6=>?_);refine Zu ((Zf Z9).drop 5) (Zd (Za8 (ZK Zca (Zr Zah (Zr ZaW (pv 0) Zh) Zh) Zh (Z0 _))
   (Zj (ZL (Zaa (Za (ZF ZP (pv 3) Zh (fun _ _=>rfl)) (Za (ZF ZP (pv 3) Zh (fun _ _=>rfl)) (Za (ZF ZP (pv 3) Zh (fun _ _=>rfl)) Ze))))))
   ZaH) h6) (fun u5 h5 e5=>?_)
 refine Zu ((Zf Z9).drop 4) (Zd (Za8 (PW.pt (ZgZ (ZK Zca (Zr Zah (Zr ZaW (pv 0) Zh) Zh) Zh (Z0 _)) (ZeQ (ZK Zj3 (Zaj ZS rfl (B "len" (by decide)) PySem.boot_len (Za (pv 2) Ze)) Zh (Z0 _)))))
   (Zj (ZjM (Zr ZhD (ZF ZP (pv 3) Zh (fun _ _=>rfl)) (ZF ZiK (pv 1) (Zr Zah (Zr ZaW (pv 0) Zh) Zh) (fun _ _=>rfl))) (Zi7 (pv 3) Zh set_list)))
   ZaH) h5) (fun u4 h4 e4=>?_)
 refine Zu ((ZZ ((Zf Z9).getD 3 (.Pass ⟨0,0,0,0⟩))).drop 4) (Zj (ZQ (ZaS PySem.F.plainAttrs_list PySem.F.slot_list_append PySem.F.type_list_append Zy (pv 3) (Za (ZaS PySem.F.plainAttrs_str PySem.F.slot_str_join PySem.F.type_str_join Zi8 ZaJ (Za (pv 5) Ze)) Ze)))) (fun u3_4 h3_4 e3_4=>?_);refine Zu ((ZZ ((Zf Z9).getD 3 (.Pass ⟨0,0,0,0⟩))).drop 3) (Zd (ZjM (ZF ZiK (pv 1) (Zr Zah (pv 7) Zh) (fun _ _=>rfl)) (Zi7 (pv 5) (pv 6) set_list)) h3_4) (fun u3_3 h3_3 e3_3=>?_);refine Zu ((ZZ ((Zf Z9).getD 3 (.Pass ⟨0,0,0,0⟩))).drop 2) (Zd (Zm (i:=7) Za6.nd rfl (Or.inl rfl) (Zr ZaN (Zr ZaN (ZaS PySem.F.plainAttrs_str PySem.F.slot_str_index PySem.F.type_str_index Zip (pv 1) (Za (ZF ZP (pv 2) (pv 6) (fun _ _=>rfl)) Ze)) Zh) (Zr Zah (Zr ZaW (pv 0) Zh) Zh))) h3_3) (fun u3_2 h3_2 e3_2=>?_);refine Zu ((ZZ ((Zf Z9).getD 3 (.Pass ⟨0,0,0,0⟩))).drop 1) (Zd (Zm (i:=6) Za6.nd rfl (Or.inl rfl) (Zr Zah (Zr ZaN (Zr ZaW (pv 0) Zh) (pv 4)) (Zaj ZS rfl (B "len" (by decide)) PySem.boot_len (Za (pv 2) Ze)))) h3_2) (fun u3_1 h3_1 e3_1=>?_);refine Zu ((ZZ ((Zf Z9).getD 3 (.Pass ⟨0,0,0,0⟩))).drop 0) (Zd (Zm (i:=5) Za6.nd rfl (Or.inl rfl) (Zaw ZcZ rfl (B "list" (by decide)) Zjm (Za (pv 2) Ze))) h3_1) (fun u3_0 h3_0 e3_0=>?_);refine Zu ((Zf Z9).drop 3) (Zd (ZaP PassesOwn.never rfl (Zbt rfl (B "range" (by decide)) (Za Zh Ze)) (ZD (i:=4) Za6.nd rfl (Or.inl rfl))
   h3_0) h4) (fun u3 h3 e3=>?_)
 refine Zu ((Zf Z9).drop 2) (Zd (Zm (i:=3) Za6.nd rfl (Or.inl rfl) (Zaa (Za (ZaS PySem.F.plainAttrs_str PySem.F.slot_str_join PySem.F.type_str_join Zi8 ZaJ (Za (pv 2) Ze)) Ze))) h3) (fun u2 h2 e2=>?_);refine Zu ((Zf Z9).drop 1) (Zd (Zgx (cl:=_) (n0:=2) Za6.nd rfl (Or.inl rfl) ["_law_k"] [("_law_cell_here",0),("_law_letters",1)] (Zbt rfl (B "range" (by decide)) (Za (Zr ZaN Zh (Zr Zah (pv 0) Zh)) Ze)) (fun _ _ _ _=>(ZD (i:=0) (show List.Nodup (["_law_k","_law_cell_here","_law_letters"]:List Str) by decide) rfl (Or.inl rfl))) (fun _ _ _ _=>(ZF ZiK (pv 2) (Zr Zah (Zr ZaN (Zr ZaW (pv 1) Zh) (Zr ZdR (Zr ZdR Zh (pv 0)) (pv 0))) Zh) (fun _ _=>rfl))) rfl rfl (by decide) rfl (by decide) (ZjE (by(repeat' first|exact List.forall_mem_nil _|refine List.forall_mem_cons.mpr ⟨?_,?_⟩) <;> rfl)) (ZgG (by(repeat' first|exact List.forall_mem_nil _|refine List.forall_mem_cons.mpr ⟨?_,?_⟩) <;> first|(intro h;exact⟨_,rfl⟩)|(intro h;exact absurd h (by decide)))) (fun _=>by(repeat' first|exact List.forall_mem_nil _|refine List.forall_mem_cons.mpr ⟨?_,?_⟩) <;> exact⟨rfl,rfl,Or.inl rfl⟩) (fun _=>rfl) rfl) h2) (fun u1 h1 e1=>?_)
 refine Zu ((Zf Z9).drop 0) (Zd (Zm (i:=1) Za6.nd rfl (Or.inr rfl) ZaJ) h1) (fun u0 h0 e0=>?_);refine⟨u0,h0,?_⟩;have m7:=Int.emod_nonneg c (by decide:(7:Int)≠0);have m7':=Int.emod_lt_of_pos c (by decide:(0:Int)<7);refine Zw e0 ?_;refine Zw e1 ?_;refine⟨_,rfl,_,_,rfl,rfl,(by show(0:Int)<7;decide),_,_,rfl,rfl,_,rfl,by lia,by lia,fun pb hpb=>?_⟩;refine Zev (lo:=0) (n:=(2+c % 7).toNat) (p:=pb) (fun i ys σ H2=>∃(v0:Option V)(l:List Nat),σ =[v0,some (.int c),some (.str ABC)]/\Zn H H2/\H2 pb=some (.lst ys)/\ys=(l.map Zb3).map V.str/\l.length=i/\∀x∈l,97<=x/\x<=122)
  ⟨none,[],rfl,Zn.new hpb,Zb,rfl,rfl,fun _ h=>(nomatch h)⟩ ?_ ?_ ?_
 ·rintro i ys σ H2 _ ⟨v0,l,_,_,h,_⟩;exact h
 ·rintro i ys σ H2 hi ⟨v0,l,rfl,sm,hp,rfl,hll,hls⟩;obtain⟨ch,hc,c1,c2⟩:=ZiI (i:=(c / 29+5*(0+(i:Int))*(0+(i:Int))) % 26) (Int.emod_nonneg _ (by decide)) (Int.emod_lt_of_pos _ (by decide));have hi9:i<10:=by lia
  refine⟨_,rfl,_,rfl,_,_,rfl,rfl,⟨by decide,by decide⟩,_,rfl,_,_,rfl,rfl,.inl ⟨by decide,by decide⟩,_,rfl,_,_,rfl,rfl,.inl ⟨by lia,by lia⟩,_,_,rfl,rfl,_,_,rfl,rfl,(by show(0:Int)<26;decide),_,_,ch,rfl,rfl,(by decide),hc,hp,Zv (by rw[List.length_map,List.length_map];lia),CW.next hi ⟨_,l ++ [ch],rfl,sm.upd_new hpb,Zb,by rw[List.map_append,List.map_append];rfl,by rw[List.length_append,List.length_singleton];lia,fun x hx=>?_⟩⟩
  rcases List.mem_append.mp hx with hx|hx
  ·exact hls x hx
  ·rw[List.mem_singleton.mp hx];exact⟨c1,c2⟩
 rintro ys σ H2 ⟨v0,l,rfl,s2,hp,rfl,hll,hls⟩;have hl9:l.length<=8:=by lia
 have hl0:l ≠ []:=fun z=>by rw[z,List.length_nil] at hll;lia
 obtain⟨j1,j2⟩:=Zfx hl0 hls;refine Zw e2 ?_;refine⟨rfl,_,rfl,_,pb,l.map Zb3,rfl,rfl,SqL.of hp,by rw[Zfb,List.length_map];show _+_*0<=_;lia,(by show 1<=sizeLine;decide),fun T hT=>?_⟩;have hT2:(upd H2 T (.lst [.str (Txt.join "" (l.map Zb3))])) T=some (.lst ([Txt.join "" (l.map Zb3)].map V.str)):=Zb;have s3:Zn H2 (upd H2 T (.lst [.str (Txt.join "" (l.map Zb3))])):=Zn.new hT;have hT0:H T=none:=s2.free hT;have good1:∀t ∈ [Txt.join "" (l.map Zb3)],Zez t/\t.length<=8:=fun t ht=>by
  rw[List.mem_singleton.mp ht,j2];exact⟨j1,hl9⟩
 show u3 _ _ _;have hp3:=s3 _ _ hp;have s23:=s2.trans s3;generalize upd H2 T (.lst [.str (Txt.join "" (l.map Zb3))])=H3 at hT2 s3 hp3 s23 ⊢;have lp:(0:Int)<(((l.map Zb3).map V.str).length:Nat):=by
  rw[List.length_map,List.length_map];lia
 refine Zw e3 ?_;refine⟨2,rfl,by decide,by decide,Zcn (lo:=0) (n:=2) (fun i σ H4=>∃(v4 v5 v6 v7:Option V)(ts:List Str),σ =[some (.int c),some (.str ABC),some (.ref pb),some (.ref T),v4,v5,v6,v7]/\Zn H H4/\H4 pb=some (.lst ((l.map Zb3).map V.str))/\H4 T=some (.lst (ts.map V.str))/\ts.length=i+1/\ts[0]?= some (Txt.join "" (l.map Zb3))/\∀t∈ts,Zez t/\t.length<=8)
  ⟨_,_,_,_,_,rfl,s23,hp3,hT2,rfl,rfl,good1⟩ ?_ ?_⟩
 ·rintro i σ H4 hi ⟨v4,v5,v6,v7,ts,rfl,s4,hp4,hT4,htl,ht0,hts⟩;refine Zw e3_0 ?_;refine⟨_,rfl,pb,_,rfl,.inl (SqL.of hp4),fun ot hot=>?_⟩;have s5:Zn H4 (upd H4 ot (.lst ((l.map Zb3).map V.str))):=Zn.new hot;have ho5:(upd H4 ot (.lst ((l.map Zb3).map V.str))) ot=some (.lst ((l.map Zb3).map V.str)):=Zb;have not:ot≠T:=(Zi hT4 hot).symm;have hp5:=s5 _ _ hp4;refine Zw e3_1 ?_;refine⟨_,rfl,_,_,rfl,rfl,⟨by decide,by decide⟩,_,rfl,_,_,rfl,rfl,_,rfl,pb,_,rfl,.inl (SqL.of hp5),_,_,rfl,rfl,lp,?_⟩;obtain⟨k,hk,hkl⟩:=ZmG (c / 8+(0+(i:Int))) (n:=((l.map Zb3).map V.str).length) (by lia);show Zgy 6 (V.int ((c / 8+(0+(i:Int))) % (((l.map Zb3).map V.str).length:Nat))) _ _ _;rw[hk];rw[List.length_map,List.length_map] at hkl;have hatk:atI ((l.map Zb3).map V.str) (k:Int)=some (.str (Zb3 l[k])):=Zbp (by rw[List.getElem?_map,List.getElem?_map,List.getElem?_eq_getElem hkl];rfl);obtain⟨a1,a2⟩:=hls _ (List.getElem_mem hkl);refine Zw e3_2 ?_;refine⟨_,rfl,rfl,_,rfl,_,rfl,pb,_,_,_,rfl,rfl,SqL.of hp5,hatk,l[k],rfl,rfl,a1,a2,fun jx=>?_⟩;refine⟨_,_,rfl,rfl,_,rfl,_,_,rfl,rfl,⟨by decide,by decide⟩,_,_,rfl,rfl,(by show(0:Int)<25;decide),_,_,rfl,rfl,?_⟩;obtain⟨ch,hc,c1,c2⟩:=ZiI (i:=((jx:Int)+1+c / 64 % 25) % 26) (Int.emod_nonneg _ (by decide)) (Int.emod_lt_of_pos _ (by decide));refine Zw e3_3 ?_;refine⟨_,rfl,_,rfl,_,_,rfl,rfl,(by show(0:Int)<26;decide),_,_,ch,rfl,rfl,(by decide),hc,_,rfl,_,rfl,ot,_,_,k,rfl,rfl,ho5,ZkX (by rw[List.length_map,List.length_map];exact hkl),?_⟩;have eset:((l.map Zb3).map V.str).set k (.str ⟨#[ch]⟩)=((l.set k ch).map Zb3).map V.str:=by
   rw[List.map_set,List.map_set];rfl
  rw[eset];have hT6:(upd (upd H4 ot (.lst ((l.map Zb3).map V.str))) ot (.lst (((l.set k ch).map Zb3).map V.str))) T=some (.lst (ts.map V.str)):=by
   rw[Zc not.symm,Zc not.symm];exact hT4
  have hl2:(l.set k ch) ≠ []:=fun z=>by
   have:=congrArg List.length z;rw[List.length_set,List.length_nil] at this;exact hl0 (List.eq_nil_of_length_eq_zero this)
  obtain⟨y1,y2⟩:=Zfx hl2 fun x hx=>by
   rcases List.mem_or_eq_of_mem_set hx with hx|hx
   ·exact hls x hx
   ·rw[hx];exact⟨c1,c2⟩
  rw[List.length_set] at y2;refine Zw e3_4 ?_;refine⟨_,rfl,.inl ⟨rfl,_,SqL.of hT6⟩,rfl,_,rfl,_,ot,(l.set k ch).map Zb3,rfl,rfl,SqL.of Zb,by rw[Zfb,List.length_map,List.length_set];show _+_*0<=_;lia,T,_,_,rfl,rfl,hT6,Zv (by rw[List.length_map];lia),?_⟩;have hot0:H ot=none:=s4.free hot;refine⟨_,_,_,_,ts ++ [Txt.join "" ((l.set k ch).map Zb3)],rfl,((s4.trans s5).upd_new hot0).upd_new hT0,?_,?_,?_,?_,?_⟩
  ·rw[Zc (Zi hp hT),Zc (Zi hp4 hot)];exact hp5
  ·rw[Zb,List.map_append];rfl
  ·rw[List.length_append,List.length_singleton,htl]
  ·rw[List.getElem?_append_left (by lia)];exact ht0
  ·intro t ht;rcases List.mem_append.mp ht with ht|ht
   ·exact hts t ht
   ·rw[List.mem_singleton.mp ht,y2];exact⟨y1,hl9⟩
 rintro σ H4 ⟨v4,v5,v6,v7,ts,rfl,s4,hp4,hT4,htl,ht0,hts⟩;have hlb:(((l.map Zb3).map V.str).length:Int)=(l.length:Int):=by rw[List.length_map,List.length_map]
 show u4 _ _ _;refine via (t:=u5) (R:=fun σ H5=>∃(ts:List Str),σ =[some (.int c),some (.str ABC),some (.ref pb),some (.ref T),v4,v5,v6,v7]/\Zn H H5/\H5 T=some (.lst (ts.map V.str))/\ts.length=3/\∀t∈ts,Zez t/\t.length<=8) ?_ fun fin=>?_
 ·rintro σ H5 ⟨ts,rfl,s5,hT5,htl,hts⟩;obtain⟨t0,t1,t2,rfl⟩:∃t0 t1 t2,ts=[t0,t1,t2]:=by
   match ts,htl with
   | [a,b,c],_=>exact⟨a,b,c,rfl⟩
  refine Zw e5 ?_;refine⟨_,rfl,_,_,rfl,rfl,⟨by decide,by decide⟩,_,_,rfl,rfl,(by show(0:Int)<2;decide),rfl,_,rfl,Zew (fun cc=>?_) (fun cc=>?_)⟩
  ·refine⟨_,rfl,T,_,1,_,rfl,rfl,SqL.of hT5,rfl,_,rfl,T,_,0,_,rfl,rfl,SqL.of hT5,rfl,_,rfl,T,_,2,_,rfl,rfl,SqL.of hT5,rfl,(by show 3<=sizeLine;decide),fun r hr=>?_⟩;refine q r [t1,t0,t2] _ (s5.upd_new (s5.free hr)) (s5.free hr) Zb rfl fun t ht=>hts t ?_;simp only[List.mem_cons,List.not_mem_nil,or_false] at ht ⊢;rcases ht with h|h|h
   ·exact .inr (.inl h)
   ·exact .inl h
   ·exact .inr (.inr h)
  ·refine Zw e6 ?_;exact⟨_,rfl,q T [t0,t1,t2] H5 s5 hT0 hT5 rfl hts⟩
 ·refine Zw e4 ?_;refine⟨_,rfl,_,_,rfl,rfl,⟨by decide,by decide⟩,_,_,rfl,rfl,(by show(0:Int)<3;decide),rfl,_,rfl,Zew (fun cc=>?_) (fun cc=>Zdt (fin _ _ ⟨ts,rfl,s4,hT4,htl,hts⟩))⟩;refine⟨_,rfl,pb,_,rfl,.inl (SqL.of hp4),_,_,rfl,rfl,_,rfl,Zew (fun c2=>?_) (fun c2=>fin _ _ ⟨ts,rfl,s4,hT4,htl,hts⟩)⟩;have c2':=of_decide_eq_true c2;rw[hlb] at c2';obtain⟨ch,hc,b1,b2⟩:=ZiI (i:=c / 4096 % 26) (Int.emod_nonneg _ (by decide)) (Int.emod_lt_of_pos _ (by decide));have hat0:atI (ts.map V.str) 0=some (.str (Txt.join "" (l.map Zb3))):=Zbp (j:=0) (by rw[List.getElem?_map,ht0];rfl);have h1:(⟨#[ch]⟩:Str).length=1:=rfl;refine⟨_,rfl,T,_,0,_,rfl,rfl,SqL.of hT4,hat0,_,rfl,_,rfl,_,_,rfl,rfl,⟨by decide,by decide⟩,_,_,rfl,rfl,(by show(0:Int)<26;decide),_,_,ch,rfl,rfl,(by decide),hc,_,_,rfl,rfl,by rw[h1];exact Zao (by lia),_,rfl,T,_,_,1,rfl,rfl,hT4,ZkX (n:=(ts.map V.str).length) (k:=1) (by rw[List.length_map];lia),?_⟩;refine fin _ _ ⟨ts.set 1 (Txt.join "" (l.map Zb3)++⟨#[ch]⟩),rfl,s4.upd_new hT0,by rw[Zb,List.map_set],by rw[List.length_set,htl],fun t ht=>?_⟩;rcases List.mem_or_eq_of_mem_set ht with ht|rfl
  ·exact hts t ht
  ·exact⟨ZmA j1 (Zkw b1 b2).let0,by rw[Zk7,h1,j2];lia⟩
structure PgS(H H1:Hp)(R T:Addr)(as:List Addr)(gs:List Pa)(ts:List Str):Prop where
 sm:Zn H H1
 hT:H1 T=some (.lst ((ts.map V.str).reverse))
 hR:H1 R=some (.lst ((as.map V.ref).reverse))
 rows:Paired (fun a g=>∃xs,H1 a=some (.lst xs)/\RepP H1 xs g) as gs
 nd:(R::T::as).Nodup
 fr:∀b∈R::T::as,H b=none
 gl:gs.length=ts.length+1
def ZeL:Sp:=fun vs H Q _=>∃(c md:Int)(tg:Addr)(ts:List Str),vs=[.int c,.ref tg,.int md]/\0<=c/\0<md/\md<100/\H tg=some (.lst (ts.map V.str))/\ts.length=3/\∀(r:Addr)(xs:List V)(p:Pa)(H':Hp),Zn H H'->H' r=some (.tup xs)->RepP H' xs p->p.nk<=1->p.sz<=3->(∀x∈p.tags,x∈ts)->(∀k∈p.ks,0<=k/\k<md)->Q (.ref r) H'
section
variable{H H1:Hp}{R T:Addr}{as:List Addr}{gs:List Pa}{ts:List Str}
theorem ZdD{H1:Hp}:∀{as:List Addr}{gs:List Pa},Paired (fun a g=>∃xs,H1 a=some (.lst xs)/\RepP H1 xs g) as gs->∀b∈as,∃o,H1 b=some o
 | _,_,.cons ⟨xs,h,_⟩ t,b,hb=>by
  rcases List.mem_cons.mp hb with rfl|hb
  ·exact⟨_,h⟩
  ·exact ZdD t b hb
theorem ZbY{H1 H2:Hp}(k:TK H1 H2):∀{as:List Addr}{gs:List Pa},Paired (fun a g=>∃xs,H1 a=some (.lst xs)/\RepP H1 xs g) as gs->(∀b∈as,∀o,H1 b=some o->H2 b=some o)->Paired (fun a g=>∃xs,H2 a=some (.lst xs)/\RepP H2 xs g) as gs
 | _,_,.nil,_=>.nil
 | _,_,.cons ⟨xs,h,r⟩ t,kb=>.cons ⟨xs,kb _ (List.mem_cons_self ..) _ h,r.mono k⟩ (ZbY k t fun b hb=>kb b (List.mem_cons_of_mem _ hb))
theorem PgS.nR(h:PgS H H1 R T as gs ts):∀b∈as,b≠R:=fun b hb e=>(List.nodup_cons.mp h.nd).1 (by rw[<- e];exact List.mem_cons_of_mem _ hb)
theorem PgS.nT(h:PgS H H1 R T as gs ts):∀b∈as,b≠T:=fun b hb e=>(List.nodup_cons.mp (List.nodup_cons.mp h.nd).2).1 (by rw[<- e];exact hb)
theorem PgS.RT(h:PgS H H1 R T as gs ts):R≠T:=fun e=>(List.nodup_cons.mp h.nd).1 (by rw[e];exact List.mem_cons_self ..)
theorem PgS.start{a0 R T:Addr}(h0:H a0=none)(hR:(upd H a0 (.lst [])) R=none)(hT:(upd (upd H a0 (.lst [])) R (.lst [.ref a0])) T=none):PgS H (upd (upd (upd H a0 (.lst [])) R (.lst [.ref a0])) T (.lst [])) R T [a0] [.nil] []:=by
 obtain⟨nR0,hR'⟩:=Zk hR;obtain⟨nTR,hT2⟩:=Zk hT;obtain⟨nT0,hT'⟩:=Zk hT2;refine⟨((Zn.new h0).upd_new hR').upd_new hT',Zb,?_,.cons ⟨[],?_,.nil⟩ .nil,?_,?_,rfl⟩
 ·rw[Zc nTR.symm];exact Zb
 ·rw[Zc nT0.symm,Zc nR0.symm];exact Zb
 ·simp[nTR.symm,nR0,nT0]
 ·intro b hb;simp only[List.mem_cons,List.not_mem_nil,or_false] at hb;rcases hb with rfl|rfl|rfl
  ·exact hR'
  ·exact hT'
  ·exact h0
theorem PgS.opened{wd:Str}{l:Addr}(h:PgS H H1 R T as gs ts)(hl:(upd H1 T (.lst ((ts.map V.str).reverse ++ [.str wd]))) l=none):PgS H (upd (upd (upd H1 T (.lst ((ts.map V.str).reverse ++ [.str wd]))) l (.lst [])) R (.lst ((as.map V.ref).reverse ++ [.ref l]))) R T (l::as) (.nil::gs) (wd::ts):=by
 obtain⟨nlT,hl1⟩:=Zk hl;have nlR:R≠l:=Zi h.hR hl1;have hRT:=h.RT;have hRb:(upd (upd H1 T (.lst ((ts.map V.str).reverse ++ [.str wd]))) l (.lst [])) R=some (.lst (as.map V.ref).reverse):=by
  rw[Zc nlR,Zc hRT];exact h.hR
 have tk:TK H1 (upd (upd (upd H1 T (.lst ((ts.map V.str).reverse ++ [.str wd]))) l (.lst [])) R (.lst ((as.map V.ref).reverse ++ [.ref l]))):=((TK.lst h.hT).trans (TK.new hl)).trans (TK.lst hRb);have nla:l∉as:=fun hb=>by
  obtain⟨o,ho⟩:=ZdD h.rows l hb;rw[hl1] at ho;cases ho
 obtain⟨ndR,ndT⟩:=List.nodup_cons.mp h.nd;obtain⟨ndT',ndA⟩:=List.nodup_cons.mp ndT;refine⟨((h.sm.upd_new (h.fr T (by simp))).upd_new (h.sm.free hl1)).upd_new (h.fr R (by simp)),?_,?_,.cons ⟨[],?_,.nil⟩ (ZbY tk h.rows fun b hb o ho=>?_),?_,?_,by rw[List.length_cons,List.length_cons,h.gl]⟩
 ·rw[Zc hRT.symm,Zc nlT.symm,Zb,List.map_cons,List.reverse_cons]
 ·rw[Zb,List.map_cons,List.reverse_cons]
 ·rw[Zc nlR.symm];exact Zb
 ·rw[Zc (h.nR b hb),Zc (Zi ho hl1),Zc (h.nT b hb)];exact ho
 ·refine List.nodup_cons.mpr ⟨fun h=>?_,List.nodup_cons.mpr ⟨fun h=>?_,List.nodup_cons.mpr ⟨nla,ndA⟩⟩⟩
  ·rcases List.mem_cons.mp h with h|h
   ·exact hRT h
   ·rcases List.mem_cons.mp h with h|h
    ·exact nlR h
    ·exact ndR (List.mem_cons_of_mem _ h)
  ·rcases List.mem_cons.mp h with h|h
   ·exact nlT h.symm
   ·exact ndT' h
 ·intro b hb;simp only[List.mem_cons] at hb;rcases hb with rfl|rfl|rfl|hb
  ·exact h.fr _ (by simp)
  ·exact h.fr _ (by simp)
  ·exact h.sm.free hl1
  ·exact h.fr b (by simp[hb])
theorem PgS.put{b0 pt:Addr}{g0 q:Pa}{vs:List V}{a1:List Addr}{g1:List Pa}(h:PgS H H1 R T (b0::a1) (g0::g1) ts)(h0:H1 b0=some (.lst vs))(r0:RepP H1 vs g0)(s:Zn H1 H2)(hq:RepP (upd H2 b0 (.lst (vs ++ [.ref pt]))) [.ref pt] q):PgS H (upd H2 b0 (.lst (vs ++ [.ref pt]))) R T (b0::a1) (g0.app q::g1) ts:=by
 have tk:TK H1 (upd H2 b0 (.lst (vs ++ [.ref pt]))):=s.tk.trans (TK.lst (s _ _ h0));have nb:∀b∈a1,b≠b0:=fun b hb e=>(List.nodup_cons.mp (List.nodup_cons.mp (List.nodup_cons.mp h.nd).2).2).1 (by rw[<- e];exact hb);have hrows:=h.rows;cases hrows with
 | cons r t =>
  refine⟨(h.sm.trans s).upd_new (h.fr b0 (by simp)),?_,?_,.cons ⟨_,Zb,(r0.mono tk).app hq⟩ (ZbY tk t fun b hb o ho=>?_),h.nd,h.fr,h.gl⟩
  ·rw[Zc (h.nT b0 (List.mem_cons_self ..)).symm];exact s _ _ h.hT
  ·rw[Zc (h.nR b0 (List.mem_cons_self ..)).symm];exact s _ _ h.hR
  ·rw[Zc (nb b hb)];exact s _ _ ho
theorem PgS.two(h:PgS H H1 R T as gs (t::ts)):∃b0 b1 a2 g0 g1 g2 vs0 vs1,as=b0::b1::a2/\gs=g0::g1::g2/\H1 b0=some (.lst vs0)/\RepP H1 vs0 g0/\H1 b1=some (.lst vs1)/\RepP H1 vs1 g1/\H1 R=some (.lst (((b1::a2).map V.ref).reverse ++ [.ref b0]))/\H1 T=some (.lst ((ts.map V.str).reverse ++ [.str t])):=by
 have hgl:=h.gl;have hR:=h.hR;have hT:=h.hT;have hrows:=h.rows;cases gs with
 | nil=>simp at hgl
 | cons g0 gs =>
  cases gs with
  | nil=>simp at hgl
  | cons g1 gs =>
   cases hrows with
   | @cons b0 _ as _ r0 hrows =>
    cases hrows with
    | @cons b1 _ as _ r1 hrows =>
     obtain⟨vs0,h00,r00⟩:=r0;obtain⟨vs1,h11,r11⟩:=r1;refine⟨b0,b1,as,g0,g1,gs,vs0,vs1,rfl,rfl,h00,r00,h11,r11,?_,?_⟩
     ·rw[hR,List.map_cons,List.reverse_cons]
     ·rw[hT,List.map_cons,List.reverse_cons]
theorem PgS.popped{b0:Addr}{g0:Pa}{a1:List Addr}{g1:List Pa}{t:Str}{l:Addr}{vs0:List V}(h:PgS H H1 R T (b0::a1) (g0::g1) (t::ts))(hl:(upd H1 R (.lst ((a1.map V.ref).reverse))) l=none):PgS H (upd (upd (upd H1 R (.lst ((a1.map V.ref).reverse))) l (.tup vs0)) T (.lst ((ts.map V.str).reverse))) R T a1 g1 ts:=by
 obtain⟨nlR,hl1⟩:=Zk hl;have hRT:=h.RT;have nlT:T≠l:=Zi h.hT hl1;have hTb:(upd (upd H1 R (.lst ((a1.map V.ref).reverse))) l (.tup vs0)) T=some (.lst (((t::ts).map V.str).reverse)):=by
  rw[Zc nlT,Zc hRT.symm];exact h.hT
 have tk:TK H1 (upd (upd (upd H1 R (.lst ((a1.map V.ref).reverse))) l (.tup vs0)) T (.lst ((ts.map V.str).reverse))):=((TK.lst h.hR).trans (TK.new hl)).trans (TK.lst hTb);have hgl:=h.gl;have hrows:=h.rows;have nRs:=h.nR;have nTs:=h.nT;cases hrows with
 | cons r rt =>
  obtain⟨ndR,ndT⟩:=List.nodup_cons.mp h.nd;obtain⟨ndT',ndA⟩:=List.nodup_cons.mp ndT;refine⟨((h.sm.upd_new (h.fr R (by simp))).upd_new (h.sm.free hl1)).upd_new (h.fr T (by simp)),Zb,?_,ZbY tk rt fun b hb o ho=>?_,?_,fun b hb=>h.fr b ?_,by simp at hgl ⊢;lia⟩
  ·rw[Zc hRT,Zc nlR.symm];exact Zb
  ·rw[Zc (nTs b (List.mem_cons_of_mem _ hb)),Zc (Zi ho hl1),Zc (nRs b (List.mem_cons_of_mem _ hb))];exact ho
  ·refine List.nodup_cons.mpr ⟨fun z=>ndR ?_,List.nodup_cons.mpr ⟨fun z=>ndT' (List.mem_cons_of_mem _ z),(List.nodup_cons.mp ndA).2⟩⟩;rcases List.mem_cons.mp z with z|z
   ·exact absurd z hRT
   ·exact List.mem_cons_of_mem _ (List.mem_cons_of_mem _ z)
  ·simp only[List.mem_cons] at hb ⊢;rcases hb with h|h|h
   ·exact .inl h
   ·exact .inr (.inl h)
   ·exact .inr (.inr (.inr h))
end
theorem PgS.shutting{H H1:Hp}{R T b0 b1 l l2:Addr}{a2:List Addr}{g0 g1:Pa}{g2:List Pa}{t:Str}{ts:List Str}{vs0 vs1:List V}(h:PgS H H1 R T (b0::b1::a2) (g0::g1::g2) (t::ts))(h0:H1 b0=some (.lst vs0))(r0:RepP H1 vs0 g0)(h1:H1 b1=some (.lst vs1))(r1:RepP H1 vs1 g1)
  (hl:(upd H1 R (.lst ((b1::a2).map V.ref).reverse)) l=none) (hl2:(upd (upd (upd H1 R (.lst ((b1::a2).map V.ref).reverse)) l (.tup vs0)) T (.lst (ts.map V.str).reverse)) l2=none) :
  (upd H1 R (.lst ((b1::a2).map V.ref).reverse)) b0=some (.lst vs0)/\(upd (upd H1 R (.lst ((b1::a2).map V.ref).reverse)) l (.tup vs0)) R=some (.lst ((a2.map V.ref).reverse ++ [.ref b1]))/\(upd (upd H1 R (.lst ((b1::a2).map V.ref).reverse)) l (.tup vs0)) b1=some (.lst vs1)/\(upd (upd H1 R (.lst ((b1::a2).map V.ref).reverse)) l (.tup vs0)) T=some (.lst ((ts.map V.str).reverse ++ [.str t])) /\
  (upd (upd (upd (upd H1 R (.lst ((b1::a2).map V.ref).reverse)) l (.tup vs0)) T (.lst (ts.map V.str).reverse)) l2 (.tup [.str "tag",.str t,.ref l])) b1=some (.lst vs1) /\
  PgS H (upd (upd (upd (upd (upd H1 R (.lst ((b1::a2).map V.ref).reverse)) l (.tup vs0)) T (.lst (ts.map V.str).reverse)) l2 (.tup [.str "tag",.str t,.ref l])) b1 (.lst (vs1 ++ [.ref l2]))) R T (b1::a2) (g1.app (.tag t g0 .nil)::g2) ts:=by
 have hp:=h.popped (vs0:=vs0) hl;obtain⟨nlR,hl1⟩:=Zk hl;have n0R:=h.nR b0 (by simp);have n1R:=h.nR b1 (by simp);have n1T:=h.nT b1 (by simp);have n1l:b1≠l:=Zi h1 hl1;have nTl:T≠l:=Zi h.hT hl1;have h1p:(upd (upd H1 R (.lst ((b1::a2).map V.ref).reverse)) l (.tup vs0)) b1=some (.lst vs1):=by
  rw[Zc n1l,Zc n1R];exact h1
 have hTp:(upd (upd H1 R (.lst ((b1::a2).map V.ref).reverse)) l (.tup vs0)) T=some (.lst ((ts.map V.str).reverse ++ [.str t])):=by
  rw[Zc nTl,Zc h.RT.symm,h.hT,List.map_cons,List.reverse_cons]
 have h1q:(upd (upd (upd H1 R (.lst ((b1::a2).map V.ref).reverse)) l (.tup vs0)) T (.lst (ts.map V.str).reverse)) b1=some (.lst vs1):=by
  rw[Zc n1T];exact h1p
 have tkq:TK H1 (upd (upd (upd H1 R (.lst ((b1::a2).map V.ref).reverse)) l (.tup vs0)) T (.lst (ts.map V.str).reverse)):=((TK.lst h.hR).trans (TK.new hl)).trans (TK.lst hTp);have s2:Zn (upd (upd (upd H1 R (.lst ((b1::a2).map V.ref).reverse)) l (.tup vs0)) T (.lst (ts.map V.str).reverse)) (upd (upd (upd (upd H1 R (.lst ((b1::a2).map V.ref).reverse)) l (.tup vs0)) T (.lst (ts.map V.str).reverse)) l2 (.tup [.str "tag",.str t,.ref l])):=Zn.new hl2;have n2b:l2≠b1:=fun z=>by rw[z,h1q] at hl2;cases hl2
 have tk5:=s2.tk.trans (TK.lst (o:=.lst (vs1 ++ [.ref l2])) (s2 _ _ h1q));refine⟨by rw[Zc n0R];exact h0,?_,h1p,hTp,s2 _ _ h1q,hp.put (pt:=l2) (q:=.tag t g0 .nil) h1q (r1.mono tkq) s2 (.tag (q:=l) ?_ ?_ ((r0.mono tkq).mono tk5) .nil)⟩
 ·rw[Zc nlR.symm,Zb,List.map_cons,List.reverse_cons]
 ·rw[Zc n2b];exact Zb
 ·refine tk5 _ _ ?_;rw[Zc nTl.symm];exact Zb
structure PgB(tt:List Str)(md:Int)(gs:List Pa)(os:List Str)(k:Bool)(i:Nat):Prop where
 sz:(gs.map Pa.sz).sum+os.length<=i
 nk:(gs.map Pa.nk).sum<=(if k=true then 1 else 0)
 tg:∀g∈gs,∀x∈g.tags,x∈tt
 op:∀x∈os,x∈tt
 ks:∀g∈gs,∀x∈g.ks,0<=x/\x<md
theorem PgB.shut{tt:List Str}{md:Int}{g0 g1:Pa}{g2:List Pa}{t:Str}{os:List Str}{k:Bool}{i:Nat}(h:PgB tt md (g0::g1::g2) (t::os) k i):PgB tt md (g1.app (.tag t g0 .nil)::g2) os k i:=by
 obtain⟨h1,h2,h3,h4,h5⟩:=h;refine⟨?_,?_,fun g hg=>?_,fun x hx=>h4 x (List.mem_cons_of_mem _ hx),fun g hg=>?_⟩
 ·simp only[List.map_cons,List.sum_cons,List.length_cons,Pa.ZfX,Pa.sz] at h1 ⊢;lia
 ·simp only[List.map_cons,List.sum_cons,Pa.ZfL,Pa.nk] at h2 ⊢;lia
 ·rcases List.mem_cons.mp hg with rfl|hg
  ·intro x hx;rw[Pa.Zdl] at hx;rcases List.mem_append.mp hx with hx|hx
   ·exact h3 g1 (by simp) x hx
   ·simp only[Pa.tags,List.append_nil,List.mem_cons] at hx;rcases hx with rfl|hx
    ·exact h4 _ (List.mem_cons_self ..)
    ·exact h3 g0 (by simp) x hx
  ·exact h3 g (by simp[hg])
 ·rcases List.mem_cons.mp hg with rfl|hg
  ·intro x hx;rw[Pa.Zd7] at hx;rcases List.mem_append.mp hx with hx|hx
   ·exact h5 g1 (by simp) x hx
   ·simp only[Pa.ks,List.append_nil] at hx;exact h5 g0 (by simp) x hx
  ·exact h5 g (by simp[hg])
set_option maxHeartbeats 8000000 in
theorem Zic(B:∀x∈ZbN,mg x=none)(F:Fun K "_law_parts" "_law_parts" Zt f fd):FnOk P w K mg base CX0 1 f fd ["_law_cell_here","_law_tags_here","_law_modes"] ZeL:=by
 refine F.ok Zal (fun vs H Q E h=>?_) (fun cdv A outer s H vs Q E hr h=>?_)
 ·obtain⟨c,md,tg,ts,rfl,_⟩:=h;rfl
 obtain⟨c,md,tg,ts,rfl,c0,m0,m1,htg,ht3,q⟩:=h;refine Zu ((Zf Zt).drop 6) (Zj (ZL (Zaw Zan rfl (B "tuple" (by decide)) ZbH (Za (ZF ZP (pv 3) Zh (fun _ _=>rfl)) Ze)))) (fun u6 h6 e6=>?_);refine Zu ((ZZ ((Zf Zt).getD 5 (.Pass ⟨0,0,0,0⟩))).drop 1) (Zj (ZQ (ZaS PySem.F.plainAttrs_list PySem.F.slot_list_append PySem.F.type_list_append Zy (ZF ZP (pv 3) (Zeh Zb9 Zh) (fun _ _=>rfl)) (Za (Z1 (Za ZaJ (Za (ZbI PySem.F.plainAttrs_list PySem.F.slot_list_pop PySem.F.type_list_pop ZbL (pv 4)) (Za (pv 9) Ze)))) Ze)))) (fun u5_1 h5_1 e5_1=>?_);refine Zu ((ZZ ((Zf Zt).getD 5 (.Pass ⟨0,0,0,0⟩))).drop 0) (Zd (Zm (i:=9) Zal.nd rfl (Or.inl rfl) (Zaw Zan rfl (B "tuple" (by decide)) ZbH (Za (ZbI PySem.F.plainAttrs_list PySem.F.slot_list_pop PySem.F.type_list_pop ZbL (pv 3)) Ze))) h5_1) (fun u5_0 h5_0 e5_0=>?_);refine Zu ((Zf Zt).drop 5) (Zd (Ze6 PassesOwn.never (ZK ZgO (Zaj ZS rfl (B "len" (by decide)) PySem.boot_len (Za (pv 4) Ze)) Zh (Z0 _))
   h5_0) h6) (fun u5 h5 e5=>?_)
 refine Zu ((ZZ ((ZZ ((Zf Zt).getD 4 (.Pass ⟨0,0,0,0⟩))).getD 2 (.Pass ⟨0,0,0,0⟩))).drop 1) (Zj (ZQ (ZaS PySem.F.plainAttrs_list PySem.F.slot_list_append PySem.F.type_list_append Zy (pv 3) (Za (Zaa Ze) Ze)))) (fun u4_2t1 h4_2t1 e4_2t1=>?_);refine Zu ((ZZ ((ZZ ((Zf Zt).getD 4 (.Pass ⟨0,0,0,0⟩))).getD 2 (.Pass ⟨0,0,0,0⟩))).drop 0) (Zd (ZQ (ZaS PySem.F.plainAttrs_list PySem.F.slot_list_append PySem.F.type_list_append Zy (pv 4) (Za (ZF ZP (pv 1) (Zr Zah (pv 6) Zh) (fun _ _=>rfl)) Ze))) h4_2t1) (fun u4_2t0 h4_2t0 e4_2t0=>?_);refine Zu ((ZZ ((Zdb ((ZZ ((Zf Zt).getD 4 (.Pass ⟨0,0,0,0⟩))).getD 2 (.Pass ⟨0,0,0,0⟩))).getD 0 (.Pass ⟨0,0,0,0⟩))).drop 1) (Zj (ZQ (ZaS PySem.F.plainAttrs_list PySem.F.slot_list_append PySem.F.type_list_append Zy (ZF ZP (pv 3) (Zeh Zb9 Zh) (fun _ _=>rfl)) (Za (Z1 (Za ZaJ (Za (ZbI PySem.F.plainAttrs_list PySem.F.slot_list_pop PySem.F.type_list_pop ZbL (pv 4)) (Za (pv 9) Ze)))) Ze)))) (fun u4_2e0t1 h4_2e0t1 e4_2e0t1=>?_);refine Zu ((ZZ ((Zdb ((ZZ ((Zf Zt).getD 4 (.Pass ⟨0,0,0,0⟩))).getD 2 (.Pass ⟨0,0,0,0⟩))).getD 0 (.Pass ⟨0,0,0,0⟩))).drop 0) (Zd (Zm (i:=9) Zal.nd rfl (Or.inl rfl) (Zaw Zan rfl (B "tuple" (by decide)) ZbH (Za (ZbI PySem.F.plainAttrs_list PySem.F.slot_list_pop PySem.F.type_list_pop ZbL (pv 3)) Ze))) h4_2e0t1) (fun u4_2e0t0 h4_2e0t0 e4_2e0t0=>?_);refine Zu ((ZZ ((Zdb ((Zdb ((ZZ ((Zf Zt).getD 4 (.Pass ⟨0,0,0,0⟩))).getD 2 (.Pass ⟨0,0,0,0⟩))).getD 0 (.Pass ⟨0,0,0,0⟩))).getD 0 (.Pass ⟨0,0,0,0⟩))).drop 1) (Zj (ZQ (ZaS PySem.F.plainAttrs_list PySem.F.slot_list_append PySem.F.type_list_append Zy (ZF ZP (pv 3) (Zeh Zb9 Zh) (fun _ _=>rfl)) (Za (Z1 (Za ZaJ (Za (Zr Zah (pv 6) (pv 2)) Ze))) Ze)))) (fun u4_2e0e0t1 h4_2e0e0t1 e4_2e0e0t1=>?_);refine Zu ((ZZ ((Zdb ((Zdb ((ZZ ((Zf Zt).getD 4 (.Pass ⟨0,0,0,0⟩))).getD 2 (.Pass ⟨0,0,0,0⟩))).getD 0 (.Pass ⟨0,0,0,0⟩))).getD 0 (.Pass ⟨0,0,0,0⟩))).drop 0) (Zd (Zm (i:=5) Zal.nd rfl (Or.inl rfl) Zh4) h4_2e0e0t1) (fun u4_2e0e0t0 h4_2e0e0t0 e4_2e0e0t0=>?_);refine Zu ((Zdb ((Zdb ((ZZ ((Zf Zt).getD 4 (.Pass ⟨0,0,0,0⟩))).getD 2 (.Pass ⟨0,0,0,0⟩))).getD 0 (.Pass ⟨0,0,0,0⟩))).drop 0) (Zj (Za8 (ZgX (ZbB (pv 5) (fun _=>rfl)))
   h4_2e0e0t0
   ZaH)) (fun u4_2e0e0 h4_2e0e0 e4_2e0e0=>?_)
 refine Zu ((Zdb ((ZZ ((Zf Zt).getD 4 (.Pass ⟨0,0,0,0⟩))).getD 2 (.Pass ⟨0,0,0,0⟩))).drop 0) (Zj (Za8 (PW.pt (ZgZ (ZK Zca (pv 8) Zh (Z0 _)) (ZeQ (ZK ZgO (Zaj ZS rfl (B "len" (by decide)) PySem.boot_len (Za (pv 4) Ze)) Zh (Z0 _)))))
   h4_2e0t0
   h4_2e0e0)) (fun u4_2e0 h4_2e0 e4_2e0=>?_)
 refine Zu ((ZZ ((Zf Zt).getD 4 (.Pass ⟨0,0,0,0⟩))).drop 2) (Zj (Za8 (ZK Zj3 (pv 8) Zh (Z0 _))
   h4_2t0
   h4_2e0)) (fun u4_2 h4_2 e4_2=>?_)
 refine Zu ((ZZ ((Zf Zt).getD 4 (.Pass ⟨0,0,0,0⟩))).drop 1) (Zd (Zm (i:=6) Zal.nd rfl (Or.inl rfl) (Zr ZaW (pv 6) Zh)) h4_2) (fun u4_1 h4_1 e4_1=>?_);refine Zu ((ZZ ((Zf Zt).getD 4 (.Pass ⟨0,0,0,0⟩))).drop 0) (Zd (Zm (i:=8) Zal.nd rfl (Or.inl rfl) (Zr Zah (pv 6) Zh)) h4_1) (fun u4_0 h4_0 e4_0=>?_);refine Zu ((Zf Zt).drop 4) (Zd (ZaP PassesOwn.never rfl (Zbt rfl (B "range" (by decide)) (Za (Zr Zah (pv 0) Zh) Ze)) (ZD (i:=7) Zal.nd rfl (Or.inl rfl))
   h4_0) h5) (fun u4 h4 e4=>?_)
 refine Zu ((Zf Zt).drop 3) (Zd (Zm (i:=6) Zal.nd rfl (Or.inl rfl) (Zr ZaW (pv 0) Zh)) h4) (fun u3 h3 e3=>?_);refine Zu ((Zf Zt).drop 2) (Zd (Zm (i:=5) Zal.nd rfl (Or.inl rfl) (ZgQ Zca (Zr Zah (Zr ZaW (pv 0) Zh) Zh) Zh (Z0 _))) h3) (fun u2 h2 e2=>?_);refine Zu ((Zf Zt).drop 1) (Zd (Zm (i:=4) Zal.nd rfl (Or.inl rfl) (Zaa Ze)) h2) (fun u1 h1 e1=>?_);refine Zu ((Zf Zt).drop 0) (Zd (Zm (i:=3) Zal.nd rfl (Or.inl rfl) (Zaa (Za (Zaa Ze) Ze))) h1) (fun u0 h0 e0=>?_);refine⟨u0,h0,?_⟩;have m6:=Int.emod_nonneg c (by decide:(4:Int)≠0);have m6':=Int.emod_lt_of_pos c (by decide:(0:Int)<4);refine Zw e0 ?_;refine⟨by decide,fun a0 h0=>⟨(by show 1<=sizeLine;decide),fun R hR=>?_⟩⟩;refine Zw e1 ?_;refine⟨by decide,fun T hT=>?_⟩;have g0:=PgS.start h0 hR hT;refine Zw e2 ?_;refine⟨_,rfl,_,_,rfl,rfl,⟨by decide,by decide⟩,_,_,rfl,rfl,(by show(0:Int)<5;decide),rfl,?_⟩;generalize hk0:decide (V.int (c / 4 % 5)=V.int 0)=kb0;refine Zw e3 ?_;refine⟨_,rfl,_,_,rfl,rfl,⟨by decide,by decide⟩,?_⟩;refine Zw e4 ?_;generalize upd (upd (upd H a0 (.lst [])) R (.lst [.ref a0])) T (.lst [])=H1 at g0 ⊢;refine⟨_,rfl,_,_,rfl,rfl,(by show(0:Int)<4;decide),_,rfl,by lia,by lia,Zcn (lo:=0) (n:=(c % 4).toNat) (fun i σ H2=>∃(as:List Addr)(gs:List Pa)(os:List Str)(kb:Bool)(re:Int)(v7 v8 v9:Option V),σ =[some (.int c),some (.ref tg),some (.int md),some (.ref R),some (.ref T),some (.bl kb),some (.int re),v7,v8,v9]/\PgS H H2 R T as gs os/\PgB ts md gs os kb i)
  ⟨_,_,_,kb0,_,none,none,none,rfl,g0,⟨Nat.le_refl _,Nat.zero_le _,fun g hg=>by rw[List.mem_singleton.mp hg];exact fun _ h=>(nomatch h),fun _ h=>(nomatch h),fun g hg=>by rw[List.mem_singleton.mp hg];exact fun _ h=>(nomatch h)⟩⟩ ?_ ?_⟩
 ·rintro i σ H2 hi ⟨as,gs,os,kb,re,v7,v8,v9,rfl,hg,hb⟩;have hi6:i<4:=by lia
  have hb1:=hb.sz;have hb2:=hb.nk;have htg2:=hg.sm _ _ htg;refine Zw e4_0 ?_;refine⟨_,rfl,_,_,rfl,rfl,(by show(0:Int)<5;decide),?_⟩;refine Zw e4_1 ?_;refine⟨_,rfl,_,_,rfl,rfl,⟨by decide,by decide⟩,?_⟩;refine Zw e4_2 ?_;have hgl:=hg.gl;have hal:as.length=gs.length:=Paired.length hg.rows;refine⟨_,rfl,_,_,rfl,rfl,_,rfl,Zew (fun cc=>?_) (fun cc=>?_)⟩
  ·obtain⟨k,hk,hkl⟩:=ZmG (re / 5) (n:=3) (by decide);have hkl':k<ts.length:=by lia
   have hat:atI (ts.map V.str) (re / 5 % 3)=some (.str ts[k]):=by
    have:=ZgI (ws:=ts) (n:=k) hkl';rw[<- hk] at this;exact this
   refine Zw e4_2t0 ?_;refine⟨_,rfl,.inl ⟨rfl,_,SqL.of hg.hT⟩,_,rfl,_,rfl,_,_,rfl,rfl,(by show(0:Int)<3;decide),tg,_,_,_,rfl,rfl,SqL.of htg2,hat,T,_,_,rfl,rfl,hg.hT,Zv (by rw[List.length_reverse,List.length_map];lia),?_⟩;have hRa2:(upd H2 T (.lst ((os.map V.str).reverse ++ [.str ts[k]]))) R=some (.lst (as.map V.ref).reverse):=by
    rw[Zc hg.RT];exact hg.hR
   refine Zw e4_2t1 ?_;refine⟨_,rfl,.inl ⟨rfl,_,SqL.of hRa2⟩,by decide,fun l hl=>?_⟩;obtain⟨_,hl1⟩:=Zk hl;have hRb:(upd (upd H2 T (.lst ((os.map V.str).reverse ++ [.str ts[k]]))) l (.lst [])) R=some (.lst (as.map V.ref).reverse):=by
    rw[Zc (Zi hg.hR hl1)];exact hRa2
   refine⟨R,_,_,rfl,rfl,hRb,Zv (by rw[List.length_reverse,List.length_map];lia),?_⟩;refine⟨_,_,_,kb,_,_,_,_,rfl,hg.opened hl,⟨?_,?_,fun g hg'=>?_,fun x hx=>?_,fun g hg'=>?_⟩⟩
   ·simp only[List.map_cons,List.sum_cons,List.length_cons,Pa.sz];lia
   ·simp only[List.map_cons,List.sum_cons,Pa.nk];lia
   ·rcases List.mem_cons.mp hg' with rfl|hg'
    ·exact fun _ h=>(nomatch h)
    ·exact hb.tg g hg'
   ·rcases List.mem_cons.mp hx with rfl|hx
    ·exact List.getElem_mem hkl'
    ·exact hb.op x hx
   ·rcases List.mem_cons.mp hg' with rfl|hg'
    ·exact fun _ h=>(nomatch h)
    ·exact hb.ks g hg'
  ·have hb':PgB ts md gs os kb (i+1):=⟨by lia,hb2,hb.tg,hb.op,hb.ks⟩;refine via (t:=u4_2e0e0) (R:=fun σ H3=>σ =[some (.int c),some (.ref tg),some (.int md),some (.ref R),some (.ref T),some (.bl kb),some (.int (re / 5)),some (.int (0+(i:Int))),some (.int (re % 5)),v9]/\H3=H2) ?_ fun fin=>?_
   ·rintro σ H3 ⟨rfl,rfl⟩;refine Zw e4_2e0e0 ?_;refine⟨_,rfl,kb,rfl,?_⟩;cases kb with
    | true=>exact Zdt ⟨_,_,_,true,_,_,_,_,rfl,hg,hb'⟩
    | false =>
     refine Zhj ?_;refine Zw e4_2e0e0t0 ?_;refine Zw e4_2e0e0t1 ?_;have hrows:=hg.rows;cases gs with
     | nil=>simp at hgl
     | cons g0 gs =>
      cases hrows with
      | @cons b0 _ a1 _ r0 hrows =>
       obtain⟨vs0,h00,r00⟩:=r0;have hRl:H3 R=some (.lst ((a1.map V.ref).reverse ++ [.ref b0])):=by rw[hg.hR,List.map_cons,List.reverse_cons]
       have hvl:=r00.length;have hsz0:g0.sz<=3:=by
        simp only[List.map_cons,List.sum_cons] at hb1;lia
       refine⟨_,rfl,1,rfl,R,_,-1,.ref b0,rfl,rfl,SqL.of hRl,Zbm _ _,.inl ⟨rfl,_,SqL.of h00⟩,_,rfl,_,rfl,_,_,rfl,rfl,m0,(by show 2<=sizeLine;decide),fun pt hpt=>?_⟩;have s5:Zn H3 (upd H3 pt (.tup [.str "kids",.int (re / 5 % md)])):=Zn.new hpt;have npb:pt≠b0:=fun z=>by rw[z,h00] at hpt;cases hpt
       refine⟨b0,_,_,rfl,rfl,s5 _ _ h00,Zv (by lia),?_⟩;refine⟨_,_,_,true,_,_,_,_,rfl,hg.put (q:=.kids (re / 5 % md) .nil) h00 r00 s5 (.kids (by rw[Zc npb];exact Zb) .nil),⟨?_,?_,fun g hg'=>?_,hb.op,fun g hg'=>?_⟩⟩
       ·simp only[List.map_cons,List.sum_cons,Pa.ZfX,Pa.sz] at hb1 ⊢;lia
       ·rw[if_neg (by decide)] at hb2;rw[if_pos rfl];simp only[List.map_cons,List.sum_cons,Pa.ZfL,Pa.nk] at hb2 ⊢;lia
       ·rcases List.mem_cons.mp hg' with rfl|hg'
        ·intro x hx;rw[Pa.Zdl] at hx;rcases List.mem_append.mp hx with hx|hx
         ·exact hb.tg g0 (List.mem_cons_self ..) x hx
         ·cases hx
        ·exact hb.tg g (List.mem_cons_of_mem _ hg')
       ·rcases List.mem_cons.mp hg' with rfl|hg'
        ·intro x hx;rw[Pa.Zd7] at hx;rcases List.mem_append.mp hx with hx|hx
         ·exact hb.ks g0 (List.mem_cons_self ..) x hx
         ·have hx:x ∈ [re / 5 % md]:=hx;rw[List.mem_singleton.mp hx];exact⟨Int.emod_nonneg _ (by lia),Int.emod_lt_of_pos _ m0⟩
        ·exact hb.ks g (List.mem_cons_of_mem _ hg')
   ·refine Zw e4_2e0 ?_;refine⟨_,rfl,rfl,_,rfl,Zew (fun c2=>?_) (fun c2=>Zdt (fin _ _ ⟨rfl,rfl⟩))⟩;refine⟨_,rfl,T,_,rfl,.inl (SqL.of hg.hT),_,_,rfl,rfl,_,rfl,Zew (fun c3=>?_) (fun c3=>fin _ _ ⟨rfl,rfl⟩)⟩;cases os with
    | nil=>exact absurd (of_decide_eq_true c3) (by decide)
    | cons t os =>
     obtain⟨b0,b1,a2,g0,g1,g2,vs0,vs1,rfl,rfl,h00,r00,h11,r11,hRs,hTs⟩:=hg.two;have hv1:=r11.length;have hsz1:g1.sz<=3:=by
      simp only[List.map_cons,List.sum_cons] at hb1;lia
     refine Zw e4_2e0t0 ?_;refine⟨_,rfl,.inl ⟨rfl,_,SqL.of hRs⟩,R,_,_,rfl,rfl,hRs,Zay _ _,?_⟩;rw[Zav];have h0R:(upd H2 R (.lst ((b1::a2).map V.ref).reverse)) b0=some (.lst vs0):=by
      rw[Zc (hg.nR b0 (by simp))];exact h00
     refine⟨b0,vs0,rfl,.inl ⟨SqL.of h0R,fun l hl=>?_⟩⟩;refine Zw e4_2e0t1 ?_;have hRb:(upd (upd H2 R (.lst ((b1::a2).map V.ref).reverse)) l (.tup vs0)) R=some (.lst ((a2.map V.ref).reverse ++ [.ref b1])):=by
      rw[Zc (Zk hl).1.symm,Zb,List.map_cons,List.reverse_cons]
     have h1b:(upd (upd H2 R (.lst ((b1::a2).map V.ref).reverse)) l (.tup vs0)) b1=some (.lst vs1):=by
      rw[Zc (Zi h11 (Zk hl).2),Zc (hg.nR b1 (by simp))];exact h11
     have hTb:(upd (upd H2 R (.lst ((b1::a2).map V.ref).reverse)) l (.tup vs0)) T=some (.lst ((os.map V.str).reverse ++ [.str t])):=by
      rw[Zc (Zi hg.hT (Zk hl).2),Zc hg.RT.symm];exact hTs
     refine⟨_,rfl,1,rfl,R,_,-1,.ref b1,rfl,rfl,SqL.of hRb,Zbm _ _,.inl ⟨rfl,_,SqL.of h1b⟩,_,rfl,.inl ⟨rfl,_,SqL.of hTb⟩,T,_,_,rfl,rfl,hTb,Zay _ _,?_⟩;rw[Zav];refine⟨_,rfl,(by show 3<=sizeLine;decide),fun l2 hl2=>?_⟩;obtain⟨_,_,_,_,z5,z6⟩:=hg.shutting h00 r00 h11 r11 hl hl2;refine⟨b1,_,_,rfl,rfl,z5,Zv (by lia),?_⟩;exact⟨_,_,_,kb,_,_,_,_,rfl,z6,hb'.shut⟩
 ·rintro σ H2 ⟨as,gs,os,kb,re,v7,v8,v9,rfl,hg,hb⟩;have hsz6:(gs.map Pa.sz).sum+os.length<=3:=by
   have:=hb.sz;lia
  have hb':PgB ts md gs os kb 3:=⟨hsz6,hb.nk,hb.tg,hb.op,hb.ks⟩;refine Zw e5 ?_
  let W:Nat->St->Hp->Prop:=fun n σ H3=>∃(as:List Addr)(gs:List Pa)(os:List Str)(v9:Option V),σ =[some (.int c),some (.ref tg),some (.int md),some (.ref R),some (.ref T),some (.bl kb),some (.int re),v7,v8,v9]/\PgS H H3 R T as gs os/\PgB ts md gs os kb 3/\n=os.length
  refine⟨W,⟨_,as,gs,os,v9,rfl,hg,hb',rfl⟩,?_⟩;clear hb hsz6;rintro n σ H3 ⟨as,gs,os,v9,rfl,hg,hb,rfl⟩;refine⟨_,rfl,T,_,rfl,.inl (SqL.of hg.hT),_,_,rfl,rfl,_,rfl,Zew (fun cc=>?_) (fun cc=>?_)⟩
  ·cases os with
   | nil=>exact absurd (of_decide_eq_true cc) (by decide)
   | cons t os =>
    obtain⟨b0,b1,a2,g0,g1,g2,vs0,vs1,rfl,rfl,h00,r00,h11,r11,hRs,hTs⟩:=hg.two;have hv1:=r11.length;have hsz1:g1.sz<=3:=by
     have:=hb.sz;simp only[List.map_cons,List.sum_cons] at this;lia
    refine⟨fun σ' H'=>∃m',m'<(t::os).length/\W m' σ' H',fun _ _ h=>h,?_⟩;refine Zw e5_0 ?_;refine⟨_,rfl,.inl ⟨rfl,_,SqL.of hRs⟩,R,_,_,rfl,rfl,hRs,Zay _ _,?_⟩;rw[Zav];have h0R:(upd H3 R (.lst ((b1::a2).map V.ref).reverse)) b0=some (.lst vs0):=by
     rw[Zc (hg.nR b0 (by simp))];exact h00
    refine⟨b0,vs0,rfl,.inl ⟨SqL.of h0R,fun l hl=>?_⟩⟩;refine Zw e5_1 ?_;have hRb:(upd (upd H3 R (.lst ((b1::a2).map V.ref).reverse)) l (.tup vs0)) R=some (.lst ((a2.map V.ref).reverse ++ [.ref b1])):=by
     rw[Zc (Zk hl).1.symm,Zb,List.map_cons,List.reverse_cons]
    have h1b:(upd (upd H3 R (.lst ((b1::a2).map V.ref).reverse)) l (.tup vs0)) b1=some (.lst vs1):=by
     rw[Zc (Zi h11 (Zk hl).2),Zc (hg.nR b1 (by simp))];exact h11
    have hTb:(upd (upd H3 R (.lst ((b1::a2).map V.ref).reverse)) l (.tup vs0)) T=some (.lst ((os.map V.str).reverse ++ [.str t])):=by
     rw[Zc (Zi hg.hT (Zk hl).2),Zc hg.RT.symm];exact hTs
    refine⟨_,rfl,1,rfl,R,_,-1,.ref b1,rfl,rfl,SqL.of hRb,Zbm _ _,.inl ⟨rfl,_,SqL.of h1b⟩,_,rfl,.inl ⟨rfl,_,SqL.of hTb⟩,T,_,_,rfl,rfl,hTb,Zay _ _,?_⟩;rw[Zav];refine⟨_,rfl,(by show 3<=sizeLine;decide),fun l2 hl2=>?_⟩;obtain⟨_,_,_,_,z5,z6⟩:=hg.shutting h00 r00 h11 r11 hl hl2;refine⟨b1,_,_,rfl,rfl,z5,Zv (by lia),?_⟩;exact⟨os.length,by rw[List.length_cons];lia,_,_,os,_,rfl,z6,hb.shut,rfl⟩
  ·cases os with
   | cons t os =>
    refine absurd (decide_eq_true ?_) cc;show(0:Int)<((((t::os).map V.str).reverse.length:Nat):Int);rw[List.length_reverse,List.length_map,List.length_cons];lia
   | nil =>
    have hgl:=hg.gl;have hrows:=hg.rows;cases gs with
    | nil=>simp at hgl
    | cons g gs =>
     obtain rfl:gs=[]:=List.eq_nil_of_length_eq_zero (by simpa using hgl);cases hrows with
     | @cons b _ _ _ r hrows =>
      cases hrows;obtain⟨vs,hbb,hgr⟩:=r;refine Zw e6 ?_;refine⟨_,rfl,R,_,0,.ref b,rfl,rfl,SqL.of hg.hR,rfl,b,vs,rfl,.inl ⟨SqL.of hbb,fun r hr=>?_⟩⟩;have h1:=hb.sz;have h2:=hb.nk;simp only[List.map_cons,List.map_nil,List.sum_cons,List.sum_nil] at h1 h2;refine q r vs g _ (hg.sm.upd_new (hg.sm.free hr)) Zb (hgr.mono (TK.new hr)) ?_ (by lia) (hb.tg g (List.mem_cons_self ..)) (hb.ks g (List.mem_cons_self ..))
      split at h2 <;> lia
def RkL(H:Hp)(m:List (List Key×V))(rs:List (Int×Str×Pa)):Prop:=Paired (fun(kv:List Key×V)(r:Int×Str×Pa)=>kv.1=ZaI r.1 r.2.1/\∃q ys,kv.2=V.ref q/\H q=some (.tup ys)/\RepP H ys r.2.2) m rs
theorem RkL.tk{H H':Hp}(k:TK H H'):∀{m:List (List Key×V)}{rs:List (Int×Str×Pa)},RkL H m rs->RkL H' m rs
 | _,_,.nil=>.nil
 | _,_,.cons ⟨e,q,ys,h1,h2,h3⟩ t=>.cons ⟨e,q,ys,h1,k _ _ h2,h3.mono k⟩ (RkL.tk k t)
structure RsOk(tt:List Str)(md:Int)(rs:List (Int×Str×Pa)):Prop where
 nd:(rs.map fun r=>ZaI r.1 r.2.1).Nodup
 ok:∀r∈rs,r.2.1∈tt/\r.2.2.nk<=1/\r.2.2.sz<=3/\(∀x∈r.2.2.tags,x∈tt)/\∀k∈r.2.2.ks,0<=k/\k<md
theorem RkL.keys{H:Hp}:∀{m:List (List Key×V)}{rs:List (Int×Str×Pa)},RkL H m rs->m.map (·.1)=rs.map fun r=>ZaI r.1 r.2.1
 | _,_,.nil=>rfl
 | _,_,.cons ⟨e,_⟩ t=>by rw[List.map_cons,List.map_cons,e,RkL.keys t]
theorem RkL.put{H:Hp}{m:List (List Key×V)}{rs:List (Int×Str×Pa)}{tt:List Str}(h:RkL H m rs){md:Int}(ho:RsOk tt md rs){i:Int}{t:Str}{p:Pa}{q:Addr}{ys:List V}(hq:H q=some (.tup ys))(hp:RepP H ys p)(hi:t∈tt/\p.nk<=1/\p.sz<=3/\(∀x∈p.tags,x∈tt)/\∀k∈p.ks,0<=k/\k<md):∃rs',RkL H (putK m (ZaI i t) (.ref q)) rs'/\RsOk tt md rs'/\rs'.length<=rs.length+1:=by
 unfold putK;by_cases c:(m.any fun kv=>decide (kv.1=ZaI i t))=true
 ·rw[if_pos c]
  let g:Int×Str×Pa->Int×Str×Pa:=fun r=>if ZaI r.1 r.2.1=ZaI i t then(r.1,r.2.1,p) else r
  have hg:∀r,(fun r:Int×Str×Pa=>ZaI r.1 r.2.1) (g r)=ZaI r.1 r.2.1:=fun r=>by
   show ZaI (g r).1 (g r).2.1=_;by_cases z:ZaI r.1 r.2.1=ZaI i t
   ·simp only[g,if_pos z]
   ·simp only[g,if_neg z]
  refine⟨rs.map g,?_,⟨?_,fun r hr=>?_⟩,by rw[List.length_map];lia⟩
  ·clear c ho
   induction h with
   | nil=>exact .nil
   | @cons kv r m rs hh tl ih =>
    refine .cons ?_ ih;obtain⟨e,q',ys',e1,e2,e3⟩:=hh;by_cases z:kv.1=ZaI i t
    ·have z':ZaI r.1 r.2.1=ZaI i t:=by rw[<- e];exact z
     simp only[g,if_pos z,if_pos z'];exact⟨e,q,ys,rfl,hq,hp⟩
    ·have z' : ¬ ZaI r.1 r.2.1=ZaI i t:=by rw[<- e];exact z
     simp only[g,if_neg z,if_neg z'];exact⟨e,q',ys',e1,e2,e3⟩
  ·rw[List.map_map];have:((fun r:Int×Str×Pa=>ZaI r.1 r.2.1) ∘ g)=fun r=>ZaI r.1 r.2.1:=funext hg;rw[this];exact ho.nd
  ·obtain⟨r0,hr0,rfl⟩:=List.mem_map.mp hr;have:=ho.ok r0 hr0;by_cases z:ZaI r0.1 r0.2.1=ZaI i t
   ·simp only[g,if_pos z];exact⟨this.1,hi.2⟩
   ·simp only[g,if_neg z];exact this
 ·rw[if_neg c];refine⟨rs ++ [(i,t,p)],Paired.app h (.cons ⟨rfl,q,ys,rfl,hq,hp⟩ .nil),⟨?_,fun r hr=>?_⟩,by rw[List.length_append];exact Nat.le_refl _⟩
  ·rw[List.map_append];refine List.nodup_append.mpr ⟨ho.nd,by simp,fun x hx y hy e=>?_⟩;rw[<- h.keys] at hx;obtain⟨kv,hkv,rfl⟩:=List.mem_map.mp hx;have e2:y=ZaI i t:=by simpa using hy
   refine c (List.any_eq_true.mpr ⟨kv,hkv,decide_eq_true (e.trans e2)⟩)
  ·rcases List.mem_append.mp hr with hr|hr
   ·exact ho.ok r hr
   ·rw[List.mem_singleton.mp hr];exact hi
def ZeU(K:PySem.W.Frag):Sp:=fun vs H Q _=>∃(a tg:Addr)(ns:List Int)(at_ md:Int)(ts:List Str),vs=[.ref a,.int at_,.ref tg,.int md]/\SqL K H a (ns.map V.int)/\ns.length<=63/\0<=at_/\at_<=100/\0<md/\md<100/\H tg=some (.lst (ts.map V.str))/\ts.length=3/\∀(d:Addr)(m:List (List Key×V))(rs:List (Int×Str×Pa))(H':Hp),Zn H H'->H d=none->H' d=some (.dT m)->RkL H' m rs->RsOk ts md rs->rs.length<=10->Q (.ref d) H'
set_option maxHeartbeats 4000000 in
theorem ZiN(B:∀x∈ZbN,mg x=none)(g_l_cell:Has P w K mg base "_law_cell" ["_law_script","_law_k"] 1 (ZdH K)) (g_l_parts:Has P w K mg base "_law_parts" ["_law_cell_here","_law_tags_here","_law_modes"] 1 ZeL) (F:Fun K "_law_made" "_law_made" ZbA f fd):FnOk P w K mg base CX0 2 f fd ["_law_script","_law_at","_law_tags_here","_law_modes"] (ZeU K):=by
 refine F.ok Zcq (fun vs H Q E h=>?_) (fun cdv A outer s H vs Q E hr h=>?_)
 ·obtain⟨a,tg,ns,at_,md,ts,rfl,_⟩:=h;rfl
 obtain⟨a,tg,ns,at_,md,ts,rfl,hS,h63,t0,t1,m0,m1,htg,ht3,q⟩:=h;have hu1:(A.deeper (PyProof.Rows.envOfC (Str.ofString "_law_made") (Zg ZbA) s.heap.objs.size f cdv)).units+1<cLine:=by have:=hr.un;lia
 refine⟨_,(Zd (Zm (i:=4) Zcq.nd rfl (Or.inl rfl) ZjR)
  (Zd (ZaP PassesOwn.never rfl (Zbt rfl (B "range" (by decide)) (Za (Zr Zah (Zr ZaW (Zx g_l_cell hr rfl (Za (pv 0) (Za (pv 1) Ze))) Zh) Zh) Ze)) (ZD (i:=5) Zcq.nd rfl (Or.inl rfl))
   (Zd (Zm (i:=6) Zcq.nd rfl (Or.inl rfl) (Zr Zah (Zx g_l_cell hr rfl (Za (pv 0) (Za (Zr ZaN (Zr ZaN (pv 1) Zh) (pv 5)) Ze))) (Zr Zik Zh Zh)))
    (Zj (ZeK hu1 (pv 4) (Z1 (Za (Zr Zah (pv 6) (pv 3)) (Za (ZF ZP (pv 2) (Zr Zah (Zr ZaW (pv 6) Zh) Zh) (fun _ _=>rfl)) Ze))) (Zx g_l_parts hr rfl (Za (Zr ZaW (pv 6) Zh) (Za (pv 2) (Za (pv 3) Ze)))) rfl))))
  (Zj (ZL (pv 4))))),?_⟩
 refine fun d hd=>?_;have s0:Zn H (upd H d (.dT [])):=Zn.new hd;refine⟨_,rfl,_,rfl,a,ns,at_,rfl,s0.seq hS,h63,t0,by lia,fun v=>?_⟩;have v7:=Int.emod_nonneg (v / 3) (by decide:(7:Int)≠0);have v7':=Int.emod_lt_of_pos (v / 3) (by decide:(0:Int)<7);refine⟨_,_,rfl,rfl,⟨by decide,by decide⟩,_,_,rfl,rfl,(by show(0:Int)<7;decide),_,rfl,by lia,by lia,Zcn (lo:=0) (n:=(v / 3 % 7).toNat) (fun i σ H1=>∃(v5 v6:Option V)(m:List (List Key×V))(rs:List (Int×Str×Pa)),σ =[some (.ref a),some (.int at_),some (.ref tg),some (.int md),some (.ref d),v5,v6]/\Zn H H1/\H1 d=some (.dT m)/\RkL H1 m rs/\RsOk ts md rs/\rs.length<=i)
  ⟨none,none,[],[],rfl,s0,Zb,.nil,⟨by simp,fun _ h=>(nomatch h)⟩,Nat.le_refl _⟩ ?_ ?_⟩
 ·rintro i σ H1 hi ⟨v5,v6,m,rs,rfl,s1,hd1,hrk,hro,hrl⟩;have hi7:i<7:=by lia
  refine⟨_,rfl,_,rfl,_,_,rfl,rfl,_,rfl,_,_,rfl,rfl,a,ns,_,rfl,s1.seq hS,h63,by lia,by lia,fun v=>?_⟩;refine⟨_,_,rfl,rfl,⟨by decide,by decide,by decide⟩,_,_,rfl,rfl,(by show(0:Int)<10 ^ 9;decide),?_⟩;have w0:=Int.emod_nonneg v (by decide:((10:Int) ^ (9:Int).toNat)≠0);generalize hw:v % (10:Int) ^ (9:Int).toNat=wv at w0;show Zgy 6 (V.int (v % (10:Int) ^ (9:Int).toNat)) _ _ _;rw[hw];obtain⟨k,hk,hkl⟩:=ZmG (wv / 3) (n:=3) (by decide);have hkl':k<ts.length:=by lia
  have hat:atI (ts.map V.str) (wv / 3 % 3)=some (.str ts[k]):=by
   have:=ZgI (ws:=ts) (n:=k) hkl';rw[<- hk] at this;exact this
  refine⟨_,rfl,_,_,rfl,rfl,⟨by decide,by decide⟩,_,rfl,_,rfl,wv / 9,md,tg,ts,rfl,by lia,m0,m1,s1 _ _ htg,ht3,fun r xs p H2 s2 hr2 hp hnk hsz htags hks=>?_⟩;have s12:=s1.trans s2;refine⟨_,rfl,_,rfl,_,rfl,_,_,rfl,rfl,m0,_,rfl,_,rfl,_,_,rfl,rfl,⟨by decide,by decide⟩,_,_,rfl,rfl,(by show(0:Int)<3;decide),tg,_,_,_,rfl,rfl,SqL.of (s12 _ _ htg),hat,(by show 2<=sizeLine;decide),fun kt hkt=>?_⟩;have s3:Zn H2 (upd H2 kt (.tup [.int (wv % md),.str ts[k]])):=Zn.new hkt;have hml:m.length=rs.length:=Paired.length hrk;have hd3:=s3 _ _ (s2 _ _ hd1);refine⟨d,_,rfl,ZjN.t (k:=ZaI (wv % md) ts[k]) hd3 Zb (Zv (by lia)),?_⟩;have tkd:TK (upd H2 kt (.tup [.int (wv % md),.str ts[k]])) (upd (upd H2 kt (.tup [.int (wv % md),.str ts[k]])) d (.dT (putK m (ZaI (wv % md) ts[k]) (.ref r)))):=fun b ys e=>by
   rw[Zc (ZgH e hd3 (fun z=>nomatch z))]
   exact e
  have tk:=(s2.trans s3).tk.trans tkd;obtain⟨rs',g1,g2,g3⟩:=(hrk.tk tk).put hro (i:=wv % md) (t:=ts[k]) (tkd _ _ (s3 _ _ hr2)) ((hp.mono s3.tk).mono tkd) ⟨List.getElem_mem hkl',hnk,hsz,htags,hks⟩;exact⟨_,_,_,rs',rfl,(s12.trans s3).upd_new hd,Zb,g1,g2,by lia⟩
 ·rintro σ H1 ⟨v5,v6,m,rs,rfl,s1,hd1,hrk,hro,hrl⟩;exact⟨_,rfl,q d m rs H1 s1 hd hd1 hrk hro (by lia)⟩
def Za9(kn:Kn):Bg->List Str->List Str×Bg
 | bs,[]=>([],bs)
 | bs,w::ws=>((Za0 kn bs w).1++(Za9 kn (Za0 kn bs w).2 ws).1,(Za9 kn (Za0 kn bs w).2 ws).2)
theorem Zcz(kn:Kn):∀(us ws:List Str)(bs:Bg),Za9 kn bs (us++ws)=((Za9 kn bs us).1++(Za9 kn (Za9 kn bs us).2 ws).1,(Za9 kn (Za9 kn bs us).2 ws).2)
 | [],ws,bs=>by simp[Za9]
 | u::us,ws,bs=>by
  rw[List.cons_append];simp only[Za9];rw[Zcz kn us ws];simp[List.append_assoc]
theorem Zdz(kn:Kn)(us:List Str)(w:Str)(bs:Bg):Za9 kn bs (us ++ [w])=((Za9 kn bs us).1++(Za0 kn (Za9 kn bs us).2 w).1,(Za0 kn (Za9 kn bs us).2 w).2):=by
 rw[Zcz];simp[Za9]
theorem RkL.mem{H:Hp}:∀{m:List (List Key×V)}{rs:List (Int×Str×Pa)},RkL H m rs->(rs.map fun r=>ZaI r.1 r.2.1).Nodup->∀r∈rs,∃q ys,Zbe m (ZaI r.1 r.2.1)=some (.ref q)/\H q=some (.tup ys)/\RepP H ys r.2.2
 | _,_,.cons (a:=kv) (b:=r0) ⟨e,q,ys,h1,h2,h3⟩ t,hn,r,hr=>by
  rw[List.map_cons,List.nodup_cons] at hn;rcases List.mem_cons.mp hr with rfl|hr
  ·refine⟨q,ys,?_,h2,h3⟩;unfold Zbe;rw[List.find?_cons_of_pos (by rw[e];exact decide_eq_true rfl)];exact congrArg some h1
  ·obtain⟨q',ys',g1,g2,g3⟩:=RkL.mem t hn.2 r hr;refine⟨q',ys',?_,g2,g3⟩;have hne : ¬ kv.1=ZaI r.1 r.2.1:=fun z=>hn.1 (by rw[<- e,z];exact List.mem_map.mpr ⟨r,hr,rfl⟩);unfold Zbe at g1 ⊢;rw[List.find?_cons_of_neg (by rw[decide_eq_false hne];decide)];exact g1
theorem RkL.absent{H:Hp}:∀{m:List (List Key×V)}{rs:List (Int×Str×Pa)},RkL H m rs->∀k,(∀r∈rs,ZaI r.1 r.2.1≠k)->Zbe m k=none
 | _,_,.nil,_,_=>rfl
 | _,_,.cons (a:=kv) (b:=r0) ⟨e,_⟩ t,k,h=>by
  have g:=RkL.absent t k fun r hr=>h r (List.mem_cons_of_mem _ hr);have hne : ¬ kv.1=k:=by rw[e];exact h r0 (List.mem_cons_self ..)
  unfold Zbe at g ⊢;rw[List.find?_cons_of_neg (by rw[decide_eq_false hne];decide)];exact g
def KnM(rs:List (Int×Str×Pa))(kn:Kn):Prop := ∀i t p,kn i t=some p↔(i,t,p)∈rs
theorem Zmi{rs:List (Int×Str×Pa)}(hn:(rs.map fun r=>ZaI r.1 r.2.1).Nodup):KnM rs (Zaf rs):=by
 have go:∀(rs:List (Int×Str×Pa))(f:Kn),(rs.map fun r=>ZaI r.1 r.2.1).Nodup->∀i t p,rs.foldl Zcf f i t=some p↔(i,t,p)∈rs\/((∀r∈rs,ZaI r.1 r.2.1≠ZaI i t)/\f i t=some p):=by
  intro rs
  induction rs with
  | nil=>intro f _ i t p;simp
  | cons r rs ih =>
   intro f hn i t p;rw[List.map_cons,List.nodup_cons] at hn;rw[List.foldl_cons,ih (Zcf f r) hn.2];unfold Zcf;by_cases c:i=r.1/\t=r.2.1
   ·rw[if_pos c];constructor
    ·rintro(h|⟨h,e⟩)
     ·exact .inl (List.mem_cons_of_mem _ h)
     ·injection e with e;rw[c.1,c.2,<- e];exact .inl (List.mem_cons_self ..)
    ·rintro(h|⟨h,_⟩)
     ·rcases List.mem_cons.mp h with h|h
      ·refine .inr ⟨fun r' hr' z=>hn.1 (List.mem_map.mpr ⟨r',hr',?_⟩),by rw[<- h]⟩;show ZaI r'.1 r'.2.1=_;rw[z,c.1,c.2]
      ·exact .inl h
     ·exact absurd (by rw[c.1,c.2]) (h r (List.mem_cons_self ..))
   ·rw[if_neg c];have hk:ZaI r.1 r.2.1≠ZaI i t:=fun z=>c ⟨(Zcs z).1.symm,(Zcs z).2.symm⟩;constructor
    ·rintro(h|⟨h,e⟩)
     ·exact .inl (List.mem_cons_of_mem _ h)
     ·exact .inr ⟨fun r' hr'=>(List.mem_cons.mp hr').elim (fun z=>z ▸ hk) (h r'),e⟩
    ·rintro(h|⟨h,e⟩)
     ·rcases List.mem_cons.mp h with h|h
      ·exact absurd (by rw[<- h]) hk
      ·exact .inl h
     ·exact .inr ⟨fun r' hr'=>h r' (List.mem_cons_of_mem _ hr'),e⟩
 intro i t p;have:=go rs (fun _ _=>none) hn i t p;unfold Zaf;rw[this];simp
theorem RkL.kn{H:Hp}{m:List (List Key×V)}{rs:List (Int×Str×Pa)}{kn:Kn}(h:RkL H m rs)(hn:(rs.map fun r=>ZaI r.1 r.2.1).Nodup)(hk:KnM rs kn):KnR H m kn:=fun i t=>by
 cases c:kn i t with
 | none =>
  refine .inl ⟨h.absent _ fun r hr z=>?_,rfl⟩;have:kn i t=some r.2.2:=(hk i t r.2.2).mpr (by
   obtain⟨z1,z2⟩:=Zcs z;rw[<- z1,<- z2];exact hr)
  rw[c] at this;cases this
 | some p =>
  obtain⟨q,ys,g1,g2,g3⟩:=h.mem hn _ ((hk i t p).mp c);exact .inr ⟨q,ys,p,g1,g2,g3,rfl⟩
theorem Zka{rs rs':List (Int×Str×Pa)}(hn:(rs.map fun r=>ZaI r.1 r.2.1).Nodup)(hp:(rs'.map fun r=>ZaI r.1 r.2.1).Perm (rs.map fun r=>ZaI r.1 r.2.1))(hs:∀r∈rs',r∈rs){kn:Kn}(h:KnM rs' kn):KnM rs kn:=fun i t p=>by
 rw[h];refine⟨fun z=>hs _ z,fun z=>?_⟩;have hm:ZaI i t∈rs.map fun r=>ZaI r.1 r.2.1:=List.mem_map.mpr ⟨_,z,rfl⟩;obtain⟨r',hr',e⟩:=List.mem_map.mp (hp.mem_iff.mpr hm);have key:∀{rs:List (Int×Str×Pa)},(rs.map fun r=>ZaI r.1 r.2.1).Nodup->∀a∈rs,∀b∈rs,ZaI a.1 a.2.1=ZaI b.1 b.2.1->a=b:=by
  intro rs
  induction rs with
  | nil=>intro _ a ha;cases ha
  | cons r rs ih =>
   intro hn a ha b hb e;rw[List.map_cons,List.nodup_cons] at hn;rcases List.mem_cons.mp ha with ha'|ha'
   ·rcases List.mem_cons.mp hb with hb'|hb'
    ·rw[ha',hb']
    ·exact absurd (List.mem_map.mpr ⟨b,hb',by rw[<- ha',e]⟩) hn.1
   ·rcases List.mem_cons.mp hb with hb'|hb'
    ·exact absurd (List.mem_map.mpr ⟨a,ha',by rw[<- hb',e]⟩) hn.1
    ·exact ih hn.2 a ha' b hb' e
 have:=key hn r' (hs r' hr') _ z e;rw[<- this];exact hr'
theorem Zhf(kn:Kn)(bs:Bg)(t:Str):(Za0 kn bs t).2.length=if t=SL then bs.length-1 else bs.length+1:=by
 unfold Za0;by_cases c:t=SL
 ·rw[if_pos c,if_pos c];by_cases z:bs=[]
  ·subst z;rfl
  ·obtain⟨bs',b,rfl⟩:=Zgg z;rw[List.getLast?_concat,List.dropLast_concat,List.length_append];rfl
 ·rw[if_neg c,if_neg c,List.length_append];rfl
theorem Zjd{K:PySem.W.Frag}{H:Hp}{a b:Addr}{xs ys:List Str}{neg:Bool}{Q:VK}(hA:SqL K H a (xs.map V.str))(hB:SqL K H b (ys.map V.str))(o1:OkW xs)(o2:OkW ys)(q:Q (.bl (if neg then !decide (xs=ys) else decide (xs=ys))) H):ZmD K neg (.ref a) (.ref b) H Q:=ZiO (n:=200) hA hB o1 o2 (by decide) q
def ZaG(f:Int->List Str):Pa->List Str
 | .nil=>[]
 | .kids m o=>f m++ZaG f o
 | .tag t w o=>t::(ZaG f w++SL::ZaG f o)
def elW(f:Int->List Str):Str ⊕ Int->List Str
 | .inl s=>[s]
 | .inr m=>f m
theorem Zdu(f:Int->List Str):∀p:Pa,ZaG f p=p.spl.flatMap (elW f)
 | .nil=>rfl
 | .kids m o=>by simp[ZaG,Pa.spl,Zdu f o,elW]
 | .tag t w o=>by simp[ZaG,Pa.spl,Zdu f o,Zdu f w,elW]
theorem Zdq(f:Int->List Str):∀ts:List Str,(ts.map Sum.inl:List (Str ⊕ Int)).flatMap (elW f)=ts
 | []=>rfl
 | t::ts=>by rw[List.map_cons,List.flatMap_cons,Zdq f ts];rfl
def onO(f:Int->List Str):Option Int->List Str
 | none=>[]
 | some m=>f m
theorem Zkv(f:Int->List Str){p:Pa}(h:p.nk<=1):ZaG f p=(Zge p.spl).1++onO f (Zge p.spl).2.1++(Zge p.spl).2.2:=by
 rw[Zdu];by_cases c:p.nk=0
 ·obtain⟨ts,e,_⟩:=(Zbi p).1 c;rw[e,Zfl,Zdq];simp[onO]
 ·obtain⟨a,b,m,e,_⟩:=(Zbi p).2 (by lia);rw[e,ZfW,List.flatMap_append,List.flatMap_cons,Zdq,Zdq];simp[onO,elW]
def chW(kn:Kn):Gr Str->Int->List Str
 | .nil,_=>[]
 | .cons t w o,m=>ZaG (chW kn w) (paD kn m t)++chW kn o m
theorem Zks(kn:Kn)(bs:Bg)(b:Option Int×List Str):Za0 kn (bs ++ [b]) SL=(b.2,bs):=by
 unfold Za0;rw[if_pos rfl,List.getLast?_concat,List.dropLast_concat]
theorem ZiA(bs:Bg)(b:Option Int×List Str):Zcb (bs ++ [b])=b.1:=by
 unfold Zcb;rw[List.getLast?_concat]
theorem Zll{kn:Kn}(ok:KnOk kn)(f:Int->List Str)(m:Int)(t:Str):ZaG f (paD kn m t)=(rlS kn (some m) t).1++onO f (rlS kn (some m) t).2.1++(rlS kn (some m) t).2.2:=by
 unfold paD;show ZaG f ((kn m t).getD _)=(match kn m t with|none=>([t],some m,[SL])|some p=>Zge p.spl).1++onO f (match kn m t with|none=>([t],some m,[SL])|some p=>Zge p.spl).2.1++(match kn m t with|none=>([t],some m,[SL])|some p=>Zge p.spl).2.2
 cases h:kn m t with
 | none=>simp[ZaG,onO]
 | some p=>exact Zkv f (ok.one _ _ _ h)
theorem Zcu{kn:Kn}(ok:KnOk kn):∀(g:Gr Str)(bs:Bg),ZbG SL g->Za9 kn bs (words SL g)=(onO (chW kn g) (Zcb bs),bs)
 | .nil,bs,_=>by
  show([],bs)=_;cases Zcb bs <;> rfl
 | .cons t w o,bs,h=>by
  obtain⟨h1,h2,h3⟩:=h;have e0:Za0 kn bs t=((rlS kn (Zcb bs) t).1,bs ++ [(rlS kn (Zcb bs) t).2]):=by
   unfold Za0;rw[if_neg h1]
  show Za9 kn bs (t::(words SL w++SL::words SL o))=_;simp only[Za9];rw[e0,Zcz];simp only[Za9];rw[Zcu ok w _ h2];simp only[Zks,ZiA];rw[Zcu ok o bs h3];cases hm:Zcb bs with
  | none=>simp[rlS,onO]
  | some m =>
   show _=(ZaG (chW kn w) (paD kn m t)++chW kn o m,bs);rw[Zll ok];simp[onO]
def ZlE:Sp:=fun vs H Q _=>∃(dd d:Addr)(t:Str)(m:List (List Key×V))(kn:Kn)(n:Int)(ms:List Int),vs=[.ref dd,.ref d,.str t]/\H dd=some (.dT m)/\KnR H m kn/\KnV kn n/\n<=1000/\H d=some (.dK (kvM ms))/\(∀m∈ms,0<=m/\m<n) /\
 ∀(r:Addr)(H':Hp),Zn H H'->H r=none->H' r=some (.dK (kvM (ZeE kn t ms)))->Q (.ref r) H'
def Zif(acc ks:List Int):List Int:=ks.foldl (fun acc k=>if k∈acc then acc else acc ++ [k]) acc
def Zly(kn:Kn)(t:Str)(ms:List Int):List Int:=ms.foldl (fun acc m=>Zif acc (paC kn m t).ks) []
theorem ZlD(kn:Kn)(t:Str)(ms:List Int):(Zly kn t ms).Nodup:=(Zdg kn t ms []).2 List.nodup_nil
theorem Zjh(acc ks:List Int)(k:Int):Zif acc (ks ++ [k])=if k∈Zif acc ks then Zif acc ks else Zif acc ks ++ [k]:=by
 unfold Zif;rw[List.foldl_append];rfl
theorem Zld{acc:List Int}(ks:List Int)(h:acc.Nodup):(Zif acc ks).Nodup:=ZkH ks acc h
theorem Zkd{acc ks:List Int}(x:Int):x∈Zif acc ks↔x∈acc\/x∈ks:=Zii ks acc x
theorem ZiT(kn:Kn)(t:Str)(ms:List Int)(m:Int):Zly kn t (ms ++ [m])=Zif (Zly kn t ms) (paC kn m t).ks:=by
 unfold Zly;rw[List.foldl_append];rfl
set_option maxHeartbeats 2000000 in
theorem ZdO(B:∀x∈ZbN,mg x=none)(g_all_parts:Has P w K mg base "all_parts" ["parts"] 22 (ZfK 22)) (g_parts_for:Has P w K mg base "parts_for" ["known","mode","tag"] 1 Zby) (F:Fun K "modes_within" "modes_within" Zag f fd):FnOk P w K mg base CX0 23 f fd ["known","modes","tag"] ZlE:=by
 refine F.ok ZaQ (fun vs H Q E h=>?_) (fun cdv A outer s H vs Q E hr h=>?_)
 ·obtain⟨dd,d,t,m,kn,n,ms,rfl,_⟩:=h;rfl
 obtain⟨dd,d,t,m,kn,n,ms,rfl,hdd,hkn,kv,hn,hd,hms,qq⟩:=h;have hu1:(A.deeper (PyProof.Rows.envOfC (Str.ofString "modes_within") (Zg Zag) s.heap.objs.size f cdv)).units+1<cLine:=by have:=hr.un;lia
 refine⟨_,(Zd (Zm (i:=3) ZaQ.nd rfl (Or.inl rfl) ZeT)
  (Zd (ZiM (ZaP PassesOwn.never rfl (Zjq (pv 1)) (ZD (i:=4) ZaQ.nd rfl (Or.inl rfl))
   (Zj (ZaP PassesOwn.never rfl (ZbT (Zx g_all_parts hr rfl (Za (Zx g_parts_for hr rfl (Za (pv 0) (Za (pv 4) (Za (pv 2) Ze)))) Ze))) (ZD (i:=5) ZaQ.nd rfl (Or.inl rfl))
     (Zj (Za8 (ZK Zca (ZF Z3 (pv 5) Zh (fun _ _=>rfl)) ZaJ (Z0 _))
       (Zj (ZeK hu1 (pv 3) (ZF Z3 (pv 5) Zh (fun _ _=>rfl)) Zh4 rfl))
       ZaH))))))
  (Zj (ZL (pv 3))))),?_⟩
 refine fun Fd hF=>?_;have nF:Fd≠d:=fun z=>by rw[z,hd] at hF;cases hF
 refine⟨_,rfl,d,kvM ms,rfl,by rw[Zc nF.symm];exact hd,fun ob=>?_⟩;have ndd:dd≠d:=fun z=>by rw[z,hd] at hdd;cases hdd
 have tk0:TK H (upd H d (.frz ob (.dK (kvM ms)))):=fun b ys e=>by rw[Zc (fun z=>by rw[z,hd] at e;cases e)];exact e
 have hkl:(kvM ms).length=ms.length:=List.length_map ..;refine Zg9 (d:=d) (ob:=ob) (kvs:=kvM ms) (fun i σ H1=>∃(v4 v5:Option V),σ =[some (.ref dd),some (.ref d),some (.str t),some (.ref Fd),v4,v5]/\Zn (upd H d (.frz ob (.dK (kvM ms)))) H1/\H1 Fd=some (.dK (kvM (Zly kn t (ms.take i)))))
  ⟨none,none,rfl,?_,?_⟩ ?_ ?_ ?_
 ·intro b o e;by_cases hb:b=d
  ·rw[hb] at e ⊢;rw[Zb] at e ⊢;exact e
  ·rw[Zc hb] at e ⊢;rw[Zc (Zi e hF)];exact e
 ·rw[Zc nF];exact Zb
 ·rintro i σ H1 _ ⟨_,_,_,s1,_⟩;exact s1 _ _ Zb
 ·rintro i k v σ H1 hk ⟨v4,v5,rfl,s1,hF1⟩;obtain⟨mo,hmo,rfl⟩:∃mo,ms[i]?= some mo/\k=Sum.inl mo:=by
   unfold kvM at hk;rw[List.getElem?_map] at hk;obtain⟨mo,h1,h2⟩:=Option.map_eq_some_iff.mp hk;injection h2 with h2 h3;exact⟨mo,h1,h2.symm⟩
  have hmv:=hms mo (List.mem_of_getElem? hmo);have tk1:=tk0.trans s1.tk;have hdd1:H1 dd=some (.dT m):=s1 _ _ (by rw[Zc ndd];exact hdd);have psz:=kv.psz mo t;have pdp:=(paC kn mo t).ZcY;refine⟨_,rfl,_,rfl,_,rfl,dd,m,kn,mo,t,rfl,hdd1,hkn.tk tk1,fun q ys H2 s2 hq rp=>?_⟩;refine⟨q,ys,paC kn mo t,rfl,hq,rp,by lia,by lia,fun r zs H3 s3 hr0 hr3 hzs=>?_⟩;have hzl:zs.length=(Zde (paC kn mo t)).length:=Paired.length hzs;have hks:=Zd2 (paC kn mo t);have s13:=(s1.trans s2).trans s3;have nv:∀x∈Zly kn t (ms.take i),0<=x/\x<n:=fun x hx=>kv.mds (t:=t) (ms:=ms.take i) (fun m hm=>hms m (List.mem_of_mem_take hm)) x hx;refine⟨r,rfl,⟨_,SqL.of hr3⟩,Zb0 (K:=K) (a:=r) (xs:=zs) (fun j σ H4=>∃(v5:Option V),σ =[some (.ref dd),some (.ref d),some (.str t),some (.ref Fd),some (.int mo),v5]/\(∀b o,b≠Fd->H3 b=some o->H4 b=some o)/\H4 Fd=some (.dK (kvM (Zif (Zly kn t (ms.take i)) (((Zde (paC kn mo t)).take j).filterMap id)))))
   ⟨_,rfl,fun _ _ _ h=>h,s3 _ _ (s2 _ _ hF1)⟩ ?_ ?_ ?_⟩
  ·rintro j σ H4 _ ⟨_,_,k4,_⟩;exact SqL.of (k4 _ _ (fun z=>by rw[z,s2 _ _ hF1] at hr0;cases hr0) hr3)
  ·rintro j x σ H4 hx ⟨v5,rfl,k4,hF4⟩;obtain⟨o,ho,hv⟩:=hzs.get j x hx;have ts:=ZW ho;cases o with
   | some mk =>
    obtain⟨a,rfl,ha⟩:=hv;have ha4:=k4 _ _ (fun z=>by rw[z,s3 _ _ (s2 _ _ hF1)] at ha;cases ha) ha;refine⟨_,rfl,a,_,0,_,rfl,rfl,SqT.of ha4,rfl,rfl,_,rfl,Zhj ?_⟩;refine⟨_,rfl,_,rfl,a,_,1,_,rfl,rfl,SqT.of ha4,rfl,Fd,_,rfl,ZjN.k (k:=Sum.inl mk) hF4 ?_,?_⟩
    ·unfold kvM;rw[List.length_map];have h1:=Zkb n.toNat _ (Zld (((Zde (paC kn mo t)).take j).filterMap id) (ZlD kn t (ms.take i))) fun x hx=>by
      rcases(Zkd x).mp hx with hx|hx
      ·have:=nv x hx;lia
      ·have h2:x∈(paC kn mo t).ks:=by
        rw[<- hks];obtain⟨y,hy,e⟩:=List.mem_filterMap.mp hx;exact List.mem_filterMap.mpr ⟨y,List.mem_of_mem_take hy,e⟩
       have:=kv.pks hmv x h2;lia
     exact Zv (by lia)
    ·refine⟨_,rfl,fun b o hb h=>by rw[Zc hb];exact k4 b o hb h,?_⟩;rw[Zb,Zlr,ts,List.filterMap_append];show _=some (HO.dK (kvM (Zif _ (_ ++ [mk]))));rw[Zjh]
   | none =>
    obtain⟨a,t',q',rfl,ha⟩:=hv;have ha4:=k4 _ _ (fun z=>by rw[z,s3 _ _ (s2 _ _ hF1)] at ha;cases ha) ha;refine⟨_,rfl,a,_,0,_,rfl,rfl,SqT.of ha4,rfl,rfl,_,rfl,Zdt ?_⟩;refine⟨_,rfl,k4,?_⟩;rw[ts,List.filterMap_append];show _=some (HO.dK (kvM (Zif _ (_ ++ []))));rw[List.append_nil];exact hF4
  ·rintro σ H4 ⟨v5,rfl,k4,hF4⟩;rw[hzl,List.take_length,hks] at hF4;refine⟨_,_,rfl,fun b o e=>k4 b o (fun z=>by
    rw[z] at e;rw[Zc nF,hF] at e;cases e) (s13 b o e),?_⟩
   rw[hF4,ZW hmo,ZiT]
 ·rintro σ H1 ⟨v4,v5,rfl,s1,hF1⟩;rw[hkl,List.take_length] at hF1;refine⟨d,ob,kvM ms,s1 _ _ Zb,fun o u z=>?_,?_⟩
  ·have z:H d=some (.frz o u):=z;rw[hd] at z;cases z
  refine⟨_,rfl,qq Fd _ (fun b o e=>?_) hF ?_⟩
  ·by_cases hb:b=d
   ·rw[hb] at e ⊢;rw[Zb,<- e,hd]
   ·rw[Zc hb];exact s1 _ _ (by rw[Zc hb];exact e)
  ·rw[Zc nF];exact hF1
def MdV(H0 H:Hp)(v:V)(ms:List Int):Prop := ∃d,v=V.ref d/\H d=some (.dK (kvM ms))/\H0 d=none
def MdL(H0 H:Hp)(zs:List V)(mss:List (List Int)):Prop:=Paired (MdV H0 H) zs mss
theorem MdL.same{H0 H H':Hp}(s:Zn H H'):∀{zs:List V}{mss:List (List Int)},MdL H0 H zs mss->MdL H0 H' zs mss
 | _,_,.nil=>.nil
 | _,_,.cons ⟨d,e,h1,h2⟩ t=>.cons ⟨d,e,s _ _ h1,h2⟩ (MdL.same s t)
theorem MdL.lst{H0 H:Hp}{l:Addr}{o:HO}{xs:List V}(hl:H l=some (.lst xs)):∀{zs:List V}{mss:List (List Int)},MdL H0 H zs mss->MdL H0 (upd H l o) zs mss
 | _,_,.nil=>.nil
 | _,_,.cons ⟨d,e,h1,h2⟩ t=>.cons ⟨d,e,by rw[Zc (fun z=>by rw[z,hl] at h1;cases h1)];exact h1,h2⟩ (MdL.lst hl t)
def ZlN:Sp:=fun vs H Q _=>∃(dd wl:Addr)(m0:Int)(m:List (List Key×V))(kn:Kn)(n:Int)(G:Gr Str),vs=[.ref dd,.ref wl,.int m0]/\H dd=some (.dT m)/\KnR H m kn/\KnV kn n/\n<=1000/\0<=m0/\m0<n/\H wl=some (.lst ((words SL G).map V.str))/\ZbG SL G/\gsz G<=400 /\
 ∀(r:Addr)(zs:List V)(H':Hp),Zn H H'->H r=none->H' r=some (.lst zs)->MdL H H' zs (Zds kn [m0] G)->Q (.ref r) H'
theorem Zb1{kn:Kn}{n:Int}(kv:KnV kn n):∀(ws:List Str)(st fo:List (List Int)),(∀ms∈st,∀m∈ms,0<=m/\m<n)->∀ms∈(ws.foldl (Zbj kn) (st,fo)).1,∀m∈ms,0<=m/\m<n
 | [],_,_,h=>h
 | w::ws,[],fo,h=>by
  rw[List.foldl_cons,show Zbj kn ([],fo) w=([],fo) by rw[Zbj]];exact Zb1 kv ws [] fo h
 | w::ws,top::rs,fo,h=>by
  rw[List.foldl_cons,Zbj];by_cases c:w=SL
  ·rw[if_pos c];exact Zb1 kv ws rs _ fun ms hm=>h ms (List.mem_cons_of_mem _ hm)
  ·rw[if_neg c];refine Zb1 kv ws _ _ fun ms hm=>?_;rcases List.mem_cons.mp hm with rfl|hm
   ·exact kv.mds (h top (List.mem_cons_self ..))
   ·exact h ms hm
set_option maxHeartbeats 2000000 in
theorem Zf4(B:∀x∈ZbN,mg x=none)(g_modes_within:Has P w K mg base "modes_within" ["known","modes","tag"] 23 ZlE) (F:Fun K "modes_at" "modes_at" Zbd f fd):FnOk P w K mg base CX0 24 f fd ["known","words","mode"] ZlN:=by
 refine F.ok ZbD (fun vs H Q E h=>?_) (fun cdv A outer s H vs Q E hr h=>?_)
 ·obtain⟨dd,wl,m0,m,kn,n,G,rfl,_⟩:=h;rfl
 obtain⟨dd,wl,m0,m,kn,n,G,rfl,hdd,hkn,kv,hn,m00,m0n,hwl,hc,hz,qq⟩:=h;have hwz:=ZR G;have hcan:Can SL 0 (words SL G):=by
  have:=Zcj (n:=0) (ws:=[]) hc rfl
  rwa [List.append_nil] at this
 refine⟨_,(Zd (Zm (i:=3) ZbD.nd rfl (Or.inl rfl) (Zaa Ze))
  (Zd (Zm (i:=4) ZbD.nd rfl (Or.inl rfl) (Zaa (Za (ZlJ (Zkj (pv 2) Zh4 Zk5) rfl rfl (List.cons_ne_nil _ _) (by decide)) Ze)))
  (Zd (ZaP PassesOwn.never rfl (ZbT (pv 1)) (ZD (i:=5) ZbD.nd rfl (Or.inl rfl))
   (Zd (ZQ (ZaS PySem.F.plainAttrs_list PySem.F.slot_list_append PySem.F.type_list_append Zy (pv 3) (Za (ZF ZP (pv 4) (Zeh Zb9 Zh) (fun _ _=>rfl)) Ze)))
    (Zj (Za8 (ZK Zca (pv 5) ZaJ (Z0 _))
     (Zj (ZQ (ZbI PySem.F.plainAttrs_list PySem.F.slot_list_pop PySem.F.type_list_pop ZbL (pv 4))))
     (Zj (ZQ (ZaS PySem.F.plainAttrs_list PySem.F.slot_list_append PySem.F.type_list_append Zy (pv 4) (Za (Zx g_modes_within hr rfl (Za (pv 0) (Za (ZF ZP (pv 4) (Zeh Zb9 Zh) (fun _ _=>rfl)) (Za (pv 5) Ze)))) Ze))))))))
  (Zj (ZL (pv 3)))))),?_⟩
 refine⟨by decide,fun fo hfo=>?_⟩;refine fun d0 hd0=>⟨_,rfl,Zb,[(Sum.inl m0,.bl true)],rfl,(by show 1<=15;decide),(by show 1<=sizeLine;decide),fun rw_ hrw=>?_⟩;obtain⟨n0f,hd0'⟩:=Zk hd0;obtain⟨nr0,hrw1⟩:=Zk hrw;obtain⟨_,hrw2⟩:=Zk hrw1;obtain⟨nrf,hrw'⟩:=Zk hrw2;have s0:Zn H (upd (upd (upd (upd H fo (.lst [])) d0 (.dK [])) d0 (.dK (kvM [m0]))) rw_ (.lst [.ref d0])):=(((Zn.new hfo).upd_new hd0').upd_new hd0').upd_new hrw';have x1:(upd (upd (upd (upd H fo (.lst [])) d0 (.dK [])) d0 (.dK (kvM [m0]))) rw_ (.lst [.ref d0])) fo=some (.lst []):=by
  rw[Zc nrf.symm,Zc n0f.symm,Zc n0f.symm];exact Zb
 have x2:(upd (upd (upd (upd H fo (.lst [])) d0 (.dK [])) d0 (.dK (kvM [m0]))) rw_ (.lst [.ref d0])) d0=some (.dK (kvM [m0])):=by
  rw[Zc nr0.symm];exact Zb
 have x3:(upd (upd (upd (upd H fo (.lst [])) d0 (.dK [])) d0 (.dK (kvM [m0]))) rw_ (.lst [.ref d0])) rw_=some (.lst [.ref d0]):=Zb;change (upd (upd (upd (upd H fo (.lst [])) d0 (.dK [])) d0 (.dK (kvM [m0]))) rw_ (.lst [.ref d0])) rw_=_ at x3;show Znk _ _ _ _ (upd (upd (upd (upd H fo (.lst [])) d0 (.dK [])) d0 (.dK (kvM [m0]))) rw_ (.lst [.ref d0]));generalize upd (upd (upd (upd H fo (.lst [])) d0 (.dK [])) d0 (.dK (kvM [m0]))) rw_ (.lst [.ref d0])=H0 at s0 x1 x2 x3 ⊢;have hwl0:=s0 _ _ hwl;refine⟨_,rfl,wl,rfl,⟨_,SqL.of hwl0⟩,Zb0 (K:=K) (a:=wl) (xs:=(words SL G).map V.str) (fun i σ H1=>∃(v5:Option V)(zs rzs:List V)(st fos:List (List Int)),σ =[some (.ref dd),some (.ref wl),some (.int m0),some (.ref fo),some (.ref rw_),v5]/\Zn H H1/\H1 fo=some (.lst zs)/\MdL H H1 zs fos/\H1 rw_=some (.lst rzs)/\MdL H H1 rzs st.reverse/\((words SL G).take i).foldl (Zbj kn) ([[m0]],[])=(st,fos)/\st ≠ []/\Can SL (st.length-1) ((words SL G).drop i)/\fos.length<=i/\st.length<=i+1)
  ⟨none,[],[.ref d0],[[m0]],[],rfl,s0,x1,.nil,x3,.cons ⟨d0,rfl,x2,hd0'⟩ .nil,rfl,List.cons_ne_nil _ _,hcan,Nat.le_refl _,Nat.le_refl _⟩ ?_ ?_ ?_⟩
 ·rintro i σ H1 _ ⟨_,_,_,_,_,_,s1,_⟩;exact SqL.of (s1 _ _ hwl)
 ·rintro i x σ H1 hx ⟨v5,zs,rzs,st,fos,rfl,s1,hf1,mz,hr1,mr,he,hne,hcn,hfl,hsl⟩;rw[List.getElem?_map] at hx;obtain⟨wd,hw,rfl⟩:=Option.map_eq_some_iff.mp hx;have hil:=(List.getElem?_eq_some_iff.mp hw).1;have hval:=Zb1 kv ((words SL G).take i) [[m0]] [] (fun ms hm=>by
   rw[List.mem_singleton.mp hm];intro m hm;rw[List.mem_singleton.mp hm];exact⟨m00,m0n⟩)
  rw[he] at hval;cases st with
  | nil=>exact absurd rfl hne
  | cons top rs =>
   rw[List.reverse_cons] at mr;have hrl:rzs.length=rs.length+1:=by
    have:=Paired.length mr;rw[List.length_append,List.length_reverse,List.length_singleton] at this;exact this
   obtain⟨rzs',v,rfl⟩:=ZjB (show rzs ≠ [] from fun z=>by rw[z] at hrl;cases hrl);obtain⟨k',b',ek,mr',mv⟩:=Paired.unsnoc mr;obtain⟨e1,e2⟩:=List.append_inj' ek rfl;injection e2 with e2;subst e1 e2;have hzl:zs.length=fos.length:=Paired.length mz;have htk:((words SL G).take (i+1)).foldl (Zbj kn) ([[m0]],[])=Zbj kn (top::rs,fos) wd:=by
    rw[ZW hw,List.foldl_append,he];rfl
   have hdr:=ZbS hw;rw[hdr] at hcn;rw[List.length_append,List.length_singleton] at hrl;rw[List.length_cons] at hsl hcn;refine⟨_,rfl,.inl ⟨rfl,_,SqL.of hf1⟩,_,rfl,1,rfl,rw_,_,-1,v,rfl,rfl,SqL.of hr1,Zbm _ _,fo,_,_,rfl,rfl,hf1,Zv (by lia),?_⟩;have hr2:(upd H1 fo (.lst (zs ++ [v]))) rw_=some (.lst (rzs' ++ [v])):=by rw[Zc nrf];exact hr1
   have hf2:(upd H1 fo (.lst (zs ++ [v]))) fo=some (.lst (zs ++ [v])):=Zb;have s2:Zn H (upd H1 fo (.lst (zs ++ [v]))):=s1.upd_new hfo;have mz2:MdL H (upd H1 fo (.lst (zs ++ [v]))) (zs ++ [v]) (fos ++ [top]):=(show MdL H H1 (zs ++ [v]) (fos ++ [top]) from Paired.app mz (.cons mv .nil)).lst hf1;have mr2:MdL H (upd H1 fo (.lst (zs ++ [v]))) rzs' rs.reverse:=(show MdL H H1 rzs' rs.reverse from mr').lst hf1;have mv2:MdL H (upd H1 fo (.lst (zs ++ [v]))) [v] [top]:=(show MdL H H1 [v] [top] from .cons mv .nil).lst hf1;generalize upd H1 fo (.lst (zs ++ [v]))=H2 at hr2 hf2 s2 mz2 mr2 mv2 ⊢;refine⟨_,rfl,rfl,_,rfl,Zew (fun c=>?_) (fun c=>?_)⟩
   ·have e:wd=SL:=by
     have:=of_decide_eq_true c;injection this
    subst e;obtain⟨hpos,hc'⟩:=ZcL.mp hcn;refine⟨_,rfl,.inl ⟨rfl,_,SqL.of hr2⟩,rw_,_,_,rfl,rfl,hr2,Zay _ _,?_⟩;rw[Zav];refine⟨_,zs ++ [v],rzs',rs,fos ++ [top],rfl,s2.upd_new hrw',by rw[Zc nrf.symm];exact hf2,mz2.lst hr2,Zb,mr2.lst hr2,?_,?_,?_,?_,?_⟩
    ·rw[htk,Zbj,if_pos rfl]
    ·intro z;rw[z] at hpos;exact absurd hpos (by decide)
    ·rw[show rs.length+1-1-1=rs.length-1 by lia] at hc';exact hc'
    ·rw[List.length_append,List.length_singleton];lia
    ·lia
   ·have e:wd≠SL:=fun z=>c (by rw[z];exact decide_eq_true rfl);have hc':=(ZcS e).mp hcn;cases mv2 with
    | cons mv2 _ =>
     obtain⟨dt,rfl,hdt,hdt0⟩:=mv2;refine⟨_,rfl,.inl ⟨rfl,_,SqL.of hr2⟩,_,rfl,_,rfl,1,rfl,rw_,_,-1,_,rfl,rfl,SqL.of hr2,Zbm _ _,_,rfl,dd,dt,wd,m,kn,n,top,rfl,s2 _ _ hdd,hkn.tk s2.tk,kv,hn,hdt,hval top (List.mem_cons_self ..),fun r H3 s3 hr0 hr3=>?_⟩;have hr3':=s3 _ _ hr2;refine⟨rw_,_,_,rfl,rfl,hr3',Zv (by rw[List.length_append,List.length_singleton];lia),?_⟩;have s4:Zn H (upd H3 rw_ (.lst (rzs' ++ [.ref dt] ++ [.ref r]))):=(s2.trans s3).upd_new hrw';refine⟨_,zs ++ [.ref dt],rzs' ++ [.ref dt] ++ [.ref r],ZeE kn wd top::top::rs,fos ++ [top],rfl,s4,?_,(mz2.same s3).lst hr3',Zb,?_,?_,List.cons_ne_nil _ _,?_,?_,?_⟩
     ·rw[Zc nrf.symm];exact s3 _ _ hf2
     ·rw[List.reverse_cons,List.reverse_cons];refine MdL.lst hr3' ?_;exact Paired.app (Paired.app (mr2.same s3) (.cons ⟨dt,rfl,s3 _ _ hdt,hdt0⟩ .nil)) (.cons ⟨r,rfl,hr3,s2.free hr0⟩ .nil)
     ·rw[htk,Zbj,if_neg e]
     ·exact hc'
     ·rw[List.length_append,List.length_singleton];lia
     ·rw[List.length_cons,List.length_cons];lia
 ·rintro σ H1 ⟨v5,zs,rzs,st,fos,rfl,s1,hf1,mz,hr1,mr,he,hne,hcn,hfl,hsl⟩;rw[List.length_map,List.take_length,ZbO kn G _ _ _ hc] at he;injection he with e1 e2;subst e2;exact⟨_,rfl,qq fo zs H1 s1 hfo hf1 mz⟩
def Zid{D:Type}(S:Sns D):Sp:=fun vs H Q _=>∃a:Addr,vs=[.ref a]/\∀(v:V)(H':Hp),Zn H H'->S.R H' v S.no->Q v H'
def Zih{D:Type}(S:Sns D):Sp:=fun vs H Q _=>∃(a:Addr)(t:Str)(v:V)(d:D),vs=[.ref a,.str t,v]/\S.R H v d/\S.Ok (S.tr t d)/\∀(v':V)(H':Hp),Zn H H'->S.R H' v' (S.tr t d)->Q v' H'
def Zh1{D:Type}(S:Sns D):Sp:=fun vs H Q _=>∃(a:Addr)(v u:V)(d e:D),vs=[.ref a,v,u]/\S.R H v d/\S.R H u e/\S.Ok (S.bs d e)/\∀(v':V)(H':Hp),Zn H H'->S.R H' v' (S.bs d e)->Q v' H'
theorem ZcP{C_Bounds:Addr}(B:∀x∈ZbN,mg x=none)(c_Bounds:SnC K C_Bounds)(F:Fun K "nothing" "Bounds.nothing" Zab f fd):FnOk P w K mg base CX0 1 f fd ["self"] (Zid snB):=by
 refine F.ok ZcI (fun vs H Q E h=>?_) (fun cdv A outer s H vs Q E hr h=>?_)
 ·obtain⟨a,rfl,_⟩:=h;rfl
 obtain⟨a,rfl,q⟩:=h;refine⟨_,(Zj (ZL (Z1 (Za Zh (Za Zh Ze))))),?_⟩;exact⟨(by show 2<=sizeLine;decide),fun p hp=>q _ _ (Zn.new hp) ⟨p,rfl,Zb⟩⟩
theorem Zeg{C_Bounds:Addr}(B:∀x∈ZbN,mg x=none)(c_Bounds:SnC K C_Bounds)(F:Fun K "tree" "Bounds.tree" ZaD f fd):FnOk P w K mg base CX0 1 f fd ["self","tag","within"] (Zih snB):=by
 refine F.ok Zek (fun vs H Q E h=>?_) (fun cdv A outer s H vs Q E hr h=>?_)
 ·obtain⟨a,t,v,d,rfl,_⟩:=h;rfl
 obtain⟨a,t,v,d,rfl,⟨b,rfl,hb⟩,_,q⟩:=h;refine⟨_,(Zj (ZL (Z1 (Za (Zr ZaN Zh (ZF Z3 (pv 2) Zh (fun _ _=>rfl))) (Za (Zr ZaN Zh (ZF Z3 (pv 2) Zh (fun _ _=>rfl))) Ze))))),?_⟩;refine⟨_,rfl,b,_,0,_,rfl,rfl,SqT.of hb,rfl,_,_,rfl,rfl,_,rfl,b,_,1,_,rfl,rfl,SqT.of hb,rfl,_,_,rfl,rfl,(by show 2<=sizeLine;decide),fun p hp=>q _ _ (Zn.new hp) ⟨p,rfl,?_⟩⟩;rw[Zb];show some (HO.tup [.int (1+(d.1:Int)),.int (1+(d.2:Int))])=some (HO.tup [.int ((1+d.1:Nat):Int),.int ((1+d.2:Nat):Int)]);rw[show((1+d.1:Nat):Int)=1+(d.1:Int) by lia,show((1+d.2:Nat):Int)=1+(d.2:Int) by lia]
theorem Zdc{C_Bounds:Addr}(B:∀x∈ZbN,mg x=none)(c_Bounds:SnC K C_Bounds)(F:Fun K "beside" "Bounds.beside" Zak f fd):FnOk P w K mg base CX0 1 f fd ["self","one","other"] (Zh1 snB):=by
 refine F.ok Zc3 (fun vs H Q E h=>?_) (fun cdv A outer s H vs Q E hr h=>?_)
 ·obtain⟨a,v,u,d,e,rfl,_⟩:=h;rfl
 obtain⟨a,v,u,d,e,rfl,⟨b,rfl,hb⟩,⟨c,rfl,hc⟩,_,q⟩:=h;refine⟨_,(Zj (ZL (Z1 (Za (Zr ZaN (ZF Z3 (pv 1) Zh (fun _ _=>rfl)) (ZF Z3 (pv 2) Zh (fun _ _=>rfl))) (Za (Zaj (Zjo rfl) rfl (B "max" (by decide)) Zl8 (Za (ZF Z3 (pv 1) Zh (fun _ _=>rfl)) (Za (ZF Z3 (pv 2) Zh (fun _ _=>rfl)) Ze))) Ze))))),?_⟩;refine⟨_,rfl,b,_,0,_,rfl,rfl,SqT.of hb,rfl,_,rfl,c,_,0,_,rfl,rfl,SqT.of hc,rfl,_,_,rfl,rfl,?_⟩;refine⟨_,rfl,b,_,1,_,rfl,rfl,SqT.of hb,rfl,_,rfl,c,_,1,_,rfl,rfl,SqT.of hc,rfl,_,_,rfl,(by show 2<=sizeLine;decide),fun p hp=>q _ _ (Zn.new hp) ⟨p,rfl,?_⟩⟩;rw[Zb];have e1:((d.1+e.1:Nat):Int)=(d.1:Int)+(e.1:Int):=by lia
 have e2:((max d.2 e.2:Nat):Int)=if(e.2:Int) > (d.2:Int) then(e.2:Int) else(d.2:Int):=by split <;> lia
 show _=some (HO.tup [.int ((d.1+e.1:Nat):Int),.int ((max d.2 e.2:Nat):Int)]);rw[e1,e2]
theorem ZcM{C_Groves:Addr}(B:∀x∈ZbN,mg x=none)(c_Groves:SnC K C_Groves)(F:Fun K "nothing" "Groves.nothing" Zad f fd):FnOk P w K mg base CX0 1 f fd ["self"] (Zid (snG 2000)):=by
 refine F.ok ZcN (fun vs H Q E h=>?_) (fun cdv A outer s H vs Q E hr h=>?_)
 ·obtain⟨a,rfl,_⟩:=h;rfl
 obtain⟨a,rfl,q⟩:=h;refine⟨_,(Zj (ZL (Z1 Ze))),?_⟩;exact⟨by decide,fun p hp=>q _ _ (Zn.new hp) ⟨p,[],rfl,Zb,.nil⟩⟩
theorem Zem{C_Groves:Addr}(B:∀x∈ZbN,mg x=none)(c_Groves:SnC K C_Groves)(F:Fun K "tree" "Groves.tree" ZaB f fd):FnOk P w K mg base CX0 1 f fd ["self","tag","within"] (Zih (snG 2000)):=by
 refine F.ok Zel (fun vs H Q E h=>?_) (fun cdv A outer s H vs Q E hr h=>?_)
 ·obtain⟨a,t,v,d,rfl,_⟩:=h;rfl
 obtain⟨a,t,v,d,rfl,⟨b,xs,rfl,hb,rp⟩,_,q⟩:=h;refine⟨_,(Zj (ZL (Z1 (Za (Z1 (Za (pv 1) (Za (pv 2) Ze))) Ze)))),?_⟩;refine⟨_,rfl,_,rfl,(by show 2<=sizeLine;decide),fun p hp=>⟨(by show 1<=sizeLine;decide),fun p2 hp2=>?_⟩⟩;have s1:=Zn.new (o:=.tup [.str t,.ref b]) hp;have s2:=Zn.new (o:=.tup [.ref p]) hp2;have s12:=s1.trans s2;exact q _ _ s12 ⟨p2,[.ref p],rfl,Zb,.cons (s2 _ _ Zb) (s12 _ _ hb) (rp.mono s12.tk) .nil⟩
theorem Zdd{C_Groves:Addr}(B:∀x∈ZbN,mg x=none)(c_Groves:SnC K C_Groves)(F:Fun K "beside" "Groves.beside" Zam f fd):FnOk P w K mg base CX0 1 f fd ["self","one","other"] (Zh1 (snG 2000)):=by
 refine F.ok Zc7 (fun vs H Q E h=>?_) (fun cdv A outer s H vs Q E hr h=>?_)
 ·obtain⟨a,v,u,d,e,rfl,_⟩:=h;rfl
 obtain⟨a,v,u,d,e,rfl,⟨b,xs,rfl,hb,r1⟩,⟨c,ys,rfl,hc,r2⟩,ok,q⟩:=h;have ok:gsz (ZaK d e)<=2000:=ok;rw[Zbn] at ok;have l1:=r1.length;have l2:=r2.length;rw[ZR] at l1 l2;refine⟨_,(Zj (ZL (Zr ZdC (pv 1) (pv 2)))),?_⟩;refine⟨_,rfl,_,rfl,b,c,xs,ys,rfl,rfl,hb,hc,Zao (by lia),fun p H' s' hp=>q _ _ s' ⟨p,_,rfl,hp,RepG.ZaK (r1.mono s'.tk) (r2.mono s'.tk)⟩⟩
def Pa.dropP:Nat->Pa->Pa
 | 0,p=>p
 | _+1,.nil=>.nil
 | i+1,.kids _ o=>Pa.dropP i o
 | i+1,.tag _ _ o=>Pa.dropP i o
theorem Zb5:∀(i:Nat)(p:Pa),(p.take i).app (Pa.dropP i p)=p
 | 0,_=>rfl
 | _+1,.nil=>rfl
 | i+1,.kids m o=>by show Pa.kids m ((o.take i).app (Pa.dropP i o))=_;rw[Zb5 i o]
 | i+1,.tag t w o=>by show Pa.tag t w ((o.take i).app (Pa.dropP i o))=_;rw[Zb5 i o]
def ZhR{D:Type}(S:Sns D)(C:Addr)(d:Nat):Sp:=fun vs H Q _=>∃(q kd se dx:Addr)(ys:List V)(p:Pa)(kvs:List (Key×V))(f:Int->D),vs=[.ref q,.ref kd,.ref se]/\H q=some (.tup ys)/\RepP H ys p/\p.dep<d/\H kd=some (.dK kvs)/\(∀m∈p.ks,∃v,Zbe kvs (Sum.inl m)=some v/\S.R H v (f m))/\H se=some (.ins C dx [])/\S.Ok (Zz S f p) /\
 ∀(v:V)(H':Hp),Zn H H'->S.R H' v (Zz S f p)->Q v H'
theorem Zni{D:Type}{S:Sns D}{C:Addr}{vs:List V}{H:Hp}{Q:VK}{E:XK}(z:ZhR S C 0 vs H Q E):False:=by
 obtain⟨_,_,_,_,_,_,_,_,_,_,_,hd,_⟩:=z;exact absurd hd (Nat.not_lt_zero _)
set_option maxHeartbeats 2000000 in
theorem ZbJ{D:Type}(S:Sns D){C:Addr}(d:Nat)(B:∀x∈ZbN,mg x=none)(c_Sense:Cls K C)(g_Sense_nothing:HasM P w K mg base C "nothing" ["self"] 1 (Zid S)) (g_Sense_tree:HasM P w K mg base C "tree" ["self","tag","within"] 1 (Zih S)) (g_Sense_beside:HasM P w K mg base C "beside" ["self","one","other"] 1 (Zh1 S))
  (g_come_of_parts:Has P w K mg base "come_of_parts" ["parts","kids","sense"] (d+1) (ZhR S C d)) (F:Fun K "come_of_parts" "come_of_parts" Z6 f fd):FnOk P w K mg base CX0 (d+2) f fd ["parts","kids","sense"] (ZhR S C (d+1)):=by
 refine F.ok Zae (fun vs H Q E h=>?_) (fun cdv A outer s H vs Q E hr h=>?_)
 ·obtain⟨q,kd,se,dx,ys,p,kvs,f,rfl,_⟩:=h;rfl
 obtain⟨q,kd,se,dx,ys,p,kvs,fk,rfl,hq,hP,hd,hkd,hks,hse,hok,qq⟩:=h;have hu1:(A.deeper (PyProof.Rows.envOfC (Str.ofString "come_of_parts") (Zg Z6) s.heap.objs.size f cdv)).units+1<cLine:=by have:=hr.un;lia
 refine⟨_,(Zd (Zm (i:=3) Zae.nd rfl (Or.inl rfl) (Zdf g_Sense_nothing hr (pv 2) c_Sense (by lia)))
  (Zd (ZaP PassesOwn.never rfl (Zc0 (pv 0)) (ZD (i:=4) Zae.nd rfl (Or.inl rfl))
   (Zd (Za8 (ZK Zca (ZF Z3 (pv 4) Zh (fun _ _=>rfl)) ZaJ (Z0 _))
     (Zj (Zm (i:=5) Zae.nd rfl (Or.inl rfl) (ZcE hu1 (pv 1) (ZF Z3 (pv 4) Zh (fun _ _=>rfl)) (fun _ _=>rfl))))
     (Zj (Zm (i:=5) Zae.nd rfl (Or.inl rfl) (ZcU g_Sense_tree hr (pv 2) c_Sense (Za (ZF Z3 (pv 4) Zh (fun _ _=>rfl)) (Za (Zx g_come_of_parts hr rfl (Za (ZF Z3 (pv 4) Zh (fun _ _=>rfl)) (Za (pv 1) (Za (pv 2) Ze))) (by lia)) Ze)) (by lia)))))
    (Zj (Zm (i:=3) Zae.nd rfl (Or.inl rfl) (ZcU g_Sense_beside hr (pv 2) c_Sense (Za (pv 3) (Za (pv 5) Ze)) (by lia))))))
  (Zj (ZL (pv 3))))),?_⟩
 refine⟨_,rfl,se,dx,[],rfl,hse,rfl,se,rfl,fun v0 H0 s0 r0=>?_⟩;refine⟨_,rfl,q,rfl,⟨_,SqT.of (s0 _ _ hq)⟩,ZcB (K:=K) (a:=q) (xs:=ys) (fun i σ H1=>∃(v:V)(v4 v5:Option V),σ =[some (.ref q),some (.ref kd),some (.ref se),some v,v4,v5]/\Zn H H1/\S.R H1 v (Zz S fk (p.take i)))
  ⟨v0,none,none,rfl,s0,r0⟩ ?_ ?_ ?_⟩
 ·rintro i σ H1 _ ⟨_,_,_,_,s1,_⟩;exact SqT.of (s1 _ _ hq)
 ·rintro i x σ H1 hx ⟨v,v4,v5,rfl,s1,rv⟩;obtain⟨a,rfl,ha⟩:=hP.at i x hx;have okT:S.Ok (Zz S fk (p.take (i+1))):=by
   rw[<- Zb5 (i+1) p,ZaT] at hok;exact S.okl hok
  have ksT:∀m∈(p.take (i+1)).ks,m∈p.ks:=fun m hm=>by
   rw[<- Zb5 (i+1) p,Pa.Zd7];exact List.mem_append_left _ hm
  rcases ha with⟨m,h1,h2⟩|⟨t,q',ys',w',h1,h2,h3,h4,h5,h6⟩
  ·have h1':=s1 _ _ h1;rw[h2,Pa.Zd7] at ksT;rw[h2,ZaT] at okT;obtain⟨u,hu,ru⟩:=hks m (ksT m (List.mem_append_right _ (List.mem_cons_self ..)));have eC:Zz S fk (Pa.kids m .nil)=fk m:=S.bs_no _;rw[eC] at okT;have hg:=Zee.k (k:=Sum.inl m) (s1 _ _ hkd);rw[hu] at hg;refine⟨_,rfl,a,_,0,_,rfl,rfl,SqT.of h1',rfl,rfl,_,rfl,Zhj ?_⟩;refine⟨_,rfl,_,rfl,a,_,1,_,rfl,rfl,SqT.of h1',rfl,kd,_,rfl,hg,?_⟩;refine⟨_,rfl,se,dx,[],rfl,s1 _ _ hse,rfl,_,rfl,_,rfl,se,v,u,_,_,rfl,rv,S.mono s1.tk ru,okT,fun v' H2 s2 r2=>?_⟩;refine⟨v',_,_,rfl,s1.trans s2,?_⟩;rw[h2,ZaT,eC];exact r2
  ·have h1':=s1 _ _ h1;rw[h4,Pa.Zd7] at ksT;rw[h4,ZaT] at okT;have eC:Zz S fk (Pa.tag t w' .nil)=S.tr t (Zz S fk w'):=S.bs_no _;rw[eC] at okT;refine⟨_,rfl,a,_,0,_,rfl,rfl,SqT.of h1',rfl,rfl,_,rfl,Zdt ?_⟩;refine⟨_,rfl,se,dx,[],rfl,s1 _ _ hse,rfl,_,rfl,a,_,1,_,rfl,rfl,SqT.of h1',rfl,_,rfl,a,_,2,_,rfl,rfl,SqT.of h1',rfl,_,rfl,_,rfl,q',kd,se,dx,ys',w',kvs,fk,rfl,s1 _ _ h2,h3.mono s1.tk,by lia,s1 _ _ hkd,fun m hm=>?_,s1 _ _ hse,S.okt (S.okr okT),fun u H2 s2 ru=>?_⟩
   ·obtain⟨u,hu,ru⟩:=hks m (ksT m (List.mem_append_right _ (by show m∈w'.ks ++ [];rw[List.append_nil];exact hm)));exact⟨u,hu,S.mono s1.tk ru⟩
   have s12:=s1.trans s2;refine⟨se,t,u,_,rfl,ru,S.okr okT,fun u' H3 s3 ru'=>?_⟩;have s13:=s12.trans s3;refine⟨_,rfl,se,dx,[],rfl,s13 _ _ hse,rfl,_,rfl,_,rfl,se,v,u',_,_,rfl,S.mono (s2.trans s3).tk rv,ru',okT,fun v' H4 s4 r4=>?_⟩;refine⟨v',_,_,rfl,s13.trans s4,?_⟩;rw[h4,ZaT,eC];exact r4
 ·rintro σ H1 ⟨v,v4,v5,rfl,s1,rv⟩;rw[hP.take_all] at rv;exact⟨_,rfl,qq v H1 s1 rv⟩
theorem ZiQ{g:Gr Str}(hc:ZbG SL g):(cst (words SL g) (words SL g).length).2=prs 0 g:=by
 have:=ZdN g (words SL g) 0 hc fun j _=>by rw[Nat.zero_add]
 rw[Nat.zero_add] at this;rw[ZR,this];rfl
theorem Ze1{g:Gr Str}(hc:ZbG SL g):Can SL 0 (words SL g):=by
 have:=Zcj (n:=0) (ws:=[]) hc rfl
 rwa [List.append_nil] at this
theorem Zl5{g:Gr Str}(hc:ZbG SL g):((prs 0 g).map (·.1)).Nodup:=by
 have:=(ZiH (Ze1 hc) _ (Nat.le_refl _)).nd;rw[ZiQ hc] at this;exact(List.nodup_append.mp this).2.1
theorem Zga:∀(g:Gr Str)(k:Nat),(prs k g).length=gsz g
 | .nil,_=>rfl
 | .cons t w o,k=>by
  show(prs (k+1) w++(k,k+1+2*gsz w)::prs (k+2+2*gsz w) o).length=1+gsz w+gsz o;rw[List.length_append,List.length_cons,Zga w,Zga o];lia
theorem Zfj:∀(kvs m:List (Key×V)),((m++kvs).map (·.1)).Nodup->kvs.foldl (fun m kv=>putK m kv.1 kv.2) m=m++kvs
 | [],m,_=>(List.append_nil m).symm
 | kv::kvs,m,h=>by
  have h1:Zbe m kv.1=none:=by
   rw[<- Option.not_isSome_iff_eq_none,<- Zbl,List.any_eq_true];rintro⟨x,hx,e⟩;have e':=of_decide_eq_true e;rw[List.map_append,List.nodup_append] at h;exact h.2.2 x.1 (List.mem_map.mpr ⟨x,hx,rfl⟩) kv.1 (by rw[List.map_cons];exact List.mem_cons_self ..) e'
  rw[List.foldl_cons,Ze7 _ h1,Zfj kvs (m ++ [(kv.1,kv.2)]) (by rw[List.append_assoc];exact h),List.append_assoc];rfl
theorem Zfw:∀{kvs:List (Key×V)}{k:Key}{v:V},Zbe kvs k=some v->(k,v)∈kvs
 | [],k,v,h=>by cases h
 | p::r,k,v,h=>by
  by_cases e:p.1=k
  ·rw[ZaC e] at h;injection h with h;rw[<- e,<- h];exact List.mem_cons_self ..
  ·rw[Zar e] at h;exact List.mem_cons_of_mem _ (Zfw h)
theorem ZjX{kvs:List (Key×V)}{k:Key}(h:k∈kvs.map (·.1)):∃v,Zbe kvs k=some v:=by
 cases e:Zbe kvs k with
 | none=>exact absurd h (Zky e)
 | some v=>exact⟨v,rfl⟩
def ChC(H:Hp)(c:Addr)(n:Int)(rs:List (Int×Str×Pa)):Prop := ∃rt zs,H c=some (.tup [.int n,.ref rt])/\H rt=some (.tup zs)/\RlL H zs rs/\rs.length<=100/\∀r∈rs,r.2.2.sz<=20/\∀k∈r.2.2.ks,0<=k/\k<n
theorem ChC.tk{H H':Hp}{c:Addr}{n:Int}{rs:List (Int×Str×Pa)}(h:ChC H c n rs)(k:TK H H'):ChC H' c n rs:=by
 obtain⟨rt,zs,h1,h2,h3,h4⟩:=h;exact⟨rt,zs,k _ _ h1,k _ _ h2,h3.tk k,h4⟩
theorem ChC.chr{H:Hp}{c:Addr}{n:Int}{rs:List (Int×Str×Pa)}(h:ChC H c n rs):ChR H c rs:=by
 obtain⟨rt,zs,h1,h2,h3,h4,h5⟩:=h;exact⟨n,rt,zs,h1,h2,h3,h4,fun r hr=>(h5 r hr).1⟩
theorem Zcg:∀(rs:List (Int×Str×Pa))(f:Kn)(i:Int)(t:Str)(p:Pa),rs.foldl Zcf f i t=some p->f i t=some p\/∃r∈rs,r.2.2=p
 | [],_,_,_,_,h=>.inl h
 | r::rs,f,i,t,p,h=>by
  rcases Zcg rs (Zcf f r) i t p h with h|⟨r',h1,h2⟩
  ·unfold Zcf at h
   split at h
   ·injection h with h;exact .inr ⟨r,List.mem_cons_self ..,h⟩
   ·exact .inl h
  ·exact .inr ⟨r',List.mem_cons_of_mem _ h1,h2⟩
theorem ChC.knv{H:Hp}{c:Addr}{n:Int}{rs:List (Int×Str×Pa)}(h:ChC H c n rs):KnV (Zaf rs) n:=by
 obtain⟨rt,zs,h1,h2,h3,h4,h5⟩:=h;refine⟨fun i t p e=>?_,fun i t p e=>?_⟩
 ·rcases Zcg rs _ i t p e with h|⟨r,g1,rfl⟩
  ·cases h
  ·exact(h5 r g1).1
 ·rcases Zcg rs _ i t p e with h|⟨r,g1,rfl⟩
  ·cases h
  ·exact(h5 r g1).2
def ZiX{D:Type}(S:Sns D)(C:Addr):Sp:=fun vs H Q _=>∃(ch wl se dx:Addr)(m0 n:Int)(rs:List (Int×Str×Pa))(G:Gr Str),vs=[.ref ch,.ref wl,.int m0,.ref se]/\ChC H ch n rs/\n<=100/\0<=m0/\m0<n/\H wl=some (.lst ((words SL G).map V.str))/\ZbG SL G/\gsz G<=60/\H se=some (.ins C dx [])/\S.Ok (chS S (Zaf rs) G m0) /\
 ∀(v:V)(H':Hp),Zn H H'->S.R H' v (chS S (Zaf rs) G m0)->Q v H'
def NoL{D:Type}(S:Sns D)(H:Hp)(us:List V)(i:Nat):Prop := ∃kvs:List (Key×V),Paired (fun(y:V)(kv:Key×V)=>∃t,y=V.ref t/\H t=some (.tup [kV kv.1,kv.2])) us kvs/\kvs.map (·.1)=(List.range i).map (fun j:Nat=>(Sum.inl (j:Int):Key))/\∀kv∈kvs,S.R H kv.2 S.no
theorem Zha{H H':Hp}(k:TK H H'):∀{us:List V}{kvs:List (Key×V)},Paired (fun(y:V)(kv:Key×V)=>∃t,y=V.ref t/\H t=some (.tup [kV kv.1,kv.2])) us kvs->Paired (fun(y:V)(kv:Key×V)=>∃t,y=V.ref t/\H' t=some (.tup [kV kv.1,kv.2])) us kvs
 | _,_,.nil=>.nil
 | _,_,.cons ⟨t,e,h⟩ r=>.cons ⟨t,e,k _ _ h⟩ (Zha k r)
def TlQ{D:Type}(S:Sns D)(kn:Kn)(n:Int)(G:Gr Str)(Mx:List (List Int))(H3 H:Hp)(z:V)(q:Nat):Prop := ∃(dq:Addr)(kvs:List (Key×V)),z=V.ref dq/\H dq=some (.dK kvs)/\H3 dq=none/\∀m,0<=m->m<n->(q∈(prs 0 G).map (·.1)->∃ms,Mx[q]?= some ms/\m∈ms)->∃v,Zbe kvs (Sum.inl m)=some v/\S.R H v (chS S kn (atG G q) m)
theorem TlQ.keep{D:Type}{S:Sns D}{kn:Kn}{n:Int}{G:Gr Str}{Mx:List (List Int)}{H3 H H':Hp}{z:V}{q:Nat}{ex:List Addr}(h:TlQ S kn n G Mx H3 H z q)(k:Zbw ex H H')(tk:TK H H')(hx:∀b∈ex,∀kvs,H b≠some (.dK kvs)\/H3 b≠none):TlQ S kn n G Mx H3 H' z q:=by
 obtain⟨dq,kvs,e,h1,h2,h3⟩:=h;refine⟨dq,kvs,e,k _ _ (fun z=>?_) h1,h2,fun m a b c=>?_⟩
 ·rcases hx dq z kvs with h|h
  ·exact h h1
  ·exact h h2
 ·obtain⟨v,g1,g2⟩:=h3 m a b c;exact⟨v,g1,S.mono tk g2⟩
theorem Zf8{ps:List Int}(hf:ps.Pairwise (· > ·)){i j:Nat}{a b:Int}(h1:ps[i]?= some a)(h2:ps[j]?= some b)(h:a<b):j<i:=by
 obtain⟨l1,e1⟩:=List.getElem?_eq_some_iff.mp h1;obtain⟨l2,e2⟩:=List.getElem?_eq_some_iff.mp h2;rcases Nat.lt_trichotomy j i with z|z|z
 ·exact z
 ·subst z;rw[e1] at e2;lia
 ·have:=List.pairwise_iff_getElem.mp hf i j l1 l2 z;rw[e1,e2] at this;lia
theorem ZgE(kn:Kn):∀(g:Gr Str)(ms:List Int),ms.Nodup->∀x∈Zds kn ms g,x.Nodup
 | .nil,_,_,_,h=>nomatch h
 | .cons t w o,ms,hm,x,h=>by
  rcases List.mem_cons.mp h with rfl|h
  ·exact hm
  ·rcases List.mem_append.mp h with h|h
   ·exact ZgE kn w _ Zjw x h
   ·rcases List.mem_cons.mp h with rfl|h
    ·exact Zjw
    ·exact ZgE kn o ms hm x h
theorem ZlW{k p:Nat}(h:p<k):ixN k (p:Int)=some p:=by
 unfold ixN;rw[if_pos (by lia),if_pos (by lia)];rfl
theorem Zes{α β : Type}{F : α -> β -> Prop}:∀{l:List α}{k:List β},Paired F l k->∀(i:Nat)(y : β),k[i]?= some y->∃x,l[i]?= some x/\F x y
 | _,_,.cons h _,0,y,e=>⟨_,rfl,by injection e with e;subst e;exact h⟩
 | _,_,.cons _ t,i+1,y,e=>Zes t i y e
set_option maxHeartbeats 4000000 in
theorem Zeu{D:Type}(S:Sns D){C:Addr}(B:∀x∈ZbN,mg x=none)(c_Sense:Cls K C)(g_Sense_nothing:HasM P w K mg base C "nothing" ["self"] 1 (Zid S)) (g_Sense_beside:HasM P w K mg base C "beside" ["self","one","other"] 1 (Zh1 S))
  (g_parts_by_rule:Has P w K mg base "parts_by_rule" ["changer"] 1 Zdi) (g_modes_at:Has P w K mg base "modes_at" ["known","words","mode"] 24 ZlN) (g_closings:Has P w K mg base "closings" ["words"] 1 (Zf5 K)) (g_come_of_parts:Has P w K mg base "come_of_parts" ["parts","kids","sense"] 24 (ZhR S C 23)) (g_parts_for:Has P w K mg base "parts_for" ["known","mode","tag"] 1 Zby)
  (F:Fun K "come_of" "come_of" ZM f fd):FnOk P w K mg base CX0 25 f fd ["changer","words","mode","sense"] (ZiX S C):=by
 refine F.ok Zap (fun vs H Q E h=>?_) (fun cdv A outer s H vs Q E hr h=>?_)
 ·obtain⟨ch,wl,se,dx,m0,n,rs,G,rfl,_⟩:=h;rfl
 obtain⟨ch,wl,se,dx,m0,n,rs,G,rfl,hch,hn,m00,m0n,hwl,hc,hz,hse,hok,qq⟩:=h;have hu1:(A.deeper (PyProof.Rows.envOfC (Str.ofString "come_of") (Zg ZM) s.heap.objs.size f cdv)).units+1<cLine:=by have:=hr.un;lia
 have hwz:=ZR G;have kv:=hch.knv;have hnd:=Zl5 hc;refine Zu ((Zf ZM).drop 5) (Zj (ZL (ZcE hu1 (ZF ZP (pv 7) Zh (fun _ _=>rfl)) (pv 2) (fun _ _=>rfl)))) (fun u5 h5 e5=>?_);refine Zu ((ZZ ((Zf ZM).getD 4 (.Pass ⟨0,0,0,0⟩))).drop 3) (Zj (ZjM (pv 10) (Zi7 (pv 7) (pv 8) set_list))) (fun u4_3 h4_3 e4_3=>?_);refine Zu ((ZZ ((ZZ ((Zf ZM).getD 4 (.Pass ⟨0,0,0,0⟩))).getD 2 (.Pass ⟨0,0,0,0⟩))).drop 1) (Zj (ZeK hu1 (pv 10) (pv 11) (ZcU g_Sense_beside hr (pv 3) c_Sense (Za (pv 12) (Za (ZcE hu1 (pv 9) (pv 11) (fun _ _=>rfl)) Ze))) rfl)) (fun u4_2_1 h4_2_1 e4_2_1=>?_);refine Zu ((ZZ ((ZZ ((Zf ZM).getD 4 (.Pass ⟨0,0,0,0⟩))).getD 2 (.Pass ⟨0,0,0,0⟩))).drop 0) (Zd (Zm (i:=12) Zap.nd rfl (Or.inl rfl) (Zx g_come_of_parts hr rfl (Za (Zx g_parts_for hr rfl (Za (pv 4) (Za (pv 11) (Za (ZF ZP (pv 1) (pv 8) (fun _ _=>rfl)) Ze)))) (Za (ZF ZP (pv 7) (Zr ZaN (pv 8) Zh) (fun _ _=>rfl)) (Za (pv 3) Ze))))) h4_2_1) (fun u4_2_0 h4_2_0 e4_2_0=>?_);refine Zu ((ZZ ((Zf ZM).getD 4 (.Pass ⟨0,0,0,0⟩))).drop 2) (Zd (ZiM (ZaP PassesOwn.never rfl (Zjq (ZF ZP (pv 5) (pv 8) (fun _ _=>rfl))) (ZD (i:=11) Zap.nd rfl (Or.inl rfl))
   h4_2_0)) h4_3) (fun u4_2 h4_2 e4_2=>?_)
 refine Zu ((ZZ ((Zf ZM).getD 4 (.Pass ⟨0,0,0,0⟩))).drop 1) (Zd (Zm (i:=10) Zap.nd rfl (Or.inl rfl) ZeT) h4_2) (fun u4_1 h4_1 e4_1=>?_);refine Zu ((ZZ ((Zf ZM).getD 4 (.Pass ⟨0,0,0,0⟩))).drop 0) (Zd (Zm (i:=9) Zap.nd rfl (Or.inl rfl) (ZF ZP (pv 7) (Zr ZaN (ZcE hu1 (pv 6) (pv 8) (fun _ _=>rfl)) Zh) (fun _ _=>rfl))) h4_1) (fun u4_0 h4_0 e4_0=>?_);refine Zu ((Zf ZM).drop 4) (Zd (ZaP PassesOwn.never rfl (ZbT (ZeR rfl rfl (B "sorted" (by decide)) (Za (pv 6) Ze) Zh4)) (ZD (i:=8) Zap.nd rfl (Or.inl rfl))
   h4_0) h5) (fun u4 h4 e4=>?_)
 refine Zu ((Zf ZM).drop 3) (Zd (Zm (i:=7) Zap.nd rfl (Or.inl rfl) (Zr ZlR (Zaa (Za (Zaw (Zec rfl) rfl (B "dict" (by decide)) ZiV (Za (Zff (cl:=_) ["each"] [("sense",3)] (Zbt rfl (B "range" (by decide)) (Za (ZF Z3 (pv 0) Zh (fun _ _=>rfl)) Ze)) (fun _ _ _ _=>(ZD (i:=0) (show List.Nodup (["each","sense"]:List Str) by decide) rfl (Or.inl rfl))) (fun _ _ _ _=>(Z1 (Za (pv 0) (Za (Zdf g_Sense_nothing hr (pv 1) c_Sense) Ze)))) rfl rfl (by decide) rfl (by decide) (ZjE (by(repeat' first|exact List.forall_mem_nil _|refine List.forall_mem_cons.mpr ⟨?_,?_⟩) <;> rfl)) (ZgG (by(repeat' first|exact List.forall_mem_nil _|refine List.forall_mem_cons.mpr ⟨?_,?_⟩) <;> first|(intro h;exact⟨_,rfl⟩)|(intro h;exact absurd h (by decide)))) (fun _=>by(repeat' first|exact List.forall_mem_nil _|refine List.forall_mem_cons.mpr ⟨?_,?_⟩) <;> exact⟨rfl,rfl,Or.inl rfl⟩) (fun _=>rfl)) Ze)) Ze)) (Zr ZaN (Zaj ZS rfl (B "len" (by decide)) PySem.boot_len (Za (pv 1) Ze)) Zh))) h4) (fun u3 h3 e3=>?_)
 refine Zu ((Zf ZM).drop 2) (Zd (Zm (i:=6) Zap.nd rfl (Or.inl rfl) (Zx g_closings hr rfl (Za (pv 1) Ze))) h3) (fun u2 h2 e2=>?_);refine Zu ((Zf ZM).drop 1) (Zd (Zm (i:=5) Zap.nd rfl (Or.inl rfl) (Zx g_modes_at hr rfl (Za (pv 4) (Za (pv 1) (Za (pv 2) Ze))))) h2) (fun u1 h1 e1=>?_);refine Zu ((Zf ZM).drop 0) (Zd (Zm (i:=4) Zap.nd rfl (Or.inl rfl) (Zx g_parts_by_rule hr rfl (Za (pv 0) Ze))) h1) (fun u0 h0 e0=>?_);refine⟨u0,h0,?_⟩;refine Zw e0 ?_;refine⟨_,rfl,ch,rs,rfl,hch.chr,fun dk m H1 s1 hdk0 hdk hkn=>?_⟩;refine Zw e1 ?_;refine⟨_,rfl,_,rfl,_,rfl,dk,wl,m0,m,Zaf rs,n,G,rfl,hdk,hkn,kv,by lia,m00,m0n,s1 _ _ hwl,hc,by lia,fun mo mzs H2 s2 hmo0 hmo hml=>?_⟩;have s12:=s1.trans s2;refine Zw e2 ?_;refine⟨_,rfl,wl,_,rfl,SqL.of (s12 _ _ hwl),Ze1 hc,by lia,fun dc H3 s3 hdc0 hdc=>?_⟩;rw[ZiQ hc] at hdc;have s13:=s12.trans s3;have hml3:=hml.same s3;have hmo3:=s3 _ _ hmo;have hdk3:=s3 _ _ (s2 _ _ hdk);have hkn3:=hkn.tk (s2.trans s3).tk;clear hml hmo hdk hkn;refine Zw e3 ?_;obtain⟨rt,rzs,hch1,hch2⟩:=id hch;refine⟨_,rfl,ch,_,0,_,rfl,rfl,SqT.of (s13 _ _ hch1),rfl,n,rfl,by lia,by lia,fun pc hpc=>?_⟩;refine Zev (lo:=0) (n:=n.toNat) (p:=pc) (fun i us σ H4=>∃v0:Option V,σ =[v0,some (.ref se)]/\Zn H3 H4/\H4 pc=some (.lst us)/\us.length=i/\NoL S H4 us i)
  ⟨none,rfl,Zn.new hpc,Zb,rfl,[],.nil,rfl,fun _ h=>(nomatch h)⟩ ?_ ?_ ?_
 ·rintro i us σ H4 _ ⟨_,_,_,h,_⟩;exact h
 ·rintro i us σ H4 hi ⟨v0,rfl,s4,hp4,hul,kvs,pk,kk,kr⟩;refine⟨_,rfl,_,rfl,se,dx,[],rfl,(s13.trans s4) _ _ hse,rfl,se,rfl,fun v H5 s5 r5=>?_⟩;refine⟨(by show 2<=sizeLine;decide),fun t ht=>?_⟩;have s6:=Zn.new (o:=.tup [.int (0+(i:Int)),v]) ht;have hp6:=s6 _ _ (s5 _ _ hp4);refine⟨hp6,Zv (by lia),CW.next hi ⟨_,rfl,(s4.trans (s5.trans s6)).upd_new hpc,Zb,by rw[List.length_append,List.length_singleton,hul],kvs ++ [(Sum.inl (i:Int),v)],?_,?_,fun kv hkv=>?_⟩⟩
  ·have tkl:=(s5.trans s6).tk.trans (TK.lst (o:=.lst (us ++ [.ref t])) hp6);refine Paired.app (Zha tkl pk) (.cons ⟨t,rfl,?_⟩ .nil);rw[Zc (fun z=>by rw[z,s5 _ _ hp4] at ht;cases ht),Zb,Int.zero_add];rfl
  ·rw[List.map_append,kk,List.range_succ,List.map_append];rfl
  ·have tkl:=(s5.trans s6).tk.trans (TK.lst (o:=.lst (us ++ [.ref t])) hp6);rcases List.mem_append.mp hkv with h|h
   ·exact S.mono tkl (kr kv h)
   ·rw[List.mem_singleton.mp h];exact S.mono (s6.tk.trans (TK.lst (o:=.lst (us ++ [.ref t])) hp6)) r5
 rintro us σ H4 ⟨v0,rfl,s4,hp4,hul,kvs0,pk,kk,kr⟩;have hknd:(kvs0.map (·.1)).Nodup:=by
  rw[kk];refine List.pairwise_map.mpr ((List.nodup_range (n:=n.toNat)).imp fun{x y} hxy z=>hxy ?_);injection z with z;lia
 refine⟨pc,us,kvs0,rfl,SqL.of hp4,by lia,pk,fun d0 hd0=>?_⟩;have hput:putAll kvs0=kvs0:=by
  have:=Zfj kvs0 [] (by rw[List.nil_append];exact hknd);rw[List.nil_append] at this;exact this
 rw[hput];have s5:=Zn.new (o:=.dK kvs0) hd0;refine⟨(by show 1<=sizeLine;decide),fun l1 hl1=>?_⟩;have s6:=Zn.new (o:=.lst [.ref d0]) hl1;have s46:=s4.trans (s5.trans s6);refine⟨_,rfl,wl,_,rfl,.inl (SqL.of ((s13.trans s46) _ _ hwl)),_,_,rfl,rfl,l1,_,_,rfl,rfl,Zb,by lia,by rw[List.length_map];lia,Zao (by rw[List.length_map];show 1*_<=_;lia),fun T hT=>?_⟩;have hrep:(List.replicate (((((words SL G).map V.str).length:Nat):Int)+1).toNat [V.ref d0]).flatten=List.replicate (2*gsz G+1) (V.ref d0):=by
  rw[List.length_map,hwz,show(((2*gsz G:Nat):Int)+1).toNat=2*gsz G+1 by lia];generalize 2*gsz G+1=k
  induction k with
  | zero=>rfl
  | succ k ih=>rw[List.replicate_succ,List.flatten_cons,ih,List.replicate_succ];rfl
 rw[hrep];have s7:=Zn.new (o:=.lst (List.replicate (2*gsz G+1) (V.ref d0))) hT;have s37:=s46.trans s7;have hd07:=s7 _ _ (s6 _ _ (show(upd H4 d0 (.dK kvs0)) d0=some (.dK kvs0) from Zb));have hT7:(upd (upd (upd H4 d0 (.dK kvs0)) l1 (.lst [.ref d0])) T (.lst (List.replicate (2*gsz G+1) (V.ref d0)))) T=some (.lst (List.replicate (2*gsz G+1) (V.ref d0))):=Zb;have tk47:TK H4 (upd (upd (upd H4 d0 (.dK kvs0)) l1 (.lst [.ref d0])) T (.lst (List.replicate (2*gsz G+1) (V.ref d0)))):=(s5.trans (s6.trans s7)).tk;have hT3:H3 T=none:=s46.free hT;have hd03:H3 d0=none:=s4.free hd0;show u4 _ _ _;generalize upd (upd (upd H4 d0 (.dK kvs0)) l1 (.lst [.ref d0])) T (.lst (List.replicate (2*gsz G+1) (V.ref d0)))=H7 at s37 hd07 hT7 tk47 ⊢;have base0:∀q,q<=2*gsz G->q∉(prs 0 G).map (·.1)->TlQ S (Zaf rs) n G (Zds (Zaf rs) [m0] G) H3 H7 (V.ref d0) q:=fun q hq hnq=>by
  refine⟨d0,kvs0,rfl,hd07,hd03,fun m h1 h2 _=>?_⟩;obtain⟨v,hv⟩:=ZjX (kvs:=kvs0) (k:=Sum.inl m) (by
   rw[kk];refine List.mem_map.mpr ⟨m.toNat,List.mem_range.mpr (by lia),?_⟩;rw[Int.toNat_of_nonneg h1])
  refine⟨v,hv,?_⟩;rw[Zi4 G 0 q (by rw[Nat.zero_add];exact hnq) hq];exact S.mono tk47 (kr _ (Zfw hv))
 refine Zw e4 ?_;have hkC:(kvC (prs 0 G)).map (·.1)=((prs 0 G).map fun x=>((x.1:Nat):Int)).map Sum.inl:=by
  unfold kvC;rw[List.map_map,List.map_map];rfl
 have hlC:(kvC (prs 0 G)).length<64:=by
  unfold kvC;rw[List.length_map,Zga];lia
 refine⟨_,rfl,dc,_,_,rfl,s37 _ _ hdc,hlC,hkC,fun pl ps hpl hperm hfall=>?_⟩;have s8:=Zn.new (o:=.lst (ps.map V.int)) hpl;have tkeep:∀{z:V}{q:Nat},TlQ S (Zaf rs) n G (Zds (Zaf rs) [m0] G) H3 H7 z q->TlQ S (Zaf rs) n G (Zds (Zaf rs) [m0] G) H3 (upd H7 pl (.lst (ps.map V.int))) z q:=fun h=>h.keep (ex:=[]) (fun b o _ e=>s8 _ _ e) s8.tk (fun _ z=>nomatch z)
 refine⟨pl,rfl,⟨_,SqL.of Zb⟩,Zb0 (K:=K) (a:=pl) (xs:=ps.map V.int) (fun i σ H9=>∃(v8 v9 v10 v11 v12:Option V)(tl:List V),σ =[some (.ref ch),some (.ref wl),some (.int m0),some (.ref se),some (.ref dk),some (.ref mo),some (.ref dc),some (.ref T),v8,v9,v10,v11,v12]/\Zbw [T] (upd H7 pl (.lst (ps.map V.int))) H9/\H9 T=some (.lst tl)/\tl.length=2*gsz G+1/\∀(q:Nat)(z:V),tl[q]?= some z->(q∈(prs 0 G).map (·.1)->∃j,j<i/\ps[j]?= some (q:Int))->TlQ S (Zaf rs) n G (Zds (Zaf rs) [m0] G) H3 H9 z q)
  ⟨none,none,none,none,none,_,rfl,fun b o _ h=>h,s8 _ _ hT7,List.length_replicate,fun q z hq hp=>?_⟩ ?_ ?_ ?_⟩
 ·have hq2:=(List.getElem?_eq_some_iff.mp hq).1;rw[List.length_replicate] at hq2;rw[List.getElem?_replicate,if_pos (by lia)] at hq;injection hq with hq;subst hq;refine tkeep (base0 q (by lia) fun hm=>?_);obtain⟨j,hj,_⟩:=hp hm;exact absurd hj (Nat.not_lt_zero _)
 ·rintro i σ H9 _ ⟨_,_,_,_,_,_,_,k9,_⟩;exact SqL.of (k9 _ _ (fun z=>by rw[List.mem_singleton.mp z,hT7] at hpl;cases hpl) Zb)
 ·rintro i x σ H9 hx ⟨v8,v9,v10,v11,v12,tl,rfl,k9,hT9,htl,hq9⟩;rw[List.getElem?_map] at hx;obtain⟨p0,hp0,rfl⟩:=Option.map_eq_some_iff.mp hx;obtain⟨⟨p,e⟩,hpe,hpp⟩:∃x∈prs 0 G,((x.1:Nat):Int)=p0:=by
   have:=hperm.mem_iff.mp (List.mem_of_getElem? hp0);exact List.mem_map.mp this
  have hpp:(p:Int)=p0:=hpp;subst hpp;obtain⟨i',t,w,o,ms,hi',a1,a2,a3,a4,a5,a6,b1,b2,b3,b4,b5⟩:=plc S kv G [m0] 0 p e (fun m hm=>by rw[List.mem_singleton.mp hm];exact⟨m00,m0n⟩) (fun m hm=>by rw[List.mem_singleton.mp hm];exact hok) hpe;obtain rfl:p=i':=by lia
  have keyQ:∀q,p<q->q∈(prs 0 G).map (·.1)->∃j,j<i/\ps[j]?= some (q:Int):=fun q hq hm=>by
   obtain⟨⟨q',e'⟩,h1,h2⟩:=List.mem_map.mp hm;have h2:q'=q:=h2;have h3:(q:Int)∈ps:=hperm.mem_iff.mpr (List.mem_map.mpr ⟨(q',e'),h1,by rw[<- h2]⟩);obtain⟨j,hj⟩:=List.getElem?_of_mem h3;exact⟨j,Zf8 hfall hp0 hj (by lia),hj⟩
  have up9:∀b o',H3 b=some o'->H9 b=some o':=fun b o' h=>k9 b o' (fun z=>by rw[List.mem_singleton.mp z,hT3] at h;cases h) (s8 _ _ (s37 _ _ h));have s9:Zn H H9:=fun b o' h=>up9 _ _ (s13 _ _ h);obtain⟨z1,hz1⟩:∃z,tl[e+1]?= some z:=⟨tl[e+1]'(by lia),List.getElem?_eq_getElem (by lia)⟩;obtain⟨d1,kvs1,rfl,hd1,hd13,g1⟩:=hq9 (e+1) z1 hz1 (keyQ (e+1) (by lia));obtain⟨z2,hz2⟩:∃z,tl[p+1]?= some z:=⟨tl[p+1]'(by lia),List.getElem?_eq_getElem (by lia)⟩;obtain⟨d2,kvs2,rfl,hd2,hd23,g2⟩:=hq9 (p+1) z2 hz2 (keyQ (p+1) (by lia));have hcv:Zee H9 dc (V.int (p:Int)) (some (.int (e:Int))):=by
   have:=Zee.k (k:=Sum.inl (p:Int)) (up9 _ _ hdc);rw[ZjS hnd hpe] at this;exact this
  have at1:atI tl ((e:Int)+1)=some (.ref d1):=by rw[show(e:Int)+1=((e+1:Nat):Int) by lia];exact Zbp hz1
  have at2:atI tl ((p:Int)+1)=some (.ref d2):=by rw[show(p:Int)+1=((p+1:Nat):Int) by lia];exact Zbp hz2
  have atW:atI ((words SL G).map V.str) (p:Int)=some (.str t):=Zbp (by rw[List.getElem?_map,a5];rfl);obtain⟨zm,hzm,dm,rfl,hdm,hdm0'⟩:=Zes hml3 p ms b1;have hdm0:=s1.free hdm0';have atM:atI mzs (p:Int)=some (.ref dm):=Zbp hzm;refine Zw e4_0 ?_;refine⟨_,rfl,_,rfl,_,rfl,dc,_,rfl,hcv,_,_,rfl,rfl,T,_,_,_,rfl,rfl,SqL.of hT9,at1,?_⟩;refine Zw e4_1 ?_;refine fun cd hcd=>?_;have s10:=Zn.new (o:=.dK []) hcd;have hcd3:H3 cd=none:=by
   cases h:H3 cd with
   | none=>rfl
   | some o' =>
    have:=up9 _ _ h;rw[hcd] at this;cases this
  have ncT:cd≠T:=fun z=>by rw[z,hT9] at hcd;cases hcd
  have ndmc:dm≠cd:=fun z=>by rw[<- z,hdm] at hcd3;cases hcd3
  have ndmT:dm≠T:=fun z=>by rw[z,hT3] at hdm;cases hdm
  have nd1:d1≠dm:=fun z=>by rw[z,hdm] at hd13;cases hd13
  have nd2:d2≠dm:=fun z=>by rw[z,hdm] at hd23;cases hd23
  have nd1c:d1≠cd:=fun z=>by rw[z,hcd] at hd1;cases hd1
  have nd2c:d2≠cd:=fun z=>by rw[z,hcd] at hd2;cases hd2
  have hdmb:(upd H9 cd (.dK [])) dm=some (.dK (kvM ms)):=s10 _ _ (up9 _ _ hdm);refine Zw e4_2 ?_;refine⟨_,rfl,_,rfl,mo,_,_,_,rfl,rfl,SqL.of (s10 _ _ (up9 _ _ hmo3)),atM,dm,kvM ms,rfl,hdmb,fun ob=>?_⟩;have tkf:TK H9 (upd (upd H9 cd (.dK [])) dm (.frz ob (.dK (kvM ms)))):=s10.tk.trans fun b ys e'=>by rw[Zc (fun z=>by rw[z,hdmb] at e';cases e')];exact e'
  have hkl:(kvM ms).length=ms.length:=List.length_map ..;have upf:∀b o',b≠dm->H9 b=some o'->(upd (upd H9 cd (.dK [])) dm (.frz ob (.dK (kvM ms)))) b=some o':=fun b o' hb h=>by
   rw[Zc hb];exact s10 _ _ h
  refine Zg9 (d:=dm) (ob:=ob) (kvs:=kvM ms) (fun j σ H11=>∃(v11 v12:Option V)(kvc:List (Key×V)),σ =[some (.ref ch),some (.ref wl),some (.int m0),some (.ref se),some (.ref dk),some (.ref mo),some (.ref dc),some (.ref T),some (.int (p:Int)),some (.ref d1),some (.ref cd),v11,v12]/\(∀b o',b≠cd->(upd (upd H9 cd (.dK [])) dm (.frz ob (.dK (kvM ms)))) b=some o'->H11 b=some o')/\H11 cd=some (.dK kvc)/\kvc.length<=j/\∀m'∈ms.take j,∃v,Zbe kvc (Sum.inl m')=some v/\S.R H11 v (chS S (Zaf rs) (.cons t w o) m'))
   ⟨_,_,[],rfl,fun _ _ _ h=>h,by rw[Zc ndmc.symm];exact Zb,Nat.le_refl _,fun _ h=>(nomatch h)⟩ ?_ ?_ ?_
  ·rintro j σ H11 _ ⟨_,_,_,_,k11,_⟩;exact k11 _ _ ndmc Zb
  ·rintro j kx vx σ H11 hk ⟨v11,v12,kvc,rfl,k11,hc11,hlc,hvc⟩;obtain⟨m',hm',rfl⟩:∃m',ms[j]?= some m'/\kx=Sum.inl m':=by
    unfold kvM at hk;rw[List.getElem?_map] at hk;obtain⟨m',h1,h2⟩:=Option.map_eq_some_iff.mp hk;injection h2 with h2 h3;exact⟨m',h1,h2.symm⟩
   have hmm:=List.mem_of_getElem? hm';have hmv:=b4 m' hmm;have hjl:=(List.getElem?_eq_some_iff.mp hm').1;have tk11:TK H9 H11:=fun b ys e'=>k11 b _ (fun z=>by rw[z,hcd] at e';cases e') (tkf _ _ e');have up11:∀b o',b≠dm->H9 b=some o'->H11 b=some o':=fun b o' hb h=>k11 b o' (fun z=>by rw[z,hcd] at h;cases h) (upf b o' hb h);have hT11:=up11 _ _ ndmT.symm hT9;have hwl11:=up11 _ _ (fun z=>by rw[z,hdm0] at hwl;cases hwl) (s9 _ _ hwl);have hdk11:H11 dk=some (.dT m):=up11 _ _ (fun z=>by rw[z,hdm] at hdk3;cases hdk3) (up9 _ _ hdk3);have hse11:H11 se=some (.ins C dx []):=up11 _ _ (fun z=>by rw[z,hdm0] at hse;cases hse) (s9 _ _ hse);have hd111:=up11 _ _ nd1 hd1;have hd211:=up11 _ _ nd2 hd2;have tk311:TK H3 H11:=fun b ys e'=>tk11 _ _ (up9 _ _ e');have psz:=kv.psz m' t;have pdp:=(paC (Zaf rs) m' t).ZcY;have okm:=b5 m' hmm;refine Zw e4_2_0 ?_;refine⟨_,rfl,_,rfl,_,rfl,_,rfl,wl,_,_,_,rfl,rfl,SqL.of hwl11,atW,dk,m,Zaf rs,m',t,rfl,hdk11,hkn3.tk tk311,fun q ys H12 s12' hq rp=>?_⟩;refine⟨_,rfl,_,rfl,_,_,rfl,rfl,T,_,_,_,rfl,rfl,SqL.of (s12' _ _ hT11),at2,_,rfl,q,d2,se,dx,ys,paC (Zaf rs) m' t,kvs2,chS S (Zaf rs) w,rfl,hq,rp,by lia,s12' _ _ hd211,fun k hk=>?_,s12' _ _ hse11,S.okl okm,fun v H13 s13' rv=>?_⟩
   ·obtain⟨h1,h2⟩:=kv.pks hmv k hk;obtain⟨v,e1,e2⟩:=g2 k h1 h2 fun hm=>by
     have hw:w ≠ .nil:=fun z=>by
      obtain⟨⟨q',e'⟩,x1,x2⟩:=List.mem_map.mp hm;have x2:q'=p+1:=x2;obtain⟨i2,x3,t',w',o',x4,_⟩:=Zhh G 0 q' e' x1;rw[show i2=p+1 by lia,a3,z] at x4;cases x4
     exact⟨_,b2 hw,(ZeO k).mpr ⟨m',hmm,hk⟩⟩
    rw[a3] at e2;exact⟨v,e1,S.mono (tk11.trans s12'.tk) e2⟩
   show u4_2_1 _ _ _;refine Zw e4_2_1 ?_;have s113:=s12'.trans s13';obtain⟨u,eu,ru⟩:=g1 m' hmv.1 hmv.2 fun hm=>by
    have ho:o ≠ .nil:=fun z=>by
     obtain⟨⟨q',e'⟩,x1,x2⟩:=List.mem_map.mp hm;have x2:q'=e+1:=x2;obtain⟨i2,x3,t',w',o',x4,_⟩:=Zhh G 0 q' e' x1;rw[show i2=p+2*gsz w+2 by lia,a4,z] at x4;cases x4
    refine⟨_,?_,hmm⟩;rw[show e+1=p+2*gsz w+2 by lia];exact b3 ho
   rw[show e+1=p+2*gsz w+2 by lia,a4] at ru;have hg1:=Zee.k (k:=Sum.inl m') (s113 _ _ hd111);rw[eu] at hg1;refine⟨_,rfl,se,dx,[],rfl,s113 _ _ hse11,rfl,_,rfl,_,rfl,_,rfl,d1,_,rfl,hg1,se,v,u,_,_,rfl,rv,S.mono (tk11.trans s113.tk) ru,okm,fun v' H14 s14 r4=>?_⟩;have s114:=s113.trans s14;have hc14:=s114 _ _ hc11;refine⟨_,rfl,_,rfl,cd,_,rfl,ZjN.k (k:=Sum.inl m') hc14 (Zv ?_),?_⟩
   ·have:=Zkb n.toNat ms (ZgE (Zaf rs) G [m0] (by simp) ms (List.mem_of_getElem? b1)) fun x hx=>by
     have:=b4 x hx;lia
    lia
   have tkd:TK H14 (upd H14 cd (.dK (putK kvc (Sum.inl m') v'))):=fun b ys e'=>by rw[Zc (fun z=>by rw[z,hc14] at e';cases e')];exact e'
   refine⟨_,_,putK kvc (Sum.inl m') v',rfl,fun b o' hb h=>?_,Zb,?_,fun m2 hm2=>?_⟩
   ·rw[Zc hb];exact s114 _ _ (k11 b o' hb h)
   ·have:=Za3 kvc (Sum.inl m') v';lia
   ·rw[Zhi];by_cases c:(Sum.inl m2:Key)=Sum.inl m'
    ·rw[if_pos c];injection c with c;rw[c];exact⟨v',rfl,S.mono tkd r4⟩
    ·rw[if_neg c];rw[ZW hm'] at hm2;rcases List.mem_append.mp hm2 with h|h
     ·obtain⟨v2,e1,e2⟩:=hvc m2 h;exact⟨v2,e1,S.mono (s114.tk.trans tkd) e2⟩
     ·exact absurd (by rw[List.mem_singleton.mp h]) c
  ·rintro σ H11 ⟨v11,v12,kvc,rfl,k11,hc11,hlc,hvc⟩;rw[hkl,List.take_length] at hvc;refine⟨dm,ob,kvM ms,k11 _ _ ndmc Zb,fun o' u' z=>?_,?_⟩
   ·have z:H dm=some (.frz o' u'):=z;rw[hdm0] at z;cases z
   have tkt:TK H11 (upd H11 dm (.dK (kvM ms))):=fun b ys e'=>by rw[Zc (fun z=>by rw[z,k11 _ _ ndmc Zb] at e';cases e')];exact e'
   have k12:∀b o',b≠cd->H9 b=some o'->(upd H11 dm (.dK (kvM ms))) b=some o':=fun b o' hb h=>by
    by_cases hbd:b=dm
    ·rw[hbd] at h ⊢;rw[Zb,<- h,up9 _ _ hdm]
    ·rw[Zc hbd];exact k11 b o' hb (upf b o' hbd h)
   have hc12:(upd H11 dm (.dK (kvM ms))) cd=some (.dK kvc):=by rw[Zc ndmc.symm];exact hc11
   have hvc12:∀m'∈ms,∃v,Zbe kvc (Sum.inl m')=some v/\S.R (upd H11 dm (.dK (kvM ms))) v (chS S (Zaf rs) (.cons t w o) m'):=fun m' hm'=>by
    obtain⟨v,h1,h2⟩:=hvc m' hm';exact⟨v,h1,S.mono tkt h2⟩
   show u4_3 _ _ _;generalize upd H11 dm (.dK (kvM ms))=H12 at k12 hc12 hvc12 ⊢;refine Zw e4_3 ?_;have hT12:=k12 _ _ ncT.symm hT9;refine⟨_,rfl,_,rfl,_,rfl,T,tl,(p:Int),p,rfl,rfl,hT12,ZlW (by lia),?_⟩;have tk12:TK H9 H12:=fun b ys e'=>k12 b _ (fun z=>by rw[z,hcd] at e';cases e') e';have tk13:TK H12 (upd H12 T (.lst (tl.set p (.ref cd)))):=TK.lst hT12;have kT:Zbw [T] H9 (upd H12 T (.lst (tl.set p (.ref cd)))):=fun b o' hb h=>by
    rw[Zc (fun z=>hb (List.mem_singleton.mpr z))];exact k12 b o' (fun z=>by rw[z,hcd] at h;cases h) h
   refine⟨_,_,_,_,_,tl.set p (.ref cd),rfl,k9.trans kT,Zb,by rw[List.length_set];exact htl,fun q z hq hj=>?_⟩;by_cases c:q=p
   ·subst c;rw[List.getElem?_set_self (by lia)] at hq;injection hq with hq;subst hq;refine⟨cd,kvc,rfl,by rw[Zc ncT];exact hc12,hcd3,fun m' h1 h2 h3=>?_⟩;obtain⟨ms2,h4,h5⟩:=h3 (List.mem_map.mpr ⟨(q,e),hpe,rfl⟩);rw[b1] at h4;injection h4 with h4;subst h4;obtain⟨v,e1,e2⟩:=hvc12 m' h5;rw[a1];exact⟨v,e1,S.mono tk13 e2⟩
   ·rw[List.getElem?_set_ne (fun z=>c z.symm)] at hq;refine(hq9 q z hq fun hm=>?_).keep kT (tk12.trans tk13) fun b hb kvs'=>.inl fun z=>?_
    ·obtain⟨j,hj1,hj2⟩:=hj hm;refine⟨j,?_,hj2⟩;rcases Nat.lt_or_eq_of_le (Nat.le_of_lt_succ hj1) with h|h
     ·exact h
     ·subst h;rw[hp0] at hj2;injection hj2 with hj2;exact absurd (by lia) c
    ·rw[List.mem_singleton.mp hb,hT9] at z;cases z
 ·rintro σ H9 ⟨v8,v9,v10,v11,v12,tl,rfl,k9,hT9,htl,hq9⟩;rw[List.length_map] at hq9;show u5 _ _ _;refine Zw e5 ?_;obtain⟨z0,hz0⟩:∃z,tl[0]?= some z:=⟨tl[0]'(by lia),List.getElem?_eq_getElem (by lia)⟩;obtain⟨d1,kvs1,rfl,hd1,hd13,g1⟩:=hq9 0 z0 hz0 fun hm=>by
   obtain⟨⟨q',e'⟩,h1,h2⟩:=List.mem_map.mp hm;have h2:q'=0:=h2;have h3:((0:Nat):Int)∈ps:=hperm.mem_iff.mpr (List.mem_map.mpr ⟨(q',e'),h1,by rw[h2]⟩);obtain⟨j,hj⟩:=List.getElem?_of_mem h3;exact⟨j,(List.getElem?_eq_some_iff.mp hj).1,hj⟩
  obtain⟨v,e1,e2⟩:=g1 m0 m00 m0n fun hm=>by
   refine⟨[m0],?_,List.mem_cons_self ..⟩;cases G with
   | nil=>cases hm
   | cons t w o=>rfl
  rw[Zck] at e2;have hg:=Zee.k (k:=Sum.inl m0) hd1;rw[e1] at hg;refine⟨_,rfl,T,_,0,_,rfl,rfl,SqL.of hT9,Zbp hz0,_,rfl,d1,_,rfl,hg,qq v H9 (fun b o' h=>?_) e2⟩;exact k9 b o' (fun z=>by rw[List.mem_singleton.mp z,s13.free hT3] at h;cases h) (s8 _ _ (s37 _ _ (s13 _ _ h)))
structure KnZ(tt:List Str)(kn:Kn):Prop where
 sz:∀i t p,kn i t=some p->p.sz<=3
 nk:∀i t p,kn i t=some p->p.nk<=1
 tg:∀i t p,kn i t=some p->∀x∈p.tags,x∈tt
theorem KnZ.psz{tt:List Str}{kn:Kn}(h:KnZ tt kn)(m:Int)(t:Str):(paC kn m t).sz<=3/\(paC kn m t).nk<=1:=by
 unfold paC;cases e:kn m t with
 | none=>exact⟨Nat.le_of_ble_eq_true rfl,Nat.le_of_ble_eq_true rfl⟩
 | some p=>exact⟨h.sz _ _ _ e,h.nk _ _ _ e⟩
theorem KnZ.ptg{tt:List Str}{kn:Kn}(h:KnZ tt kn)(m:Int){t:Str}(ht:t∈tt):∀x∈(paC kn m t).tags,x∈tt:=by
 unfold paC;cases e:kn m t with
 | none =>
  intro x hx;have hx:x ∈ [t]:=hx;rw[List.mem_singleton.mp hx];exact ht
 | some p=>exact h.tg _ _ _ e
theorem Zdj{n N:Nat}{f:Int->Gr Str}(hf:∀m,Zbo (f m)<=N):∀p:Pa,Zbo (Zz (snG n) f p)+1<=p.sz+max 1 N
 | .nil=>by show 0+1<=0+max 1 N;lia
 | .kids m o=>by
  have h1:=hf m;have h2:=Zdj (n:=n) hf o;show Zbo (ZaK (f m) (Zz (snG n) f o))+1<=1+o.sz+max 1 N;rw[ZbP];lia
 | .tag t w o=>by
  have h1:=Zdj (n:=n) hf w;have h2:=Zdj (n:=n) hf o;show Zbo (ZaK (.cons t (Zz (snG n) f w) .nil) (Zz (snG n) f o))+1<=1+w.sz+o.sz+max 1 N;rw[ZbP];simp only[Zbo];lia
theorem ZdS{n N:Nat}{f:Int->Gr Str}(hf:∀m,gsz (f m)<=N):∀p:Pa,gsz (Zz (snG n) f p)+p.nk<=p.sz+p.nk*N
 | .nil=>by show 0+0<=0+0*N;lia
 | .kids m o=>by
  have h1:=hf m;have h2:=ZdS (n:=n) hf o;show gsz (ZaK (f m) (Zz (snG n) f o))+(1+o.nk)<=1+o.sz+(1+o.nk)*N;rw[Zbn,Nat.add_mul,Nat.one_mul];lia
 | .tag t w o=>by
  have h1:=ZdS (n:=n) hf w;have h2:=ZdS (n:=n) hf o;show gsz (ZaK (.cons t (Zz (snG n) f w) .nil) (Zz (snG n) f o))+(w.nk+o.nk)<=1+w.sz+o.sz+(w.nk+o.nk)*N;rw[Zbn,Nat.add_mul];simp only[gsz];lia
theorem Zft{tt:List Str}{kn:Kn}(kz:KnZ tt kn){n:Nat}:∀(g:Gr Str)(m:Int),Zbo (chS (snG n) kn g m)<=2*Zbo g+1
 | .nil,_=>Nat.zero_le _
 | .cons t w o,m=>by
  have h1:=Zdj (n:=n) (f:=chS (snG n) kn w) (N:=2*Zbo w+1) (fun m'=>Zft kz w m') (paC kn m t);have h2:=Zft kz (n:=n) o m;have h3:=(kz.psz m t).1;show Zbo (ZaK (Zz (snG n) (chS (snG n) kn w) (paC kn m t)) (chS (snG n) kn o m))<=_;rw[ZbP];simp only[Zbo];lia
theorem ZfO{tt:List Str}{kn:Kn}(kz:KnZ tt kn){n:Nat}:∀(g:Gr Str)(m:Int),gsz (chS (snG n) kn g m)<=3*gsz g
 | .nil,_=>Nat.zero_le _
 | .cons t w o,m=>by
  have h1:=ZdS (n:=n) (f:=chS (snG n) kn w) (N:=3*gsz w) (fun m'=>ZfO kz w m') (paC kn m t);have h2:=ZfO kz (n:=n) o m;obtain⟨h3,h4⟩:=kz.psz m t;show gsz (ZaK (Zz (snG n) (chS (snG n) kn w) (paC kn m t)) (chS (snG n) kn o m))<=_;rw[Zbn];simp only[gsz];have h5:(paC kn m t).nk*(3*gsz w)<=3*gsz w:=by
   rcases Nat.eq_zero_or_pos (paC kn m t).nk with z|z
   ·rw[z,Nat.zero_mul];exact Nat.zero_le _
   ·rw[show(paC kn m t).nk=1 by lia,Nat.one_mul];exact Nat.le_refl _
  lia
theorem ZeV{n:Nat}{tt:List Str}{f:Int->Gr Str}(hf:∀m,ZbM tt (f m)):∀{p:Pa},(∀x∈p.tags,x∈tt)->ZbM tt (Zz (snG n) f p)
 | .nil,_=>trivial
 | .kids m o,h=>(hf m).app (ZeV hf (p:=o) h)
 | .tag t w o,h=>ZbM.app (a:=.cons t (Zz (snG n) f w) .nil) ⟨h t (List.mem_cons_self ..),ZeV hf (p:=w) fun x hx=>h x (List.mem_cons_of_mem _ (List.mem_append_left _ hx)),trivial⟩ (ZeV hf (p:=o) fun x hx=>h x (List.mem_cons_of_mem _ (List.mem_append_right _ hx)))
theorem ZjG{tt:List Str}{kn:Kn}(kz:KnZ tt kn){n:Nat}:∀{g:Gr Str}(m:Int),ZbM tt g->ZbM tt (chS (snG n) kn g m)
 | .nil,_,_=>trivial
 | .cons t w o,m,⟨h1,h2,h3⟩=>ZbM.app (ZeV (fun m'=>ZjG kz m' h2) (kz.ptg m h1)) (ZjG kz m h3)
theorem ZbZ{n:Nat}(f:Int->Gr Str):∀p:Pa,words SL (Zz (snG n) f p)=ZaG (fun m=>words SL (f m)) p
 | .nil=>rfl
 | .kids m o=>by
  show words SL (ZaK (f m) (Zz (snG n) f o))=words SL (f m)++ZaG (fun m=>words SL (f m)) o;rw[Zbu,ZbZ f o]
 | .tag t w o=>by
  show words SL (ZaK (.cons t (Zz (snG n) f w) .nil) (Zz (snG n) f o))=t::(ZaG (fun m=>words SL (f m)) w++SL::ZaG (fun m=>words SL (f m)) o);rw[Zbu,ZbZ f o,<- ZbZ (n:=n) f w];simp[words]
theorem Zdp{n:Nat}(kn:Kn):∀(g:Gr Str)(m:Int),words SL (chS (snG n) kn g m)=chW kn g m
 | .nil,_=>rfl
 | .cons t w o,m=>by
  show words SL (ZaK (Zz (snG n) (chS (snG n) kn w) (paC kn m t)) (chS (snG n) kn o m))=ZaG (chW kn w) (paD kn m t)++chW kn o m;rw[Zbu,ZbZ,Zdp kn o m]
  congr 2
  funext m'
  exact Zdp kn w m'
def ZiP:Sp:=fun vs H Q _=>∃a b:Int,vs=[.int a,.int b]/\a<=300/\b<=100/\Q .non H
theorem ZdJ(B:∀x∈ZbN,mg x=none)(Cc:∃t:Tok,mg "MOST_TAGS" = some (.int 300 t)) (Cd:∃t:Tok,mg "DEEPEST_GROVE" = some (.int 100 t)) (F:Fun K "refuse_great" "refuse_great" Zaq f fd):FnOk P w K mg base CX0 1 f fd ["tags","deep"] ZiP:=by
 refine F.ok ZdT (fun vs H Q E h=>?_) (fun cdv A outer s H vs Q E hr h=>?_)
 ·obtain⟨a,b,rfl,_⟩:=h;rfl
 obtain⟨a,b,rfl,ha,hb,q⟩:=h;obtain⟨t1,c_MOST_TAGS⟩:=Cc;obtain⟨t2,c_DEEPEST_GROVE⟩:=Cd;refine⟨_,(Zj (Za8 (PW.pt (Zla (ZK ZgO (pv 0) (Zgu (v:=.int 300) rfl c_MOST_TAGS ⟨_,rfl⟩) (Z0 _)) (ZkO (ZK ZgO (pv 1) (Zgu (v:=.int 100) rfl c_DEEPEST_GROVE ⟨_,rfl⟩) (Z0 _)))))
   (Zj Zfc)
   ZaH)),?_⟩
 refine⟨_,rfl,_,_,rfl,rfl,_,rfl,Zew (fun c=>?_) (fun c=>?_)⟩
 ·have:=of_decide_eq_true c;lia
 refine⟨_,rfl,_,_,rfl,rfl,_,rfl,Zew (fun c=>?_) (fun c=>?_)⟩
 ·have:=of_decide_eq_true c;lia
 exact q
def ZbQ:Sp:=fun vs H Q _=>∃(ch gr:Addr)(m0 n:Int)(rs:List (Int×Str×Pa))(xs:List V)(G:Gr Str),vs=[.ref ch,.ref gr,.int m0]/\ChC H ch n rs/\n<=100/\0<=m0/\m0<n/\H gr=some (.tup xs)/\RepG H xs G/\ZbG SL G/\gsz G<=60/\gsz (chG (Zaf rs) G m0)<=300/\Zbo (chG (Zaf rs) G m0)<=100 /\
 ∀(r:Addr)(zs:List V)(H':Hp),Zn H H'->H' r=some (.tup zs)->RepG H' zs (chG (Zaf rs) G m0)->Q (.ref r) H'
set_option maxHeartbeats 1000000 in
theorem ZhS{C_Bounds C_Groves T:Addr}(B:∀x∈ZbN,mg x=none)(g_Bounds:HasC0 K mg C_Bounds "Bounds") (g_Groves:HasC0 K mg C_Groves "Groves") (g_words_of:Has P w K mg base "words_of" ["grove"] 1 (Zgb K)) (g_come_ofB:Has P w K mg base "come_of" ["changer","words","mode","sense"] 25 (ZiX snB C_Bounds)) (g_come_ofG:Has P w K mg base "come_of" ["changer","words","mode","sense"] 25 (ZiX (snG 2000) C_Groves)) (g_refuse_great:Has P w K mg base "refuse_great" ["tags","deep"] 1 ZiP)
  (F:FunD K "changed" "changed" Zbv f fd T):FnOk P w K mg base CX0 26 f fd ["changer","grove","mode"] ZbQ:=by
 refine F.ok ZcK (fun vs H Q E h=>?_) (fun cdv A outer s H vs Q E hr h=>?_)
 ·obtain⟨ch,gr,m0,n,rs,xs,G,rfl,_⟩:=h;rfl
 obtain⟨ch,gr,m0,n,rs,xs,G,rfl,hch,hn,m00,m0n,hgr,rp,hc,hz,hb1,hb2,qq⟩:=h;have hwz:=ZR G;have eB:chS snB (Zaf rs) G m0=(gsz (chG (Zaf rs) G m0),Zbo (chG (Zaf rs) G m0)):=(Zjp (n:=0) (Zaf rs) G m0).symm;have eG:chS (snG 2000) (Zaf rs) G m0=chG (Zaf rs) G m0:=Zlo 2000 0 (Zaf rs) G m0;refine⟨_,(Zd (Zm (i:=3) ZcK.nd rfl (Or.inl rfl) (Zx g_words_of hr rfl (Za (pv 1) Ze)))
  (Zd (Zm (i:=4) ZcK.nd rfl (Or.inl rfl) (Zx g_come_ofB hr rfl (Za (pv 0) (Za (pv 3) (Za (pv 2) (Za (Zhx g_Bounds rfl) Ze))))))
  (Zd (ZQ (Zx g_refuse_great hr rfl (Za (ZF Z3 (pv 4) Zh (fun _ _=>rfl)) (Za (ZF Z3 (pv 4) Zh (fun _ _=>rfl)) Ze))))
  (Zj (ZL (Zx g_come_ofG hr rfl (Za (pv 0) (Za (pv 3) (Za (pv 2) (Za (Zhx g_Groves rfl) Ze)))))))))),?_⟩
 refine⟨_,rfl,gr,xs,G,rfl,SqT.of hgr,rp,by lia,fun W H1 s1 _ hW=>?_⟩;refine⟨_,rfl,_,rfl,_,rfl,fun x dx hx hdx hne=>?_⟩;have s2:=making (C:=C_Bounds) hx hdx hne;have s12:=s1.trans s2;refine⟨ch,W,x,dx,m0,n,rs,G,rfl,hch.tk s12.tk,hn,m00,m0n,s2 _ _ hW,hc,hz,Zb,trivial,fun v H3 s3 rv=>?_⟩;obtain⟨bp,rfl,hbp⟩:=rv;rw[eB] at hbp;have hbp:H3 bp=some (.tup [.int (gsz (chG (Zaf rs) G m0):Int),.int (Zbo (chG (Zaf rs) G m0):Int)]):=hbp;have s13:=s12.trans s3;refine⟨_,rfl,bp,_,0,_,rfl,rfl,SqT.of hbp,rfl,_,rfl,bp,_,1,_,rfl,rfl,SqT.of hbp,rfl,_,_,rfl,by lia,by lia,?_⟩;refine⟨_,rfl,_,rfl,_,rfl,fun y dy hy hdy hney=>?_⟩;have s4:=making (C:=C_Groves) hy hdy hney;have s14:=s13.trans s4;refine⟨ch,W,y,dy,m0,n,rs,G,rfl,hch.tk s14.tk,hn,m00,m0n,(s3.trans s4) _ _ (s2 _ _ hW),hc,hz,Zb,?_,fun v H5 s5 rv=>?_⟩
 ·show gsz (chS (snG 2000) (Zaf rs) G m0)<=2000;rw[eG];lia
 rw[eG] at rv;obtain⟨r,zs,rfl,hr,rr⟩:=rv;exact qq r zs H5 (s14.trans s5) hr rr
def Zd8(K:PySem.W.Frag):Sp:=fun vs H Q _=>∃(a tg:Addr)(ns:List Int)(ts:List Str),vs=[.ref a,.ref tg]/\SqL K H a (ns.map V.int)/\ns.length<=63/\H tg=some (.lst (ts.map V.str))/\ts.length=3/\(∀t∈ts,t≠SL) /\
 ∀(r:Addr)(xs:List V)(g:Gr Str)(H':Hp),Zn H H'->H r=none->H' r=some (.tup xs)->RepG H' xs g->ZbG SL g->gsz g<=12->ZbM ts g->Q (.ref r) H'
set_option maxHeartbeats 4000000 in
theorem Zib(B:∀x∈ZbN,mg x=none)(g_l_cell:Has P w K mg base "_law_cell" ["_law_script","_law_k"] 1 (ZdH K)) (F:Fun K "_law_grove" "_law_grove" ZC f fd):FnOk P w K mg base CX0 2 f fd ["_law_script","_law_tags_here"] (Zd8 K):=by
 refine F.ok ZaA (fun vs H Q E h=>?_) (fun cdv A outer s H vs Q E hr h=>?_)
 ·obtain⟨a,tg,ns,ts,rfl,_⟩:=h;rfl
 obtain⟨a,tg,ns,ts,rfl,hS,h63,htg,ht3,htn,q⟩:=h;refine Zu ((Zf ZC).drop 5) (Zj (ZL (Zaw Zan rfl (B "tuple" (by decide)) ZbH (Za (ZF ZP (pv 2) Zh (fun _ _=>rfl)) Ze)))) (fun u5 h5 e5=>?_);refine Zu ((ZZ ((Zf ZC).getD 4 (.Pass ⟨0,0,0,0⟩))).drop 1) (Zj (ZQ (ZaS PySem.F.plainAttrs_list PySem.F.slot_list_append PySem.F.type_list_append Zy (ZF ZP (pv 2) (Zeh Zb9 Zh) (fun _ _=>rfl)) (Za (Z1 (Za (ZbI PySem.F.plainAttrs_list PySem.F.slot_list_pop PySem.F.type_list_pop ZbL (pv 3)) (Za (pv 7) Ze))) Ze)))) (fun u4_1 h4_1 e4_1=>?_);refine Zu ((ZZ ((Zf ZC).getD 4 (.Pass ⟨0,0,0,0⟩))).drop 0) (Zd (Zm (i:=7) ZaA.nd rfl (Or.inl rfl) (Zaw Zan rfl (B "tuple" (by decide)) ZbH (Za (ZbI PySem.F.plainAttrs_list PySem.F.slot_list_pop PySem.F.type_list_pop ZbL (pv 2)) Ze))) h4_1) (fun u4_0 h4_0 e4_0=>?_);refine Zu ((Zf ZC).drop 4) (Zd (Ze6 PassesOwn.never (ZK ZgO (Zaj ZS rfl (B "len" (by decide)) PySem.boot_len (Za (pv 3) Ze)) Zh (Z0 _))
   h4_0) h5) (fun u4 h4 e4=>?_)
 refine Zu ((ZZ ((ZZ ((Zf ZC).getD 3 (.Pass ⟨0,0,0,0⟩))).getD 1 (.Pass ⟨0,0,0,0⟩))).drop 2) (Zj (ZQ (ZaS PySem.F.plainAttrs_list PySem.F.slot_list_append PySem.F.type_list_append Zy (pv 2) (Za (Zaa Ze) Ze)))) (fun u3_1t2 h3_1t2 e3_1t2=>?_);refine Zu ((ZZ ((ZZ ((Zf ZC).getD 3 (.Pass ⟨0,0,0,0⟩))).getD 1 (.Pass ⟨0,0,0,0⟩))).drop 1) (Zd (ZQ (ZaS PySem.F.plainAttrs_list PySem.F.slot_list_append PySem.F.type_list_append Zy (pv 3) (Za (ZF ZP (pv 1) (Zr Zah (Zr ZaW (pv 6) Zh) Zh) (fun _ _=>rfl)) Ze))) h3_1t2) (fun u3_1t1 h3_1t1 e3_1t1=>?_);refine Zu ((ZZ ((ZZ ((Zf ZC).getD 3 (.Pass ⟨0,0,0,0⟩))).getD 1 (.Pass ⟨0,0,0,0⟩))).drop 0) (Zd (Zm (i:=4) ZaA.nd rfl (Or.inl rfl) (Zr ZaN (pv 4) Zh)) h3_1t1) (fun u3_1t0 h3_1t0 e3_1t0=>?_);refine Zu ((ZZ ((Zdb ((ZZ ((Zf ZC).getD 3 (.Pass ⟨0,0,0,0⟩))).getD 1 (.Pass ⟨0,0,0,0⟩))).getD 0 (.Pass ⟨0,0,0,0⟩))).drop 1) (Zj (ZQ (ZaS PySem.F.plainAttrs_list PySem.F.slot_list_append PySem.F.type_list_append Zy (ZF ZP (pv 2) (Zeh Zb9 Zh) (fun _ _=>rfl)) (Za (Z1 (Za (ZbI PySem.F.plainAttrs_list PySem.F.slot_list_pop PySem.F.type_list_pop ZbL (pv 3)) (Za (pv 7) Ze))) Ze)))) (fun u3_1e0t1 h3_1e0t1 e3_1e0t1=>?_);refine Zu ((ZZ ((Zdb ((ZZ ((Zf ZC).getD 3 (.Pass ⟨0,0,0,0⟩))).getD 1 (.Pass ⟨0,0,0,0⟩))).getD 0 (.Pass ⟨0,0,0,0⟩))).drop 0) (Zd (Zm (i:=7) ZaA.nd rfl (Or.inl rfl) (Zaw Zan rfl (B "tuple" (by decide)) ZbH (Za (ZbI PySem.F.plainAttrs_list PySem.F.slot_list_pop PySem.F.type_list_pop ZbL (pv 2)) Ze))) h3_1e0t1) (fun u3_1e0t0 h3_1e0t0 e3_1e0t0=>?_);refine Zu ((Zdb ((ZZ ((Zf ZC).getD 3 (.Pass ⟨0,0,0,0⟩))).getD 1 (.Pass ⟨0,0,0,0⟩))).drop 0) (Zj (Za8 (ZK ZgO (Zaj ZS rfl (B "len" (by decide)) PySem.boot_len (Za (pv 3) Ze)) Zh (Z0 _))
   h3_1e0t0
   ZaH)) (fun u3_1e0 h3_1e0 e3_1e0=>?_)
 refine Zu ((ZZ ((Zf ZC).getD 3 (.Pass ⟨0,0,0,0⟩))).drop 1) (Zj (Za8 (PW.pt (ZgZ (ZK Zca (Zr Zah (pv 6) Zh) Zh (Z0 _)) (ZeQ (ZK Zj3 (pv 4) (Zr Zah (Zx g_l_cell hr rfl (Za (pv 0) (Za Zh Ze))) Zh) (Z0 _)))))
   h3_1t0
   h3_1e0)) (fun u3_1 h3_1 e3_1=>?_)
 refine Zu ((ZZ ((Zf ZC).getD 3 (.Pass ⟨0,0,0,0⟩))).drop 0) (Zd (Zm (i:=6) ZaA.nd rfl (Or.inl rfl) (Zr Zah (Zx g_l_cell hr rfl (Za (pv 0) (Za (Zr ZaN Zh (pv 5)) Ze))) (Zr Zik Zh Zh))) h3_1) (fun u3_0 h3_0 e3_0=>?_);refine Zu ((Zf ZC).drop 3) (Zd (ZaP PassesOwn.never rfl (Zbt rfl (B "range" (by decide)) (Za Zh Ze)) (ZD (i:=5) ZaA.nd rfl (Or.inl rfl))
   h3_0) h4) (fun u3 h3 e3=>?_)
 refine Zu ((Zf ZC).drop 2) (Zd (Zm (i:=4) ZaA.nd rfl (Or.inl rfl) Zh) h3) (fun u2 h2 e2=>?_);refine Zu ((Zf ZC).drop 1) (Zd (Zm (i:=3) ZaA.nd rfl (Or.inl rfl) (Zaa Ze)) h2) (fun u1 h1 e1=>?_);refine Zu ((Zf ZC).drop 0) (Zd (Zm (i:=2) ZaA.nd rfl (Or.inl rfl) (Zaa (Za (Zaa Ze) Ze))) h1) (fun u0 h0 e0=>?_);refine⟨u0,h0,?_⟩;refine Zw e0 ?_;refine⟨by decide,fun a0 h0=>⟨(by show 1<=sizeLine;decide),fun R hR=>?_⟩⟩;refine Zw e1 ?_;refine⟨by decide,fun T hT=>?_⟩;have g0:=GvS.start h0 hR hT;refine Zw e2 ?_;show u3 _ _ _;generalize upd (upd (upd H a0 (.lst [])) R (.lst [.ref a0])) T (.lst [])=H1 at g0 ⊢;refine Zw e3 ?_;refine⟨24,rfl,by decide,by decide,Zcn (lo:=0) (n:=24) (fun i σ H2=>∃(as:List Addr)(gs:List (Gr Str))(os:List Str)(mc:Nat)(v5 v6 v7:Option V),σ =[some (.ref a),some (.ref tg),some (.ref R),some (.ref T),some (.int (mc:Int)),v5,v6,v7]/\GvS H H2 R T as gs os/\(Zbb SL gs os).length+os.length=2*mc/\mc<=12/\∀x∈Zbb SL gs os,x=SL\/x∈ts)
  ⟨_,_,_,0,none,none,none,rfl,g0,rfl,by decide,fun _ h=>(nomatch h)⟩ ?_ ?_⟩
 ·rintro i σ H2 hi ⟨as,gs,os,mc,v5,v6,v7,rfl,hg,hfl,hmc,hft⟩;have hS2:=hg.sm.seq hS;refine Zw e3_0 ?_;refine⟨_,rfl,_,rfl,_,_,rfl,rfl,a,ns,_,rfl,hS2,h63,by lia,by lia,fun v=>?_⟩;refine⟨_,_,rfl,rfl,⟨by decide,by decide,by decide⟩,_,_,rfl,rfl,(by show(0:Int)<10 ^ 9;decide),?_⟩;have w0:=Int.emod_nonneg v (by decide:((10:Int) ^ (9:Int).toNat)≠0);generalize hw:v % (10:Int) ^ (9:Int).toNat=wv at w0;show Zgy 6 (V.int (v % (10:Int) ^ (9:Int).toNat)) _ _ _;rw[hw];show u3_1 _ _ _;refine via (t:=u3_1e0) (R:=fun σ H3=>σ =[some (.ref a),some (.ref tg),some (.ref R),some (.ref T),some (.int (mc:Int)),some (.int (0+(i:Int))),some (.int wv),v7]/\H3=H2) ?_ fun fin=>?_
  ·rintro σ H3 ⟨rfl,rfl⟩;refine Zw e3_1e0 ?_;refine⟨_,rfl,T,_,rfl,.inl (SqL.of hg.hT),_,_,rfl,rfl,_,rfl,Zew (fun c=>?_) (fun c=>?_)⟩
   ·cases os with
    | nil=>exact absurd (of_decide_eq_true c) (by decide)
    | cons t os =>
     obtain⟨b0,b1,as,g0,g1,gs,vs0,vs1,rfl,rfl,hgs,h00,r00,h11,r11,hRs,hTs⟩:=hg.two;obtain⟨fs1,fs2,fs3⟩:=Zfo (g0:=g0) (g1:=g1) (t:=t) hgs;have hv1:=r11.length;rw[List.length_cons] at hfl;refine Zw e3_1e0t0 ?_;refine⟨_,rfl,.inl ⟨rfl,_,SqL.of hRs⟩,R,_,_,rfl,rfl,hRs,Zay _ _,?_⟩;rw[Zav];refine⟨b0,vs0,rfl,.inl ⟨SqL.of (hg.f1 h00),fun l hl=>?_⟩⟩;obtain⟨hRb,h1b,hTb⟩:=hg.f2 (vs0:=vs0) h11 hl;refine Zw e3_1e0t1 ?_;refine⟨_,rfl,1,rfl,R,_,-1,.ref b1,rfl,rfl,SqL.of hRb,Zbm _ _,.inl ⟨rfl,_,SqL.of h1b⟩,_,rfl,.inl ⟨rfl,_,SqL.of hTb⟩,T,_,_,rfl,rfl,hTb,Zay _ _,?_⟩;rw[Zav];refine⟨_,rfl,(by show 2<=sizeLine;decide),fun l2 hl2=>?_⟩;refine⟨b1,_,_,rfl,rfl,hg.f3 h11 hl hl2,Zv (by lia),?_⟩;refine⟨_,_,_,mc,_,_,_,rfl,hg.shut h00 r00 h11 r11 hl hl2,by lia,hmc,fun x hx=>?_⟩;rcases fs2 x hx with h|h
     ·exact .inl h
     ·exact hft x h
   ·exact⟨as,gs,os,mc,_,_,_,rfl,hg,hfl,hmc,hft⟩
  ·refine Zw e3_1 ?_;refine⟨_,rfl,_,_,rfl,rfl,(by show(0:Int)<2;decide),rfl,_,rfl,Zew (fun c=>?_) (fun c=>Zdt (fin _ _ ⟨rfl,rfl⟩))⟩;refine⟨_,rfl,_,rfl,a,ns,19,rfl,hS2,h63,by decide,by decide,fun v2=>?_⟩;have x0:=Int.emod_nonneg v2 (by decide:(13:Int)≠0);have x1:=Int.emod_lt_of_pos v2 (by decide:(0:Int)<13);refine⟨_,_,rfl,rfl,(by show(0:Int)<13;decide),_,_,rfl,rfl,_,rfl,Zew (fun c2=>?_) (fun c2=>fin _ _ ⟨rfl,rfl⟩)⟩;have hm12:mc+1<=12:=by
    have:=of_decide_eq_true c2;lia
   have htg3:=hg.sm _ _ htg;obtain⟨k,hk,hkl⟩:=ZmG (wv / 2) (n:=3) (by decide);have hkl':k<ts.length:=by lia
   have hat:atI (ts.map V.str) (wv / 2 % 3)=some (.str ts[k]):=by
    have:=ZgI (ws:=ts) (n:=k) hkl';rw[<- hk] at this;exact this
   have hwm:=List.getElem_mem hkl';have hwn:=htn _ hwm;generalize ts[k]'hkl'=wd at hat hwm hwn;have hal:as.length=gs.length:=Paired.length hg.rows;have hgl:=hg.gl;refine Zw e3_1t0 ?_;refine⟨_,rfl,_,_,rfl,rfl,?_⟩;refine Zw e3_1t1 ?_;refine⟨_,rfl,.inl ⟨rfl,_,SqL.of hg.hT⟩,_,rfl,_,rfl,_,_,rfl,rfl,⟨by decide,by decide⟩,_,_,rfl,rfl,(by show(0:Int)<3;decide),tg,_,_,_,rfl,rfl,SqL.of htg3,hat,T,_,_,rfl,rfl,hg.hT,Zv (by rw[List.length_reverse,List.length_map];lia),?_⟩;have hRa2:(upd H2 T (.lst ((os.map V.str).reverse ++ [.str wd]))) R=some (.lst (as.map V.ref).reverse):=by
    rw[Zc hg.RT];exact hg.hR
   refine Zw e3_1t2 ?_;refine⟨_,rfl,.inl ⟨rfl,_,SqL.of hRa2⟩,by decide,fun l hl=>?_⟩;obtain⟨_,hl1⟩:=Zk hl;have hRb:(upd (upd H2 T (.lst ((os.map V.str).reverse ++ [.str wd]))) l (.lst [])) R=some (.lst (as.map V.ref).reverse):=by
    rw[Zc (Zi hg.hR hl1)];exact hRa2
   refine⟨R,_,_,rfl,rfl,hRb,Zv (by rw[List.length_reverse,List.length_map];lia),?_⟩;refine⟨_,_,_,mc+1,_,_,_,rfl,hg.opened hwn hl,?_,hm12,?_⟩
   ·rw[Zeq,List.length_append,List.length_singleton,List.length_cons];lia
   ·rw[Zeq];intro x hx;rcases List.mem_append.mp hx with hx|hx
    ·exact hft x hx
    ·rw[List.mem_singleton.mp hx];exact .inr hwm
 ·rintro σ H2 ⟨as,gs,os,mc,v5,v6,v7,rfl,hg,hfl,hmc,hft⟩;show u4 _ _ _;refine Zw e4 ?_
  let W:Nat->St->Hp->Prop:=fun n σ H3=>∃(as:List Addr)(gs:List (Gr Str))(os:List Str)(v7:Option V),σ =[some (.ref a),some (.ref tg),some (.ref R),some (.ref T),some (.int (mc:Int)),v5,v6,v7]/\GvS H H3 R T as gs os/\(Zbb SL gs os).length+os.length=2*mc/\(∀x∈Zbb SL gs os,x=SL\/x∈ts)/\n=os.length
  refine⟨W,⟨_,as,gs,os,v7,rfl,hg,hfl,hft,rfl⟩,?_⟩;clear hg hfl hft;rintro n σ H3 ⟨as,gs,os,v7,rfl,hg,hfl,hft,rfl⟩;refine⟨_,rfl,T,_,rfl,.inl (SqL.of hg.hT),_,_,rfl,rfl,_,rfl,Zew (fun c=>?_) (fun c=>?_)⟩
  ·cases os with
   | nil=>exact absurd (of_decide_eq_true c) (by decide)
   | cons t os =>
    obtain⟨b0,b1,as,g0,g1,gs,vs0,vs1,rfl,rfl,hgs,h00,r00,h11,r11,hRs,hTs⟩:=hg.two;obtain⟨fs1,fs2,fs3⟩:=Zfo (g0:=g0) (g1:=g1) (t:=t) hgs;have hv1:=r11.length;refine⟨fun σ' H'=>∃m',m'<(t::os).length/\W m' σ' H',fun _ _ h=>h,?_⟩;rw[List.length_cons] at hfl;refine Zw e4_0 ?_;refine⟨_,rfl,.inl ⟨rfl,_,SqL.of hRs⟩,R,_,_,rfl,rfl,hRs,Zay _ _,?_⟩;rw[Zav];refine⟨b0,vs0,rfl,.inl ⟨SqL.of (hg.f1 h00),fun l hl=>?_⟩⟩;obtain⟨hRb,h1b,hTb⟩:=hg.f2 (vs0:=vs0) h11 hl;refine Zw e4_1 ?_;refine⟨_,rfl,1,rfl,R,_,-1,.ref b1,rfl,rfl,SqL.of hRb,Zbm _ _,.inl ⟨rfl,_,SqL.of h1b⟩,_,rfl,.inl ⟨rfl,_,SqL.of hTb⟩,T,_,_,rfl,rfl,hTb,Zay _ _,?_⟩;rw[Zav];refine⟨_,rfl,(by show 2<=sizeLine;decide),fun l2 hl2=>?_⟩;refine⟨b1,_,_,rfl,rfl,hg.f3 h11 hl hl2,Zv (by lia),?_⟩;refine⟨os.length,by rw[List.length_cons];lia,_,_,_,_,rfl,hg.shut h00 r00 h11 r11 hl hl2,by lia,fun x hx=>?_,rfl⟩;rcases fs2 x hx with h|h
    ·exact .inl h
    ·exact hft x h
  ·cases os with
   | cons t os =>
    refine absurd (decide_eq_true ?_) c;show(0:Int)<((((t::os).map V.str).reverse.length:Nat):Int);rw[List.length_reverse,List.length_map,List.length_cons];lia
   | nil =>
    have hgl:=hg.gl;have hrows:=hg.rows;cases gs with
    | nil=>simp at hgl
    | cons g gs =>
     obtain rfl:gs=[]:=List.eq_nil_of_length_eq_zero (by simpa using hgl);cases hrows with
     | @cons b _ _ _ r hrows =>
      cases hrows;obtain⟨vs,hb,hgr⟩:=r;show u5 _ _ _;refine Zw e5 ?_;refine⟨_,rfl,R,_,0,.ref b,rfl,rfl,SqL.of hg.hR,rfl,b,vs,rfl,.inl ⟨SqL.of hb,fun r hr=>?_⟩⟩;have hfl':(words SL g).length+0=2*mc:=hfl;have hgz:=ZR g;have hcl:=hg.cl g (List.mem_cons_self ..);exact q r vs g _ (hg.sm.upd_new (hg.sm.free hr)) (hg.sm.free hr) Zb (hgr.mono (TK.new hr)) hcl (by lia) (ZbM.of hcl hft)
def Zdw(d:Nat):Sp:=fun vs H Q _=>∃(q:Addr)(xs:List V)(g:Gr Str),vs=[.ref q]/\H q=some (.tup xs)/\RepG H xs g/\Zbo g<d/\gsz g<=1000/\∀(r:Addr)(H':Hp),Zn H H'->H r=none->H' r=some (.lst ((words SL g).map V.str))->Q (.ref r) H'
set_option maxHeartbeats 2000000 in
theorem ZhV(d:Nat)(B:∀x∈ZbN,mg x=none)(g_l_words:Has P w K mg base "_law_words" ["_law_grove_here"] d (Zdw d)) (F:Fun K "_law_words" "_law_words" Zbx f fd):FnOk P w K mg base CX0 (d+1) f fd ["_law_grove_here"] (Zdw (d+1)):=by
 refine F.ok Zbr (fun vs H Q E h=>?_) (fun cdv A outer s H vs Q E hr h=>?_)
 ·obtain⟨q,xs,g,rfl,_⟩:=h;rfl
 obtain⟨qg,xs,g,rfl,hqg,hG,hd,hz,qq⟩:=h;refine⟨_,(Zd (Zm (i:=1) Zbr.nd rfl (Or.inl rfl) (Zaa Ze))
  (Zd (ZaP PassesOwn.never rfl (Zc0 (pv 0)) (Zfn rfl (Zas (ZD (i:=2) Zbr.nd rfl (Or.inl rfl)) (Zas (ZD (i:=3) Zbr.nd rfl (Or.inl rfl)) ZcJ)))
   (Zj (Zm (i:=1) Zbr.nd rfl (Or.inl rfl) (Zr Zet (Zr Zet (Zr Zet (pv 1) (Zaa (Za (pv 2) Ze))) (Zx g_l_words hr rfl (Za (pv 3) Ze) (by lia))) (Zaa (Za ZaJ Ze))))))
  (Zj (ZL (pv 1))))),?_⟩
 refine⟨by decide,fun L0 hL0=>?_⟩;have s0:Zn H (upd H L0 (.lst [])):=Zn.new hL0;have wl:∀g:Gr Str,gsz g<=1000->(words SL g).length<=2000:=fun g h=>by have:=ZR g;lia
 refine⟨_,rfl,qg,rfl,⟨_,SqT.of (s0 _ _ hqg)⟩,ZcB (K:=K) (a:=qg) (xs:=xs) (fun i σ H1=>∃(L:Addr)(v2 v3:Option V),σ =[some (.ref qg),some (.ref L),v2,v3]/\Zn H H1/\H L=none/\H1 L=some (.lst ((words SL (Zbk i g)).map V.str)))
  ⟨L0,none,none,rfl,s0,hL0,Zb⟩ ?_ ?_ ?_⟩
 ·rintro i σ H1 _ ⟨_,_,_,_,s1,_⟩;exact SqT.of (s1 _ _ hqg)
 ·rintro i x σ H1 hx ⟨L,v2,v3,rfl,s1,hL,hL1⟩;obtain⟨pp,q,t,ys,w',rfl,h1,h2,h3,h4,h5⟩:=hG.tree i x hx;have k1:=Zf6 h5;have k2:=ZiC h5;have c2:gsz (Zbk i g)<=gsz g:=by
   have h6:∀(i:Nat)(g:Gr Str),gsz (Zbk i g)<=gsz g:=by
    intro i
    induction i with
    | zero=>exact fun _=>Nat.zero_le _
    | succ i ih =>
     intro g;cases g with
     | nil=>exact Nat.le_refl _
     | cons t w o =>
      have:=ih o;simp only[Zbk,gsz];lia
   exact h6 i g
  have l1:=wl (Zbk i g) (by lia);have l2:=wl w' (by lia);refine⟨pp,_,rfl,SqT.of (s1 _ _ h1),rfl,_,_,rfl,_,_,rfl,rfl,?_⟩;refine⟨_,rfl,_,rfl,(by show 1<=sizeLine;decide),fun l1' hl1=>?_⟩;have y1:=Zn.new (o:=.lst [.str t]) hl1;refine⟨L,l1',_,_,rfl,rfl,y1 _ _ hL1,Zb,Zao (by rw[List.length_map];show _+1<=_;lia),fun l2' hl2=>?_⟩;have y2:=Zn.new (o:=.lst ((words SL (Zbk i g)).map V.str ++ [.str t])) hl2;have s3:=s1.trans (y1.trans y2);refine⟨_,rfl,q,ys,w',rfl,s3 _ _ h2,h3.mono s3.tk,by lia,by lia,fun r H4 s4 hr0 hr4=>?_⟩;refine⟨l2',r,_,_,rfl,rfl,s4 _ _ Zb,hr4,Zao (by rw[List.length_append,List.length_map,List.length_map];show _+1+_<=_;lia),fun l3 hl3=>⟨(by show 1<=sizeLine;decide),fun l4 hl4=>?_⟩⟩;have s5:=Zn.new (o:=.lst ((words SL (Zbk i g)).map V.str ++ [.str t]++(words SL w').map V.str)) hl3;have s6:=Zn.new (o:=.lst [.str SL]) hl4;refine⟨l3,l4,_,_,rfl,rfl,s6 _ _ Zb,Zb,Zao (by rw[List.length_append,List.length_append,List.length_map,List.length_map];show _+1+_+1<=_;lia),fun l5 hl5=>?_⟩;have s16:=s3.trans (s4.trans (s5.trans s6));refine⟨l5,_,_,rfl,s16.upd_new (s16.free hl5),s16.free hl5,?_⟩;rw[Zb,h4,Zbu];simp[words]
 ·rintro σ H1 ⟨L,v2,v3,rfl,s1,hL,hL1⟩;rw[hG.take_all] at hL1;exact⟨_,rfl,qq L H1 s1 hL hL1⟩
def ZdF(d:Nat):Sp:=fun vs H Q _=>∃(dd qa qi:Addr)(tt:List Str)(m:List (List Key×V))(kn:Kn)(ys xs:List V)(p:Pa)(g:Gr Str),vs=[.ref dd,.ref qa,.ref qi]/\H dd=some (.dT m)/\KnR H m kn/\KnZ tt kn/\H qa=some (.tup ys)/\RepP H ys p/\p.nk<=1/\p.sz<=3/\H qi=some (.tup xs)/\RepG H xs g/\gsz g<=200/\p.dep+1+5*Zbo g<d /\
 ∀(r:Addr)(zs:List V)(H':Hp),Zn H H'->H' r=some (.tup zs)->RepG H' zs (Zz (snG 0) (chG kn g) p)->Q (.ref r) H'
def ZcO(d:Nat):Sp:=fun vs H Q _=>∃(dd qg:Addr)(tt:List Str)(mo:Int)(m:List (List Key×V))(kn:Kn)(xs:List V)(g:Gr Str),vs=[.ref dd,.int mo,.ref qg]/\H dd=some (.dT m)/\KnR H m kn/\KnZ tt kn/\H qg=some (.tup xs)/\RepG H xs g/\gsz g<=200/\5*Zbo g<d /\
 ∀(r:Addr)(zs:List V)(H':Hp),Zn H H'->H' r=some (.tup zs)->RepG H' zs (chG kn g mo)->Q (.ref r) H'
theorem ZnT{vs:List V}{H:Hp}{Q:VK}{E:XK}(z:ZdF 0 vs H Q E):False:=by
 obtain⟨_,_,_,_,_,_,_,_,_,_,_,_,_,_,_,_,_,_,_,_,_,hd,_⟩:=z;exact absurd hd (Nat.not_lt_zero _)
theorem ZnD{vs:List V}{H:Hp}{Q:VK}{E:XK}(z:ZcO 0 vs H Q E):False:=by
 obtain⟨_,_,_,_,_,_,_,_,_,_,_,_,_,_,_,hd,_⟩:=z;exact absurd hd (Nat.not_lt_zero _)
theorem ZeP{H:Hp}{xs:List V}{g:Gr Str}(h:RepG H xs g):xs.length<=gsz g:=by
 have h1:=h.kids;have h2:=Zg1 g;lia
theorem Pa.take_nk:∀(i:Nat)(p:Pa),(p.take i).nk<=p.nk
 | 0,_=>Nat.zero_le _
 | _+1,.nil=>Nat.le_refl _
 | i+1,.kids m o=>by have:=Pa.take_nk i o;simp only[Pa.take,Pa.nk];lia
 | i+1,.tag t w o=>by have:=Pa.take_nk i o;simp only[Pa.take,Pa.nk];lia
theorem ZkN{tt:List Str}{kn:Kn}(kz:KnZ tt kn){g:Gr Str}(hg:gsz g<=200){p:Pa}(h1:p.nk<=1)(h2:p.sz<=3):gsz (Zz (snG 0) (chG kn g) p)<=700:=by
 have:=ZdS (n:=0) (f:=chG kn g) (N:=600) (fun m=>by have:=ZfO kz (n:=0) g m;show gsz (chS (snG 0) kn g m)<=_;lia) p;have:p.nk*600<=600:=by
  rcases Nat.eq_zero_or_pos p.nk with z|z
  ·rw[z];lia
  ·rw[show p.nk=1 by lia];lia
 lia
set_option maxHeartbeats 4000000 in
theorem Zkk(d:Nat)(B:∀x∈ZbN,mg x=none)(g_l_turned:Has P w K mg base "_law_turned" ["_law_made_here","_law_mode","_law_grove_here"] d (ZcO d)) (g_l_put:Has P w K mg base "_law_put" ["_law_made_here","_law_parts_here","_law_inner"] d (ZdF d)) (F:Fun K "_law_put" "_law_put" ZcQ f fd):FnOk P w K mg base CX0 (d+1) f fd ["_law_made_here","_law_parts_here","_law_inner"] (ZdF (d+1)):=by
 refine F.ok Zcl (fun vs H Q E h=>?_) (fun cdv A outer s H vs Q E hr h=>?_)
 ·obtain⟨dd,qa,qi,tt,m,kn,ys,xs,p,g,rfl,_⟩:=h;rfl
 obtain⟨dd,qa,qi,tt,m,kn,ys,xs,p,g,rfl,hdd,hkn,kz,hqa,hP,hnk,hsz,hqi,hG,hgs,hlv,qq⟩:=h;refine⟨_,(Zd (Zm (i:=3) Zcl.nd rfl (Or.inl rfl) (Z1 Ze))
  (Zd (ZaP PassesOwn.never rfl (Zc0 (pv 1)) (ZD (i:=4) Zcl.nd rfl (Or.inl rfl))
   (Zj (Za8 (ZK Zca (ZF Z3 (pv 4) Zh (fun _ _=>rfl)) ZaJ (Z0 _))
     (Zj (Zm (i:=3) Zcl.nd rfl (Or.inl rfl) (Zr ZdC (pv 3) (Zx g_l_turned hr rfl (Za (pv 0) (Za (ZF Z3 (pv 4) Zh (fun _ _=>rfl)) (Za (pv 2) Ze))) (by lia)))))
     (Zj (Zm (i:=3) Zcl.nd rfl (Or.inl rfl) (Zr ZdC (pv 3) (Z1 (Za (Z1 (Za (ZF Z3 (pv 4) Zh (fun _ _=>rfl)) (Za (Zx g_l_put hr rfl (Za (pv 0) (Za (ZF Z3 (pv 4) Zh (fun _ _=>rfl)) (Za (pv 2) Ze))) (by lia)) Ze))) Ze))))))))
  (Zj (ZL (pv 3))))),?_⟩
 refine⟨by decide,fun L0 hL0=>?_⟩;have s0:Zn H (upd H L0 (.tup [])):=Zn.new hL0;refine⟨_,rfl,qa,rfl,⟨_,SqT.of (s0 _ _ hqa)⟩,ZcB (K:=K) (a:=qa) (xs:=ys) (fun i σ H1=>∃(L:Addr)(zs:List V)(v4:Option V),σ =[some (.ref dd),some (.ref qa),some (.ref qi),some (.ref L),v4]/\Zn H H1/\H1 L=some (.tup zs)/\RepG H1 zs (Zz (snG 0) (chG kn g) (p.take i)))
  ⟨L0,[],none,rfl,s0,Zb,.nil⟩ ?_ ?_ ?_⟩
 ·rintro i σ H1 _ ⟨_,_,_,_,s1,_⟩;exact SqT.of (s1 _ _ hqa)
 ·rintro i x σ H1 hx ⟨L,zs,v4,rfl,s1,hL1,rL⟩;obtain⟨a,rfl,ha⟩:=hP.at i x hx;have t1:=Pa.take_nk i p;have t2:=p.take_sz i;have t3:=ZkN kz hgs (p:=p.take i) (by lia) (by lia);have lL:=ZeP rL;rcases ha with⟨mo,h1,h2⟩|⟨t,q',ys',w',h1,h2,h3,h4,h5,h6⟩
  ·have h1':=s1 _ _ h1;refine⟨_,rfl,a,_,0,_,rfl,rfl,SqT.of h1',rfl,rfl,_,rfl,Zhj ?_⟩;refine⟨_,rfl,_,rfl,_,rfl,a,_,1,_,rfl,rfl,SqT.of h1',rfl,_,rfl,dd,qi,tt,mo,m,kn,xs,g,rfl,s1 _ _ hdd,hkn.tk s1.tk,kz,s1 _ _ hqi,hG.mono s1.tk,hgs,by lia,fun r rs H2 s2 hr2 rr=>?_⟩;have l2:=ZeP rr;have l3:=ZfO kz (n:=0) g mo;have l3:gsz (chG kn g mo)<=3*gsz g:=l3;refine⟨L,r,zs,rs,rfl,rfl,s2 _ _ hL1,hr2,Zao (by lia),fun L2 H3 s3 hL3=>?_⟩;refine⟨L2,_,_,rfl,s1.trans (s2.trans s3),hL3,?_⟩;rw[h2,ZaT];have e:Zz (snG 0) (chG kn g) (Pa.kids mo .nil)=chG kn g mo:=(snG 0).bs_no _;rw[e];exact RepG.ZaK (rL.mono (s2.trans s3).tk) (rr.mono s3.tk)
  ·have h1':=s1 _ _ h1;have u1:=Pa.take_nk (i+1) p;have u2:=p.take_sz (i+1);have hnkw:w'.nk<=1:=by
    rw[h4,Pa.ZfL] at u1;simp only[Pa.nk] at u1;lia
   have hszw:w'.sz<=3:=by
    rw[h4,Pa.ZfX] at u2;simp only[Pa.sz] at u2;lia
   refine⟨_,rfl,a,_,0,_,rfl,rfl,SqT.of h1',rfl,rfl,_,rfl,Zdt ?_⟩;refine⟨_,rfl,_,rfl,a,_,1,_,rfl,rfl,SqT.of h1',rfl,_,rfl,_,rfl,a,_,2,_,rfl,rfl,SqT.of h1',rfl,_,rfl,dd,q',qi,tt,m,kn,ys',xs,w',g,rfl,s1 _ _ hdd,hkn.tk s1.tk,kz,s1 _ _ h2,h3.mono s1.tk,hnkw,hszw,s1 _ _ hqi,hG.mono s1.tk,hgs,by lia,fun r rs H2 s2 hr2 rr=>?_⟩;refine⟨(by show 2<=sizeLine;decide),fun l1 hl1=>⟨(by show 1<=sizeLine;decide),fun l2 hl2=>?_⟩⟩;have y1:=Zn.new (o:=.tup [.str t,.ref r]) hl1;have y2:=Zn.new (o:=.tup [.ref l1]) hl2;have y12:=y1.trans y2;refine⟨L,l2,zs,[.ref l1],rfl,rfl,y12 _ _ (s2 _ _ hL1),Zb,Zao (by show _+1<=_;lia),fun L2 H3 s3 hL3=>?_⟩;have k13:=s2.trans (y12.trans s3);refine⟨L2,_,_,rfl,s1.trans k13,hL3,?_⟩;rw[h4,ZaT];have e:Zz (snG 0) (chG kn g) (Pa.tag t w' .nil)=.cons t (Zz (snG 0) (chG kn g) w') .nil:=(snG 0).bs_no _;rw[e];exact RepG.ZaK (rL.mono k13.tk) (.cons (s3 _ _ (y2 _ _ Zb)) (s3 _ _ (y12 _ _ hr2)) (rr.mono (y12.trans s3).tk) .nil)
 ·rintro σ H1 ⟨L,zs,v4,rfl,s1,hL1,rL⟩;rw[hP.take_all] at rL;exact⟨_,rfl,qq L zs H1 s1 hL1 rL⟩
theorem Zhd(kn:Kn)(m:Int):∀a b:Gr Str,chG kn (ZaK a b) m=ZaK (chG kn a m) (chG kn b m)
 | .nil,_=>rfl
 | .cons t w o,b=>by
  show ZaK (Zz (snG 0) (chS (snG 0) kn w) (paC kn m t)) (chG kn (ZaK o b) m)=ZaK (ZaK (Zz (snG 0) (chS (snG 0) kn w) (paC kn m t)) (chG kn o m)) (chG kn b m);rw[Zhd kn m o b,ZcT]
set_option maxHeartbeats 4000000 in
theorem ZgT(d:Nat)(B:∀x∈ZbN,mg x=none)(g_l_put:Has P w K mg base "_law_put" ["_law_made_here","_law_parts_here","_law_inner"] d (ZdF d)) (g_l_turned:Has P w K mg base "_law_turned" ["_law_made_here","_law_mode","_law_grove_here"] d (ZcO d)) (F:Fun K "_law_turned" "_law_turned" ZaV f fd):FnOk P w K mg base CX0 (d+1) f fd ["_law_made_here","_law_mode","_law_grove_here"] (ZcO (d+1)):=by
 refine F.ok Za2 (fun vs H Q E h=>?_) (fun cdv A outer s H vs Q E hr h=>?_)
 ·obtain⟨dd,qg,tt,mo,m,kn,xs,g,rfl,_⟩:=h;rfl
 obtain⟨dd,qg,tt,mo,m,kn,xs,g,rfl,hdd,hkn,kz,hqg,hG,hgs,hlv,qq⟩:=h;have hu1:(A.deeper (PyProof.Rows.envOfC (Str.ofString "_law_turned") (Zg ZaV) s.heap.objs.size f cdv)).units+1<cLine:=by have:=hr.un;lia
 refine⟨_,(Zd (Zm (i:=3) Za2.nd rfl (Or.inl rfl) (Z1 Ze))
  (Zd (ZaP PassesOwn.never rfl (Zc0 (pv 2)) (Zfn rfl (Zas (ZD (i:=4) Za2.nd rfl (Or.inl rfl)) (Zas (ZD (i:=5) Za2.nd rfl (Or.inl rfl)) ZcJ)))
   (Zj (Za8 (Zmf (Zl4 hu1 (Z1 (Za (pv 1) (Za (pv 4) Ze))) (pv 0)))
     (Zj (Zm (i:=3) Za2.nd rfl (Or.inl rfl) (Zr ZdC (pv 3) (Zx g_l_put hr rfl (Za (pv 0) (Za (ZcE hu1 (pv 0) (Z1 (Za (pv 1) (Za (pv 4) Ze))) (fun _ _=>rfl)) (Za (pv 5) Ze))) (by lia)))))
     (Zj (Zm (i:=3) Za2.nd rfl (Or.inl rfl) (Zr ZdC (pv 3) (Z1 (Za (Z1 (Za (pv 4) (Za (Zx g_l_turned hr rfl (Za (pv 0) (Za (pv 1) (Za (pv 5) Ze))) (by lia)) Ze))) Ze))))))))
  (Zj (ZL (pv 3))))),?_⟩
 refine⟨by decide,fun L0 hL0=>?_⟩;have s0:Zn H (upd H L0 (.tup [])):=Zn.new hL0;refine⟨_,rfl,qg,rfl,⟨_,SqT.of (s0 _ _ hqg)⟩,ZcB (K:=K) (a:=qg) (xs:=xs) (fun i σ H1=>∃(L:Addr)(zs:List V)(v4 v5:Option V),σ =[some (.ref dd),some (.int mo),some (.ref qg),some (.ref L),v4,v5]/\Zn H H1/\H1 L=some (.tup zs)/\RepG H1 zs (chG kn (Zbk i g) mo))
  ⟨L0,[],none,none,rfl,s0,Zb,.nil⟩ ?_ ?_ ?_⟩
 ·rintro i σ H1 _ ⟨_,_,_,_,_,s1,_⟩;exact SqT.of (s1 _ _ hqg)
 ·rintro i x σ H1 hx ⟨L,zs,v4,v5,rfl,s1,hL1,rL⟩;obtain⟨pp,q,t,ys,w',rfl,h1,h2,h3,h4,h5⟩:=hG.tree i x hx;have c1:gsz (chG kn (Zbk i g) mo)<=3*gsz (Zbk i g):=ZfO kz (n:=0) (Zbk i g) mo;have c2:gsz (Zbk i g)<=gsz g:=by
   have h6:∀(i:Nat)(g:Gr Str),gsz (Zbk i g)<=gsz g:=by
    intro i
    induction i with
    | zero=>exact fun _=>Nat.zero_le _
    | succ i ih =>
     intro g;cases g with
     | nil=>exact Nat.le_refl _
     | cons t w o =>
      have:=ih o;simp only[Zbk,gsz];lia
   exact h6 i g
  have lL:=ZeP rL;have k1:=Zf6 h5;have k2:=ZiC h5;have h1':=s1 _ _ h1;have eT:chG kn (Zbk (i+1) g) mo=ZaK (chG kn (Zbk i g) mo) (Zz (snG 0) (chG kn w') (paC kn mo t)):=by
   rw[h4,Zhd]
   congr 1
   exact Zcp _
  refine⟨pp,_,rfl,SqT.of h1',rfl,_,_,rfl,_,_,rfl,rfl,?_⟩;refine⟨_,rfl,_,rfl,(by show 2<=sizeLine;decide),fun k1' hk1=>?_⟩;have x1:Zn H1 (upd H1 k1' (.tup [.int mo,.str t])):=Zn.new hk1;have s2:=s1.trans x1;refine⟨_,rfl,dd,_,rfl,Zee.t (k:=ZaI mo t) (s2 _ _ hdd) Zb,_,rfl,?_⟩;rcases hkn mo t with⟨e1,e2⟩|⟨q1,zs',p,e1,e2,e3,e4⟩
  ·have e1':Zbe m (ZaI mo t)=none:=e1;have ep:Zz (snG 0) (chG kn w') (paC kn mo t)=.cons t (chG kn w' mo) .nil:=by
    unfold paC;rw[e2];show ZaK (.cons t (ZaK (chG kn w' mo) .nil) .nil) .nil=_;rw[Zcp,Zcp]
   rw[e1'];refine Zdt ?_;refine⟨_,rfl,_,rfl,_,rfl,_,rfl,_,rfl,dd,q,tt,mo,m,kn,ys,w',rfl,s2 _ _ hdd,hkn.tk s2.tk,kz,s2 _ _ h2,h3.mono s2.tk,by lia,by lia,fun r rs H4 s4 hr4 rr=>?_⟩;refine⟨(by show 2<=sizeLine;decide),fun l1 hl1=>⟨(by show 1<=sizeLine;decide),fun l2 hl2=>?_⟩⟩;have y1:=Zn.new (o:=.tup [.str t,.ref r]) hl1;have y2:=Zn.new (o:=.tup [.ref l1]) hl2;have y12:=y1.trans y2;refine⟨L,l2,zs,[.ref l1],rfl,rfl,y12 _ _ (s4 _ _ (x1 _ _ hL1)),Zb,Zao (by show _+1<=_;lia),fun L2 H5 s5 hL5=>?_⟩;have k15:=(x1.trans s4).trans (y12.trans s5);refine⟨L2,_,_,_,rfl,s1.trans k15,hL5,?_⟩;rw[eT,ep];exact RepG.ZaK (rL.mono k15.tk) (.cons (s5 _ _ (y2 _ _ Zb)) (s5 _ _ (y12 _ _ hr4)) (rr.mono (y12.trans s5).tk) .nil)
  ·have e1':Zbe m (ZaI mo t)=some (.ref q1):=e1;have ep:paC kn mo t=p:=by
    unfold paC;rw[e4];rfl
   obtain⟨n1,n2⟩:=kz.psz mo t;rw[ep] at eT n1 n2;have hd6:=p.ZcY;rw[e1'];refine Zhj ?_;refine⟨_,rfl,_,rfl,_,rfl,_,rfl,_,rfl,(by show 2<=sizeLine;decide),fun k2' hk2=>?_⟩;have x2:=Zn.new (o:=.tup [.int mo,.str t]) hk2;have s3:=s2.trans x2;have hg:=Zee.t (k:=ZaI mo t) (s3 _ _ hdd) (show(upd (upd H1 k1' (.tup [.int mo,.str t])) k2' (.tup [.int mo,.str t])) k2'=_ from Zb);rw[e1'] at hg;refine⟨dd,_,rfl,hg,_,rfl,dd,q1,q,tt,m,kn,zs',ys,p,w',rfl,s3 _ _ hdd,hkn.tk s3.tk,kz,s3 _ _ e2,e3.mono s3.tk,n2,n1,s3 _ _ h2,h3.mono s3.tk,by lia,by lia,fun r rs H4 s4 hr4 rr=>?_⟩;have l3:=ZkN kz (g:=w') (by lia) n2 n1;have l2:=ZeP rr;have x13:=x1.trans (x2.trans s4);refine⟨L,r,zs,rs,rfl,rfl,x13 _ _ hL1,hr4,Zao (by lia),fun L2 H5 s5 hL5=>?_⟩;have k15:=x13.trans s5;refine⟨L2,_,_,_,rfl,s1.trans k15,hL5,?_⟩;rw[eT];exact RepG.ZaK (rL.mono k15.tk) (rr.mono s5.tk)
 ·rintro σ H1 ⟨L,zs,v4,v5,rfl,s1,hL1,rL⟩;rw[hG.take_all] at rL;exact⟨_,rfl,qq L zs H1 s1 hL1 rL⟩
def Zgv:Sp:=fun vs H Q _=>∃(d:Addr)(md:Int)(ts:List Str)(m:List (List Key×V))(rs:List (Int×Str×Pa)),vs=[.int md,.ref d]/\H d=some (.dT m)/\RkL H m rs/\RsOk ts md rs/\rs.length<=10 /\
 ∀(rc:Addr)(rp:List (Int×Str×Pa))(H':Hp),Zn H H'->ChC H' rc md rp->KnM rs (Zaf rp)->(∀r∈rp,r∈rs)->Q (.ref rc) H'
set_option maxHeartbeats 4000000 in
theorem Zfi(B:∀x∈ZbN,mg x=none)(F:Fun K "_law_changer" "_law_changer" ZaL f fd):FnOk P w K mg base CX0 1 f fd ["_law_modes","_law_made_here"] Zgv:=by
 refine F.ok ZfS (fun vs H Q E h=>?_) (fun cdv A outer s H vs Q E hr h=>?_)
 ·obtain⟨d,md,ts,m,rs,rfl,_⟩:=h;rfl
 obtain⟨d,md,ts,m,rs,rfl,hd,hrk,hro,hrl,qq⟩:=h;have hu:=Zfe hr;have hu1:(A.deeper (PyProof.Rows.envOfC (Str.ofString "_law_changer") (Zg ZaL) s.heap.objs.size f cdv)).units+1<cLine:=by have:=hr.un;lia
 refine⟨_,(Zj (ZL (Z1 (Za (pv 0) (Za (Zaw Zan rfl (B "tuple" (by decide)) ZbH (Za (Zff (cl:=_) ["_law_key"] [("_law_made_here",1)] (ZbT (Zaj (ZdV rfl) rfl (B "sorted" (by decide)) Zir (Za (pv 1) Ze))) (fun _ _ _ _=>(ZD (i:=0) (show List.Nodup (["_law_key","_law_made_here"]:List Str) by decide) rfl (Or.inl rfl))) (fun _ _ _ _=>(Z1 (Za (ZF (ZgB (K:=K) rfl) (pv 0) Zh (fun _ _=>rfl)) (Za (ZF (ZgB (K:=K) rfl) (pv 0) Zh (fun _ _=>rfl)) (Za (ZcE hu1 (pv 1) (pv 0) (fun _ _=>rfl)) Ze))))) rfl rfl (by decide) rfl (by decide) (ZjE (by(repeat' first|exact List.forall_mem_nil _|refine List.forall_mem_cons.mpr ⟨?_,?_⟩) <;> rfl)) (ZgG (by(repeat' first|exact List.forall_mem_nil _|refine List.forall_mem_cons.mpr ⟨?_,?_⟩) <;> first|(intro h;exact⟨_,rfl⟩)|(intro h;exact absurd h (by decide)))) (fun _=>by(repeat' first|exact List.forall_mem_nil _|refine List.forall_mem_cons.mpr ⟨?_,?_⟩) <;> exact⟨rfl,rfl,Or.inl rfl⟩) (fun _=>rfl)) Ze)) Ze))))),?_⟩
 have hmk:m.map (·.1)=(rs.map fun r=>((r.1,r.2.1):Srd.Ps)).map psK:=by
  rw[hrk.keys,List.map_map];rfl
 have hml:m.length=rs.length:=Paired.length hrk;refine⟨_,rfl,_,rfl,d,m,_,rfl,hd,by lia,hmk,fun ks zk ms hks hperm _ hzk=>?_⟩;have s3:Zn H (upd H ks (.lst zk)):=Zn.new hks;have hzk3:PsL (upd H ks (.lst zk)) zk ms:=hzk.keep s3.tk;have hk3:(upd H ks (.lst zk)) ks=some (.lst zk):=Zb;have hd3:=s3 _ _ hd;have hrk3:=hrk.tk s3.tk;generalize upd H ks (.lst zk)=H3 at s3 hzk3 hk3 hd3 hrk3 ⊢;have hzl:=hzk3.length;have hmsl:ms.length=rs.length:=by have:=hperm.length_eq;rw[List.length_map] at this;exact this
 refine⟨ks,rfl,⟨_,SqL.of hk3⟩,fun pc hpc=>?_⟩;refine Zil (K:=K) (a:=ks) (p:=pc) (xs:=zk) (fun i ys σ H4=>∃(v0:Option V)(rp:List (Int×Str×Pa)),σ =[v0,some (.ref d)]/\Zn H3 H4/\H4 pc=some (.lst ys)/\RlL H4 ys rp/\(rp.map fun r=>ZaI r.1 r.2.1)=(ms.take i).map psK/\∀r∈rp,r∈rs)
  ⟨none,[],rfl,Zn.new hpc,Zb,.nil,rfl,fun _ h=>(nomatch h)⟩ ?_ ?_ ?_
 ·rintro i ys σ H4 _ ⟨_,_,_,s4,h,_⟩;exact⟨SqL.of (s4 _ _ hk3),h⟩
 ·rintro i ys x σ H4 hi hx ⟨v0,rp,rfl,s4,hp,hrp,hkp,hsub⟩;obtain⟨pk,qk,g1,rfl,g2⟩:=hzk3.get i x hx;have g2':H4 pk=some (.tup [.int qk.1,.str qk.2]):=s4 _ _ g2;have hqm:psK qk∈rs.map fun r=>ZaI r.1 r.2.1:=by
   have h1:qk∈ms:=List.mem_of_getElem? g1;obtain⟨r,hr1,e⟩:=List.mem_map.mp (hperm.mem_iff.mp h1);exact List.mem_map.mpr ⟨r,hr1,by rw[<- e];rfl⟩
  obtain⟨r,hr1,er⟩:=List.mem_map.mp hqm;obtain⟨e1,e2⟩:=Zcs (i:=r.1) (t:=r.2.1) (j:=qk.1) (u:=qk.2) er;obtain⟨qp,yp,x1,x2,x3⟩:=hrk3.mem hro.nd r hr1;have hg:Zee H4 d (.ref pk) (some (.ref qp)):=by
   have:=Zee.t (k:=ZaI r.1 r.2.1) (s4 _ _ hd3) (by rw[g2',e1,e2];rfl);rw[x1] at this;exact this
  have hrpl:ys.length=i:=by
   have h1:ys.length=rp.length:=Paired.length hrp;have h2:=congrArg List.length hkp;rw[List.length_map,List.length_map,List.length_take] at h2;lia
  refine⟨_,rfl,pk,_,0,_,rfl,rfl,SqT.of g2',rfl,_,rfl,pk,_,1,_,rfl,rfl,SqT.of g2',rfl,_,rfl,_,rfl,d,_,rfl,hg,(by show 3<=sizeLine;decide),fun t3 ht3=>?_⟩;have s5:Zn H4 (upd H4 t3 (.tup [.int qk.1,.str qk.2,.ref qp])):=Zn.new ht3;refine⟨s5 _ _ hp,Zv (by lia),CW.next hi ⟨_,rp ++ [r],rfl,(s4.trans s5).upd_new hpc,Zb,?_,?_,fun r' hr'=>?_⟩⟩
  ·have tk:=s5.tk.trans (TK.lst (o:=.lst (ys ++ [.ref t3])) (s5 _ _ hp));have nt:t3≠pc:=fun z=>by rw[z,hp] at ht3;cases ht3
   refine Paired.app (hrp.tk tk) (.cons ⟨t3,qp,yp,rfl,?_,tk _ _ (s4 _ _ x2),(x3.mono s4.tk).mono tk⟩ .nil);rw[Zc nt,Zb,e1,e2]
  ·rw[List.map_append,hkp,ZW g1,List.map_append]
   congr 1
   show [ZaI r.1 r.2.1] =[psK qk];rw[e1,e2];rfl
  ·rcases List.mem_append.mp hr' with h|h
   ·exact hsub r' h
   ·rw[List.mem_singleton.mp h];exact hr1
 rintro ys σ H4 ⟨v0,rp,rfl,s4,hp,hrp,hkp,hsub⟩;rw[hzl,List.take_length] at hkp;have hkperm:(rp.map fun r=>ZaI r.1 r.2.1).Perm (rs.map fun r=>ZaI r.1 r.2.1):=by
  rw[hkp];have:=hperm.map psK;rw[List.map_map] at this;exact this
 have hrpn:(rp.map fun r=>ZaI r.1 r.2.1).Nodup:=hkperm.nodup_iff.mpr hro.nd;have hrpl:rp.length<=10:=by
  have:=hkperm.length_eq;rw[List.length_map,List.length_map] at this;lia
 have hKM:KnM rs (Zaf rp):=Zka hro.nd hkperm hsub (Zmi hrpn);refine⟨pc,ys,rfl,.inl ⟨SqL.of hp,fun rt hrt=>⟨(by show 2<=sizeLine;decide),fun rc hrc=>?_⟩⟩⟩;obtain⟨ncr,hrc0⟩:=Zk hrc;have s5:Zn H4 (upd (upd H4 rt (.tup ys)) rc (.tup [.int md,.ref rt])):=(Zn.new hrt).upd_new hrc0;refine qq rc rp _ ((s3.trans s4).trans s5) ⟨rt,ys,Zb,by rw[Zc ncr.symm];exact Zb,hrp.tk s5.tk,by lia,fun r hr1=>?_⟩ hKM hsub;have:=(hro.ok r (hsub r hr1));exact⟨by have:=this.2.2.1;lia,this.2.2.2.2⟩
def Dj(A B:List Addr):Prop := ∀x∈A,x∉B
theorem Dj.sym{A B:List Addr}(h:Dj A B):Dj B A:=fun x hx z=>h x z hx
theorem Dj.upd{H:Hp}{A A' B:List Addr}(h:Dj A B)(ha:∀x∈A',x∈A\/H x=none)(hb:∀y∈B,∃o,H y=some o):Dj A' B:=fun x hx z=>by
 rcases ha x hx with h1|h1
 ·exact h x h1 z
 ·obtain⟨o,e⟩:=hb x z;rw[h1] at e;cases e
def oS(a dk Bl:Addr)(ls:List Addr):List Addr:=a::dk::Bl::ls
theorem StAt.liveO{C:Addr}{H:Hp}{a dk Bl:Addr}{ls:List Addr}{kn:Kn}{bs:Bg}{n:Int}(h:StAt C H a dk Bl ls kn bs n):∀b∈oS a dk Bl ls,∃o,H b=some o/\∀xs,o ≠ .tup xs:=fun b hb=>by
 obtain⟨dx,h1⟩:=h.ho;obtain⟨m,h2,_⟩:=h.hk;rcases List.mem_cons.mp hb with rfl|hb
 ·exact⟨_,h1,fun _ z=>nomatch z⟩
 ·rcases List.mem_cons.mp hb with rfl|hb
  ·exact⟨_,h2,fun _ z=>nomatch z⟩
  ·obtain⟨xs,e⟩:=Fg.StAt.live h b hb;exact⟨_,e,fun _ z=>nomatch z⟩
theorem StAt.keepO{C:Addr}{H H':Hp}{a dk Bl:Addr}{ls:List Addr}{kn:Kn}{bs:Bg}{n:Int}{ex:List Addr}(h:StAt C H a dk Bl ls kn bs n)(k:Zbw ex H H')(hx:∀b∈ex,∀xs,H b≠some (.tup xs))(hd:Dj (oS a dk Bl ls) ex):StAt C H' a dk Bl ls kn bs n :=
 Fg.StAt.keep h k hx (hd a (by simp[oS])) (hd dk (by simp[oS])) (hd Bl (by simp[oS])) fun l hl=>hd l (by simp[oS,hl])
theorem Zda{C:Addr}{H:Hp}{a dk Bl:Addr}{ls:List Addr}{kn:Kn}{bs:Bg}{n:Int}(h:StAt C H a dk Bl ls kn bs n):∀b∈oS a dk Bl ls,∃o,H b=some o:=fun b hb=>by
 obtain⟨o,e,_⟩:=StAt.liveO h b hb;exact⟨o,e⟩
theorem ZeB{C:Addr}{H:Hp}{a dk Bl:Addr}{ls:List Addr}{kn:Kn}{bs:Bg}{n:Int}(h:StAt C H a dk Bl ls kn bs n):∀b ∈ [a,Bl],∀xs,H b≠some (.tup xs):=fun b hb xs e=>by
 obtain⟨o,e1,e2⟩:=StAt.liveO h b (by simp only[List.mem_cons,List.not_mem_nil,or_false] at hb;rcases hb with rfl|rfl <;> simp[oS])
 rw[e] at e1;injection e1 with e1;exact e2 xs e1.symm
theorem ZkZ{a dk Bl:Addr}{ls X:List Addr}(h:Dj X (oS a dk Bl ls)):Dj X [a,Bl]:=fun x hx z=>h x hx (by
 simp only[List.mem_cons,List.not_mem_nil,or_false] at z;rcases z with rfl|rfl <;> simp[oS])
theorem Zjl(kn:Kn):∀(us vs:List Str)(bs:Bg),Can SL bs.length (us++vs)->Can SL (Za9 kn bs us).2.length vs
 | [],vs,bs,h=>h
 | u::us,vs,bs,h=>by
  refine Zjl kn us vs (Za0 kn bs u).2 ?_;rw[Zhf];by_cases c:u=SL
  ·rw[if_pos c];subst c;exact(ZcL.mp h).2
  ·rw[if_neg c];exact(ZcS c).mp h
theorem Zjz{us:List Str}(hc:Can SL 0 us)(hl:∀x∈us,x=SL\/(Zez x/\x.length<=8))(kn:Kn){k:Nat}{x:Str}(hk:us[k]?= some x):(x=SL/\(Za9 kn [] (us.take k)).2 ≠ [])\/(Zez x/\x.length<=8):=by
 obtain⟨h1,h2⟩:=List.getElem?_eq_some_iff.mp hk;rcases hl x (List.mem_of_getElem? hk) with h|h
 ·refine .inl ⟨h,fun z=>?_⟩;have e:us=us.take k++(x::us.drop (k+1)):=by
   rw[<- h2,<- List.drop_eq_getElem_cons h1,List.take_append_drop]
  rw[e] at hc;have:=Zjl kn (us.take k) _ [] hc;rw[z,h] at this;exact absurd (ZcL.mp this).1 (by decide)
 ·exact .inr h
theorem Zgf(kn:Kn):∀(us:List Str)(bs:Bg),(Za9 kn bs us).2.length<=bs.length+us.length
 | [],bs=>Nat.le_refl _
 | u::us,bs=>by
  have h1:=Zgf kn us (Za0 kn bs u).2;have h2:=Zhf kn bs u;simp only[Za9,List.length_cons]
  split at h2 <;> lia
theorem ZgP:∀g:Gr Str,PyData.depthAll (Zct g)<=2*Zbo g
 | .nil=>Nat.le_refl _
 | .cons t w o=>by
  have h1:=ZgP w;have h2:=ZgP o;show max (max 0 (max (PyData.depthAll (Zct w)+1) 0)+1) (PyData.depthAll (Zct o))<=2*max (Zbo w+1) (Zbo o);lia
theorem Zje{K:PySem.W.Frag}{H:Hp}{a b:Addr}{xs ys:List V}{g:Gr Str}{neg:Bool}{Q:VK}(hA:H a=some (.tup xs))(hB:H b=some (.tup ys))(r1:RepG H xs g)(r2:RepG H ys g)(ok:OkW (words SL g))(hd:Zbo g<=90)(q:Q (.bl (!neg)) H):ZmD K neg (.ref a) (.ref b) H Q:=by
 have hy:(PyData.tuple (Zct g)).canLay0=true:=ZmN g ok;have h2:=ZgP g;refine⟨.tuple (Zct g),.tuple (Zct g),.tup (SqT.of hA) (dpG r1),.tup (SqT.of hB) (dpG r2),hy,hy,?_,?_⟩
 ·show min (PyData.depthAll (Zct g)+1) (PyData.depthAll (Zct g)+1)<=200;lia
 ·rw[PySem.SeqAt.eqv_refl _ hy];cases neg <;> exact q
theorem ZkF{ts:List Str}{md:Int}{rs rp:List (Int×Str×Pa)}(ho:RsOk ts md rs)(hs:∀r∈rp,r∈rs):KnZ ts (Zaf rp):=by
 refine⟨fun i t p e=>?_,fun i t p e=>?_,fun i t p e=>?_⟩ <;>
  rcases Zcg rp _ i t p e with h|⟨r,g1,rfl⟩
 ·cases h
 ·exact(ho.ok r (hs r g1)).2.2.1
 ·cases h
 ·exact(ho.ok r (hs r g1)).2.1
 ·cases h
 ·exact(ho.ok r (hs r g1)).2.2.2.1
theorem ZbM.letw{ts:List Str}(tl:∀t∈ts,Zez t/\t.length<=8){g:Gr Str}(h:ZbM ts g):∀x∈words SL g,x=SL\/(Zez x/\x.length<=8):=fun x hx=>(ZbM.words h x hx).imp id (tl x)
theorem Zhk{ws:List Str}(h:∀x∈ws,x=SL\/(Zez x/\x.length<=8)):OkW ws:=fun x hx=>(h x hx).elim (fun z=>by rw[z];exact Zma) fun z=>z.1.let0.ok
set_option maxHeartbeats 8000000 in
theorem Zmy{C_Stream:Addr}(B:∀x∈ZbN,mg x=none)(c_Stream:StC K C_Stream)(g_l_tags:Has P w K mg base "_law_tags" ["_law_cell_here"] 1 ZgA) (g_l_cell:Has P w K mg base "_law_cell" ["_law_script","_law_k"] 1 (ZdH K)) (g_l_made:Has P w K mg base "_law_made" ["_law_script","_law_at","_law_tags_here","_law_modes"] 2 (ZeU K)) (g_l_changer:Has P w K mg base "_law_changer" ["_law_modes","_law_made_here"] 1 Zgv) (g_l_grove:Has P w K mg base "_law_grove" ["_law_script","_law_tags_here"] 2 (Zd8 K)) (g_Stream:HasC P w K mg base C_Stream "Stream" ["self","changer"] 25 (Ze5 C_Stream)) (g_l_words:Has P w K mg base "_law_words" ["_law_grove_here"] 60 (Zdw 60)) (g_Stream_take:HasM P w K mg base C_Stream "take" ["self","word"] 25 (Zgq C_Stream)) (g_l_turned:Has P w K mg base "_law_turned" ["_law_made_here","_law_mode","_law_grove_here"] 140 (ZcO 140)) (g_Stream_owed:HasM P w K mg base C_Stream "owed" ["self"] 1 (Zjx C_Stream)) (g_changed:Has P w K mg base "changed" ["changer","grove","mode"] 26 ZbQ) (g_changedD:HasD P w K mg base "changed" ["changer","grove","mode"] [.int 0] 26 ZbQ)
  (F:Fun K "law" "law" ZaU f fd):FnOk P w K mg base CX0 141 f fd ["_law_script"] (Zj8 K):=by
 refine F.ok Za5 (fun vs H Q E h=>?_) (fun cdv A outer s H vs Q E hr h=>?_)
 ·obtain⟨a,ns,rfl,_⟩:=h;rfl
 obtain⟨a,ns,rfl,hS,h63,q⟩:=h;have hu:=Zfe hr;refine Zu ((Zf ZaU).drop 16) (Zj (ZL (ZgQ (Zmx hu) (ZjL g_changedD hr rfl (Za (pv 7) (Za (ZjL g_changedD hr rfl (Za (pv 6) (Za (pv 8) Ze))) Ze))) (pv 14) (Z0 _)))) (fun u16 h16 e16=>?_);refine Zu ((Zf ZaU).drop 15) (Zd (Za8 (ZK (Zjc hu) (Zx g_changed hr rfl (Za (pv 6) (Za (pv 8) (Za (pv 15) Ze)))) (Zx g_l_turned hr rfl (Za (pv 4) (Za (pv 15) (Za (pv 8) Ze)))) (Z0 _))
   (Zj (ZL Zh4))
   ZaH) h16) (fun u15 h15 e15=>?_)
 refine Zu ((Zf ZaU).drop 14) (Zd (Zm (i:=15) Za5.nd rfl (Or.inl rfl) (Zr Zah (Zx g_l_cell hr rfl (Za (pv 0) (Za Zh Ze))) (pv 2))) h15) (fun u14 h14 e14=>?_);refine Zu ((Zf ZaU).drop 13) (Zd (Za8 (PW.pt (Zla (ZK (Zjc hu) (pv 11) (Zx g_l_words hr rfl (Za (pv 14) Ze)) (Z0 _)) (Zla (ZK (Zfp hu) (Zdf g_Stream_owed hr (pv 9) c_Stream.cls) (Zaa Ze) (Z0 _)) (ZkO (ZK (Zfp hu) (Zdf g_Stream_owed hr (pv 10) c_Stream.cls) (Zaa Ze) (Z0 _))))))
   (Zj (ZL Zh4))
   ZaH) h14) (fun u13 h13 e13=>?_)
 refine Zu ((Zf ZaU).drop 12) (Zd (Zm (i:=14) Za5.nd rfl (Or.inl rfl) (Zx g_l_turned hr rfl (Za (pv 5) (Za Zh (Za (Zx g_l_turned hr rfl (Za (pv 4) (Za Zh (Za (pv 8) Ze)))) Ze))))) h13) (fun u12 h12 e12=>?_);refine Zu ((ZZ ((ZZ ((Zf ZaU).getD 11 (.Pass ⟨0,0,0,0⟩))).getD 0 (.Pass ⟨0,0,0,0⟩))).drop 0) (Zj (Zm (i:=11) Za5.nd rfl (Or.inl rfl) (Zr Zet (pv 11) (ZcU g_Stream_take hr (pv 10) c_Stream.cls (Za (pv 13) Ze))))) (fun u11_0_0 h11_0_0 e11_0_0=>?_);refine Zu ((ZZ ((Zf ZaU).getD 11 (.Pass ⟨0,0,0,0⟩))).drop 0) (Zj (ZaP PassesOwn.never rfl (ZbT (ZcU g_Stream_take hr (pv 9) c_Stream.cls (Za (pv 12) Ze))) (ZD (i:=13) Za5.nd rfl (Or.inl rfl))
   h11_0_0)) (fun u11_0 h11_0 e11_0=>?_)
 refine Zu ((Zf ZaU).drop 11) (Zd (ZaP PassesOwn.never rfl (ZbT (Zx g_l_words hr rfl (Za (pv 8) Ze))) (ZD (i:=12) Za5.nd rfl (Or.inl rfl))
   h11_0) h12) (fun u11 h11 e11=>?_)
 refine Zu ((Zf ZaU).drop 10) (Zd (Zm (i:=11) Za5.nd rfl (Or.inl rfl) (Zaa Ze)) h11) (fun u10 h10 e10=>?_);refine Zu ((Zf ZaU).drop 9) (Zd (Zm (i:=10) Za5.nd rfl (Or.inl rfl) (Zin g_Stream hr rfl (Za (pv 7) Ze))) h10) (fun u9 h9 e9=>?_);refine Zu ((Zf ZaU).drop 8) (Zd (Zm (i:=9) Za5.nd rfl (Or.inl rfl) (Zin g_Stream hr rfl (Za (pv 6) Ze))) h9) (fun u8 h8 e8=>?_);refine Zu ((Zf ZaU).drop 7) (Zd (Zm (i:=8) Za5.nd rfl (Or.inl rfl) (Zx g_l_grove hr rfl (Za (pv 0) (Za (pv 1) Ze)))) h8) (fun u7 h7 e7=>?_);refine Zu ((Zf ZaU).drop 6) (Zd (Zm (i:=7) Za5.nd rfl (Or.inl rfl) (Zx g_l_changer hr rfl (Za (pv 3) (Za (pv 5) Ze)))) h7) (fun u6 h6 e6=>?_);refine Zu ((Zf ZaU).drop 5) (Zd (Zm (i:=6) Za5.nd rfl (Or.inl rfl) (Zx g_l_changer hr rfl (Za (pv 2) (Za (pv 4) Ze)))) h6) (fun u5 h5 e5=>?_);refine Zu ((Zf ZaU).drop 4) (Zd (Zm (i:=5) Za5.nd rfl (Or.inl rfl) (Zx g_l_made hr rfl (Za (pv 0) (Za Zh (Za (pv 1) (Za (pv 3) Ze)))))) h5) (fun u4 h4 e4=>?_);refine Zu ((Zf ZaU).drop 3) (Zd (Zm (i:=4) Za5.nd rfl (Or.inl rfl) (Zx g_l_made hr rfl (Za (pv 0) (Za Zh (Za (pv 1) (Za (pv 2) Ze)))))) h4) (fun u3 h3 e3=>?_);refine Zu ((Zf ZaU).drop 2) (Zd (Zm (i:=3) Za5.nd rfl (Or.inl rfl) (Zr ZaN Zh (Zr Zah (Zx g_l_cell hr rfl (Za (pv 0) (Za Zh Ze))) Zh))) h3) (fun u2 h2 e2=>?_);refine Zu ((Zf ZaU).drop 1) (Zd (Zm (i:=2) Za5.nd rfl (Or.inl rfl) (Zr ZaN Zh (Zr Zah (Zx g_l_cell hr rfl (Za (pv 0) (Za Zh Ze))) Zh))) h2) (fun u1 h1 e1=>?_);refine Zu ((Zf ZaU).drop 0) (Zd (Zm (i:=1) Za5.nd rfl (Or.inl rfl) (Zx g_l_tags hr rfl (Za (Zr Zah (Zx g_l_cell hr rfl (Za (pv 0) (Za Zh Ze))) (Zr Zik Zh Zh)) Ze))) h1) (fun u0 h0 e0=>?_);refine⟨u0,h0,?_⟩;refine Zw e0 ?_;refine⟨_,rfl,a,ns,62,rfl,hS,h63,by decide,by decide,fun v1=>?_⟩;have w0:=Int.emod_nonneg v1 (by decide:((10:Int) ^ (9:Int).toNat)≠0);have w1:=Int.emod_lt_of_pos v1 (by decide:(0:Int)<((10:Int) ^ (9:Int).toNat));refine⟨_,_,rfl,rfl,⟨by decide,by decide,by decide⟩,_,_,rfl,rfl,(by show(0:Int)<10 ^ 9;decide),_,rfl,w0,w1,fun tg ts H1 s1 _ htg ht3 htt=>?_⟩;have tsl:∀t∈ts,t≠SL:=fun t ht=>(htt t ht).1.ne;have tso:∀t∈ts,PyData.strOk t=true:=fun t ht=>(htt t ht).1.let0.ok;refine Zw e1 ?_;refine⟨_,rfl,a,ns,0,rfl,s1.seq hS,h63,by decide,by decide,fun v2=>?_⟩;have p0:=Int.emod_nonneg v2 (by decide:(3:Int)≠0);have p1:=Int.emod_lt_of_pos v2 (by decide:(0:Int)<3);refine⟨_,_,rfl,rfl,(by show(0:Int)<3;decide),_,_,rfl,rfl,?_⟩;refine Zw e2 ?_;refine⟨_,rfl,a,ns,10,rfl,s1.seq hS,h63,by decide,by decide,fun v3=>?_⟩;have p2:=Int.emod_nonneg v3 (by decide:(3:Int)≠0);have p3:=Int.emod_lt_of_pos v3 (by decide:(0:Int)<3);refine⟨_,_,rfl,rfl,(by show(0:Int)<3;decide),_,_,rfl,rfl,?_⟩;refine Zw e3 ?_;refine⟨_,rfl,_,rfl,_,rfl,a,tg,ns,0,_,ts,rfl,s1.seq hS,h63,by decide,by decide,by lia,by lia,htg,ht3,fun d1 m1 r1 H2 s2 hd10 hd1 hrk1 hro1 hrl1=>?_⟩;have s12:=s1.trans s2;refine Zw e4 ?_;refine⟨_,rfl,_,rfl,_,rfl,a,tg,ns,10,_,ts,rfl,s12.seq hS,h63,by decide,by decide,by lia,by lia,s2 _ _ htg,ht3,fun d2 m2 r2 H3 s3 hd20 hd2 hrk2 hro2 hrl2=>?_⟩;have s13:=s12.trans s3;refine Zw e5 ?_;refine⟨_,rfl,_,rfl,d1,_,ts,m1,r1,rfl,s3 _ _ hd1,hrk1.tk s3.tk,hro1,hrl1,fun rc1 rp1 H4 s4 hch1 hKM1 hsub1=>?_⟩;have s14:=s13.trans s4;refine Zw e6 ?_;refine⟨_,rfl,_,rfl,d2,_,ts,m2,r2,rfl,s4 _ _ hd2,hrk2.tk s4.tk,hro2,hrl2,fun rc2 rp2 H5 s5 hch2 hKM2 hsub2=>?_⟩;have s15:=s14.trans s5;have s35:=s4.trans s5;refine Zw e7 ?_;refine⟨_,rfl,_,rfl,a,tg,ns,ts,rfl,s15.seq hS,h63,(s2.trans (s3.trans s35)) _ _ htg,ht3,tsl,fun gr xs G H6 s6 _ hgr rpG clG gzG tgG=>?_⟩;have s36:=s35.trans s6;have hd16:=(s3.trans s36) _ _ hd1;have hd26:=s36 _ _ hd2;have hkn1:KnR H6 m1 (Zaf rp1):=(hrk1.tk (s3.trans s36).tk).kn hro1.nd hKM1;have hkn2:KnR H6 m2 (Zaf rp2):=(hrk2.tk s36.tk).kn hro2.nd hKM2;have hch1:=hch1.tk (s5.trans s6).tk;have hch2:=hch2.tk s6.tk;have kz1:=ZkF hro1 hsub1;have kz2:=ZkF hro2 hsub2;have hok1:∀r∈rp1,r.2.2.nk<=1/\∀x∈r.2.2.tags,PyData.strOk x=true:=fun r hr1=>⟨(hro1.ok r (hsub1 r hr1)).2.1,fun x hx=>tso x ((hro1.ok r (hsub1 r hr1)).2.2.2.1 x hx)⟩;have hok2:∀r∈rp2,r.2.2.nk<=1/\∀x∈r.2.2.tags,PyData.strOk x=true:=fun r hr1=>⟨(hro2.ok r (hsub2 r hr1)).2.1,fun x hx=>tso x ((hro2.ok r (hsub2 r hr1)).2.2.2.1 x hx)⟩;have s16:=s15.trans s6;clear hrk1 hrk2 hd1 hd2 hd10 hd20 s2 s3 s4 s5 s6 s12 s13 s14 s35 s36 s1;refine Zw e8 ?_;refine⟨_,rfl,fun sa dr hsa hdr hne=>⟨sa,rc1,dr,rp1,rfl,Zb,hch1.chr.tk (making hsa hdr hne).tk,hok1,fun H7 dk Bl k7 hdk hBl S7=>⟨rfl,?_⟩⟩⟩;have s7:Zn H6 H7:=made hsa hdr fun b o hb e=>k7 b o (fun z=>hb (List.mem_singleton.mp z)) e;refine Zw e9 ?_;refine⟨_,rfl,fun sb dr2 hsb hdr2 hne2=>⟨sb,rc2,dr2,rp2,rfl,Zb,(hch2.chr.tk s7.tk).tk (making hsb hdr2 hne2).tk,hok2,fun H8 dk2 Bl2 k8 hdk2 hBl2 S8=>⟨rfl,?_⟩⟩⟩;have s8:Zn H7 H8:=made hsb hdr2 fun b o hb e=>k8 b o (fun z=>hb (List.mem_singleton.mp z)) e;have S7':=S7.same s8;have djA:Dj (oS sa dk Bl []) (oS sb dk2 Bl2 []):=fun x hx z=>by
  obtain⟨o,e⟩:=Zda S7 x hx;simp only[oS,List.mem_cons,List.not_mem_nil,or_false] at z;rcases z with rfl|rfl|rfl
  ·rw[hsb] at e;cases e
  ·rw[ZbE hdk2] at e;cases e
  ·rw[ZbE hBl2] at e;cases e
 have s68:=s7.trans s8;refine Zw e10 ?_;refine⟨by decide,fun L0 hL0=>?_⟩;have s9:Zn H8 (upd H8 L0 (.lst [])):=Zn.new hL0;have hL9:(upd H8 L0 (.lst [])) L0=some (.lst []):=Zb;have nL0a:L0∉oS sa dk Bl []:=fun z=>by
  obtain⟨o,e⟩:=Zda S7' L0 z;rw[hL0] at e;cases e
 have nL0b:L0∉oS sb dk2 Bl2 []:=fun z=>by
  obtain⟨o,e⟩:=Zda S8 L0 z;rw[hL0] at e;cases e
 have S9a:=S7'.same s9;have S9b:=S8.same s9;show u11 _ _ _;generalize upd H8 L0 (.lst [])=H9 at s9 hL9 S9a S9b ⊢;have s69:=s68.trans s9;have dG:=ZgS G;refine Zw e11 ?_;refine⟨_,rfl,gr,xs,G,rfl,s69 _ _ hgr,rpG.mono s69.tk,by lia,by lia,fun wl H10 s10 hwl0 hwl=>?_⟩;have S10a:=S9a.same s10;have S10b:=S9b.same s10;have hL10:=s10 _ _ hL9;have s610:=s69.trans s10;have hcG:Can SL 0 (words SL G):=Ze1 clG;have hlG:=ZbM.letw htt tgG;have tg1:ZbM ts (chG (Zaf rp1) G 0):=ZjG kz1 0 tgG;have cl1:=tg1.clean tsl;have hc1:Can SL 0 (words SL (chG (Zaf rp1) G 0)):=Ze1 cl1;have hl1:=ZbM.letw htt tg1;have z1:gsz (chG (Zaf rp1) G 0)<=36:=by have:=ZfO kz1 (n:=0) G 0;show gsz (chS (snG 0) (Zaf rp1) G 0)<=36;lia
 have dd1:Zbo (chG (Zaf rp1) G 0)<=25:=by have:=Zft kz1 (n:=0) G 0;show Zbo (chS (snG 0) (Zaf rp1) G 0)<=25;lia
 have tg2:ZbM ts (chG (Zaf rp2) (chG (Zaf rp1) G 0) 0):=ZjG kz2 0 tg1;have hl2:=ZbM.letw htt tg2;have z2:gsz (chG (Zaf rp2) (chG (Zaf rp1) G 0) 0)<=108:=by have:=ZfO kz2 (n:=0) (chG (Zaf rp1) G 0) 0;show gsz (chS (snG 0) (Zaf rp2) _ 0)<=108;lia
 have dd2:Zbo (chG (Zaf rp2) (chG (Zaf rp1) G 0) 0)<=51:=by have:=Zft kz2 (n:=0) (chG (Zaf rp1) G 0) 0;show Zbo (chS (snG 0) (Zaf rp2) _ 0)<=51;lia
 have ru1:Za9 (Zaf rp1) [] (words SL G)=(words SL (chG (Zaf rp1) G 0),[]):=by
  rw[Zcu S7.ok G [] clG,show words SL (chG (Zaf rp1) G 0)=chW (Zaf rp1) G 0 from Zdp (n:=0) (Zaf rp1) G 0];rfl
 have ru2:Za9 (Zaf rp2) [] (words SL (chG (Zaf rp1) G 0))=(words SL (chG (Zaf rp2) (chG (Zaf rp1) G 0) 0),[]):=by
  rw[Zcu S8.ok (chG (Zaf rp1) G 0) [] cl1,show words SL (chG (Zaf rp2) (chG (Zaf rp1) G 0) 0)=chW (Zaf rp2) (chG (Zaf rp1) G 0) 0 from Zdp (n:=0) (Zaf rp2) _ 0];rfl
 have wzG:=ZR G;have wz1:=ZR (chG (Zaf rp1) G 0);have wz2:=ZR (chG (Zaf rp2) (chG (Zaf rp1) G 0) 0);have part1:∀i,∃rest1,words SL (chG (Zaf rp1) G 0)=(Za9 (Zaf rp1) [] ((words SL G).take i)).1++rest1:=fun i=>by
  have h1:=Zcz (Zaf rp1) ((words SL G).take i) ((words SL G).drop i) [];rw[List.take_append_drop,ru1] at h1;exact⟨_,congrArg Prod.fst h1⟩
 have part2:∀i,∃rest2,words SL (chG (Zaf rp2) (chG (Zaf rp1) G 0) 0)=(Za9 (Zaf rp2) [] ((words SL (chG (Zaf rp1) G 0)).take i)).1++rest2:=fun i=>by
  have h1:=Zcz (Zaf rp2) ((words SL (chG (Zaf rp1) G 0)).take i) ((words SL (chG (Zaf rp1) G 0)).drop i) [];rw[List.take_append_drop,ru2] at h1;exact⟨_,congrArg Prod.fst h1⟩
 have tup4:∀b ∈ [sa,Bl,sb,Bl2],∀xs',H10 b≠some (.tup xs'):=fun b hb xs'=>by
  simp only[List.mem_cons,List.not_mem_nil,or_false] at hb;rcases hb with rfl|rfl|rfl|rfl
  ·exact ZeB S10a _ (by simp) xs'
  ·exact ZeB S10a _ (by simp) xs'
  ·exact ZeB S10b _ (by simp) xs'
  ·exact ZeB S10b _ (by simp) xs'
 have nwl:wl ∉ [sa,Bl,sb,Bl2]:=fun z=>by
  simp only[List.mem_cons,List.not_mem_nil,or_false] at z;rcases z with z|z|z|z
  ·obtain⟨o,e⟩:=Zda S9a wl (by simp[oS,z]);rw[hwl0] at e;cases e
  ·obtain⟨o,e⟩:=Zda S9a wl (by simp[oS,z]);rw[hwl0] at e;cases e
  ·obtain⟨o,e⟩:=Zda S9b wl (by simp[oS,z]);rw[hwl0] at e;cases e
  ·obtain⟨o,e⟩:=Zda S9b wl (by simp[oS,z]);rw[hwl0] at e;cases e
 generalize hkk1:Zaf rp1=kn1 at *;generalize hkk2:Zaf rp2=kn2 at *;refine⟨wl,rfl,⟨_,SqL.of hwl⟩,Zb0 (K:=K) (a:=wl) (xs:=(words SL G).map V.str) (fun i σ Ha=>∃(v12 v13:Option V)(L:Addr)(l1 l2:List Addr)(n1 n2:Int),σ =[some (.ref a),some (.ref tg),some (.int (1+v2 % 3)),some (.int (1+v3 % 3)),some (.ref d1),some (.ref d2),some (.ref rc1),some (.ref rc2),some (.ref gr),some (.ref sa),some (.ref sb),some (.ref L),v12,v13,none,none]/\Zbw [sa,Bl,sb,Bl2] H10 Ha/\StAt C_Stream Ha sa dk Bl l1 kn1 (Za9 kn1 [] ((words SL G).take i)).2 n1/\StAt C_Stream Ha sb dk2 Bl2 l2 kn2 (Za9 kn2 [] (Za9 kn1 [] ((words SL G).take i)).1).2 n2/\Dj (oS sa dk Bl l1) (oS sb dk2 Bl2 l2)/\L∉oS sa dk Bl l1/\L∉oS sb dk2 Bl2 l2/\Ha L=some (.lst ((Za9 kn2 [] (Za9 kn1 [] ((words SL G).take i)).1).1.map V.str)))
  ⟨none,none,L0,[],[],0,0,rfl,fun b o _ h=>h,S10a,S10b,djA,nL0a,nL0b,hL10⟩ ?_ ?_ ?_⟩
 ·rintro i σ Ha _ ⟨_,_,_,_,_,_,_,_,ka,_⟩;exact SqL.of (ka _ _ nwl hwl)
 ·rintro i x σ Ha hx ⟨v12,v13,L,l1,l2,n1,n2,rfl,ka,Sa,Sb,dj,nLa,nLb,hLa⟩;rw[List.getElem?_map] at hx;obtain⟨wd,hw,rfl⟩:=Option.map_eq_some_iff.mp hx;have hil:=(List.getElem?_eq_some_iff.mp hw).1;have stp1:Za9 kn1 [] ((words SL G).take (i+1))=((Za9 kn1 [] ((words SL G).take i)).1++(Za0 kn1 (Za9 kn1 [] ((words SL G).take i)).2 wd).1,(Za0 kn1 (Za9 kn1 [] ((words SL G).take i)).2 wd).2):=by
   rw[ZW hw];exact Zdz ..
  obtain⟨rest1,hp1⟩:=part1 (i+1);have hb1:=Zgf kn1 ((words SL G).take i) [];rw[List.length_take,List.length_nil] at hb1;rw[stp1] at hp1;have hp1:words SL (chG kn1 G 0)=((Za9 kn1 [] ((words SL G).take i)).1++(Za0 kn1 (Za9 kn1 [] ((words SL G).take i)).2 wd).1)++rest1:=hp1;obtain⟨dxa,hoa⟩:=Sa.ho;have gd1:=Zjz hcG hlG kn1 hw;generalize hO:(Za9 kn1 [] ((words SL G).take i)).1=o1 at *;generalize hB:(Za9 kn1 [] ((words SL G).take i)).2=b1 at *;refine Zw e11_0 ?_;refine⟨_,rfl,sa,dxa,_,rfl,hoa,rfl,_,rfl,sa,dk,Bl,l1,kn1,b1,n1,wd,rfl,Sa,by lia,gd1,fun r l1' Hb kb hr0 hl1' hrn hrb Sa'=>?_⟩;generalize hS1:Za0 kn1 b1 wd=st1 at *;obtain⟨out,b1'⟩:=st1;have hp1:words SL (chG kn1 G 0)=(o1++out)++rest1:=hp1;have hrb:Hb r=some (.lst (out.map V.str)):=hrb;have Sa':StAt C_Stream Hb sa dk Bl l1' kn1 b1' (n1+1):=Sa';have ta:=ZeB Sa;have Sb1:=StAt.keepO Sb kb ta (ZkZ dj.sym);have own1:∀x∈oS sa dk Bl l1',x∈oS sa dk Bl l1\/Ha x=none:=fun x hx=>by
   simp only[oS,List.mem_cons] at hx ⊢;rcases hx with hx|hx|hx|hx
   ·exact .inl (.inl hx)
   ·exact .inl (.inr (.inl hx))
   ·exact .inl (.inr (.inr (.inl hx)))
   ·exact(hl1' x hx).elim (fun z=>.inl (.inr (.inr (.inr z)))) .inr
  have dj1:=dj.upd own1 (Zda Sb);have rB:r∉oS sb dk2 Bl2 l2:=fun z=>by
   rcases hr0 with h|h
   ·obtain⟨o,e⟩:=Zda Sb r z;rw[h] at e;cases e
   ·exact dj r (by simp[oS,h]) z
  have nLx:L ∉ [sa,Bl]:=fun z=>nLa (by
   simp only[List.mem_cons,List.not_mem_nil,or_false] at z;rcases z with rfl|rfl <;> simp[oS])
  have hLb:=kb _ _ nLx hLa;have nLa':L∉oS sa dk Bl l1':=fun z=>by
   rcases own1 L z with h|h
   ·exact nLa h
   ·rw[hLa] at h;cases h
  have kab:Zbw [sa,Bl,sb,Bl2] H10 Hb:=fun b o hb e=>kb b o (fun z=>hb (by
   simp only[List.mem_cons,List.not_mem_nil,or_false] at z ⊢;rcases z with z|z
   ·exact .inl z
   ·exact .inr (.inl z))) (ka b o hb e)
  have hpl:(o1++out).length<=72:=by
   have:=congrArg List.length hp1;rw[List.length_append] at this;lia
  rw[List.length_append] at hpl;refine⟨r,rfl,⟨_,SqL.of hrb⟩,Zb0 (K:=K) (a:=r) (xs:=out.map V.str) (fun j σ Hc=>∃(v13:Option V)(L:Addr)(l2:List Addr)(n2:Int),σ =[some (.ref a),some (.ref tg),some (.int (1+v2 % 3)),some (.int (1+v3 % 3)),some (.ref d1),some (.ref d2),some (.ref rc1),some (.ref rc2),some (.ref gr),some (.ref sa),some (.ref sb),some (.ref L),some (.str wd),v13,none,none]/\Zbw [sb,Bl2] Hb Hc/\StAt C_Stream Hc sa dk Bl l1' kn1 b1' (n1+1)/\StAt C_Stream Hc sb dk2 Bl2 l2 kn2 (Za9 kn2 [] (o1++out.take j)).2 n2/\Dj (oS sa dk Bl l1') (oS sb dk2 Bl2 l2)/\L∉oS sa dk Bl l1'/\L∉oS sb dk2 Bl2 l2/\Hc L=some (.lst ((Za9 kn2 [] (o1++out.take j)).1.map V.str)))
   ⟨_,L,l2,n2,rfl,fun b o _ h=>h,Sa',by rw[List.take_zero,List.append_nil];exact Sb1,dj1,nLa',nLb,by rw[List.take_zero,List.append_nil];exact hLb⟩ ?_ ?_ ?_⟩
  ·rintro j σ Hc _ ⟨_,_,_,_,_,kc,_⟩;exact SqL.of (kc _ _ (fun z=>rB (by
    simp only[List.mem_cons,List.not_mem_nil,or_false] at z;rcases z with z|z <;> simp[oS,z])) hrb)
  ·rintro j x σ Hc hx ⟨v13,L,l2,n2,rfl,kc,Sc,Sd,dj2,nLc,nLd,hLc⟩;rw[List.getElem?_map] at hx;obtain⟨wx,hwx,rfl⟩:=Option.map_eq_some_iff.mp hx;have hjl:=(List.getElem?_eq_some_iff.mp hwx).1;have tkE:(words SL (chG kn1 G 0)).take (o1.length+j)=o1++out.take j:=by
    rw[hp1,List.append_assoc,List.take_append,List.take_of_length_le (by lia),show o1.length+j-o1.length=j by lia,List.take_append,show j-out.length=0 by lia,List.take_zero,List.append_nil]
   have atE:(words SL (chG kn1 G 0))[o1.length+j]?= some wx:=by
    rw[hp1,List.append_assoc,List.getElem?_append_right (by lia),show o1.length+j-o1.length=j by lia,List.getElem?_append_left hjl];exact hwx
   have gd2:=Zjz hc1 hl1 kn2 atE;rw[tkE] at gd2;have hb2:=Zgf kn2 (o1++out.take j) [];rw[List.length_append,List.length_take,List.length_nil] at hb2;obtain⟨rest2,hp2⟩:=part2 (o1.length+j+1);rw[ZW atE,tkE,Zdz] at hp2;have hp2:words SL (chG kn2 (chG kn1 G 0) 0)=((Za9 kn2 [] (o1++out.take j)).1++(Za0 kn2 (Za9 kn2 [] (o1++out.take j)).2 wx).1)++rest2:=hp2;have hl2':=congrArg List.length hp2;rw[List.length_append,List.length_append] at hl2';have stp2:Za9 kn2 [] (o1++out.take (j+1))=((Za9 kn2 [] (o1++out.take j)).1++(Za0 kn2 (Za9 kn2 [] (o1++out.take j)).2 wx).1,(Za0 kn2 (Za9 kn2 [] (o1++out.take j)).2 wx).2):=by
    rw[ZW hwx,<- List.append_assoc];exact Zdz ..
   obtain⟨dxb,hob⟩:=Sd.ho;refine Zw e11_0_0 ?_;refine⟨_,rfl,_,rfl,sb,dxb,_,rfl,hob,rfl,_,rfl,sb,dk2,Bl2,l2,kn2,_,n2,wx,rfl,Sd,by lia,gd2,fun r2 l2' Hd kd hr20 hl2'' hr2n hr2d Sd'=>?_⟩;have tb:=ZeB Sd;have Sc1:=StAt.keepO Sc kd tb (ZkZ dj2);have own2:∀x∈oS sb dk2 Bl2 l2',x∈oS sb dk2 Bl2 l2\/Hc x=none:=fun x hx=>by
    simp only[oS,List.mem_cons] at hx ⊢;rcases hx with hx|hx|hx|hx
    ·exact .inl (.inl hx)
    ·exact .inl (.inr (.inl hx))
    ·exact .inl (.inr (.inr (.inl hx)))
    ·exact(hl2'' x hx).elim (fun z=>.inl (.inr (.inr (.inr z)))) .inr
   have dj3:=(dj2.sym.upd own2 (Zda Sc)).sym;have hLd:Hd L=_:=kd _ _ (fun z=>nLd (by
    simp only[List.mem_cons,List.not_mem_nil,or_false] at z;rcases z with rfl|rfl <;> simp[oS])) hLc
   refine⟨L,r2,_,_,rfl,rfl,hLd,hr2d,Zao (by rw[List.length_map,List.length_map];lia),fun L2 hL2=>?_⟩;have s20:=Zn.new (o:=.lst (((Za9 kn2 [] (o1++out.take j)).1.map V.str)++((Za0 kn2 (Za9 kn2 [] (o1++out.take j)).2 wx).1.map V.str))) hL2;refine⟨_,L2,l2',n2+1,rfl,fun b o hb e=>s20 _ _ (kd b o hb (kc b o hb e)),Sc1.same s20,by rw[stp2];exact Sd'.same s20,dj3,fun z=>?_,fun z=>?_,?_⟩
   ·obtain⟨o,e⟩:=Zda Sc1 L2 z;rw[hL2] at e;cases e
   ·obtain⟨o,e⟩:=Zda Sd' L2 z;rw[hL2] at e;cases e
   ·rw[Zb,stp2,List.map_append]
  ·rintro σ Hc ⟨v13,L,l2,n2,rfl,kc,Sc,Sd,dj2,nLc,nLd,hLc⟩;rw[List.length_map,List.take_length] at Sd hLc;refine⟨_,_,L,l1',l2,n1+1,n2,rfl,fun b o hb e=>kc b o (fun z=>hb (by
    simp only[List.mem_cons,List.not_mem_nil,or_false] at z ⊢;rcases z with z|z
    ·exact .inr (.inr (.inl z))
    ·exact .inr (.inr (.inr z)))) (kab b o hb e),by rw[stp1];exact Sc,by rw[stp1];exact Sd,dj2,nLc,nLd,by rw[stp1];exact hLc⟩
 ·rintro σ Ha ⟨v12,v13,L,l1,l2,n1,n2,rfl,ka,Sa,Sb,dj,nLa,nLb,hLa⟩;rw[List.length_map,List.take_length,ru1] at Sa Sb hLa;have Sb:StAt C_Stream Ha sb dk2 Bl2 l2 kn2 (Za9 kn2 [] (words SL (chG kn1 G 0))).2 n2:=Sb;have hLa:Ha L=some (.lst ((Za9 kn2 [] (words SL (chG kn1 G 0))).1.map V.str)):=hLa;rw[ru2] at Sb hLa;have Sa:StAt C_Stream Ha sa dk Bl l1 kn1 [] n1:=Sa;have Sb:StAt C_Stream Ha sb dk2 Bl2 l2 kn2 [] n2:=Sb;have hLa:Ha L=some (.lst ((words SL (chG kn2 (chG kn1 G 0) 0)).map V.str)):=hLa;have tka:TK H10 Ha:=fun b ys e=>ka b _ (fun z=>tup4 b z ys e) e;have dTa:∀b mm,H10 b=some (.dT mm)->Ha b=some (.dT mm):=fun b mm e=>ka b _ (fun z=>by
   simp only[List.mem_cons,List.not_mem_nil,or_false] at z;rcases z with rfl|rfl|rfl|rfl
   ·obtain⟨_,h⟩:=S10a.ho;rw[e] at h;cases h
   ·obtain⟨_,h,_⟩:=S10a.hb;rw[e] at h;cases h
   ·obtain⟨_,h⟩:=S10b.ho;rw[e] at h;cases h
   ·obtain⟨_,h,_⟩:=S10b.hb;rw[e] at h;cases h) e
  have hd1a:=dTa _ _ (s610 _ _ hd16);have hd2a:=dTa _ _ (s610 _ _ hd26);have tk6a:=s610.tk.trans tka;have hkn1:=hkn1.tk tk6a;have hkn2:=hkn2.tk tk6a;have hgra:=tk6a _ _ hgr;have rpGa:=rpG.mono tk6a;have hch1a:=hch1.tk tk6a;have hch2a:=hch2.tk tk6a;refine Zw e12 ?_;refine⟨_,rfl,_,rfl,_,rfl,d1,gr,ts,0,m1,kn1,xs,G,rfl,hd1a,hkn1,kz1,hgra,rpGa,by lia,by lia,fun q1 zs1 Hb sb1 hq1 rq1=>?_⟩;refine⟨d2,q1,ts,0,m2,kn2,zs1,chG kn1 G 0,rfl,sb1 _ _ hd2a,hkn2.tk sb1.tk,kz2,hq1,rq1,by lia,by lia,fun du zs2 Hc sc1 hdu rdu=>?_⟩;have sac:=sb1.trans sc1;refine Zw e13 ?_;refine⟨_,rfl,_,rfl,du,zs2,_,rfl,hdu,rdu,by lia,by lia,fun wr Hd sd1 hwr0 hwr=>?_⟩;have sad:=sac.trans sd1;refine Zjd (neg:=true) (SqL.of (sad _ _ hLa)) (SqL.of hwr) (Zhk hl2) (Zhk hl2) ?_;rw[if_pos rfl,decide_eq_true rfl];refine⟨_,rfl,Zdt ?_⟩;have Sad:=Fg.StAt.same Sa sad;obtain⟨dxa,hoa⟩:=Sad.ho;refine⟨_,rfl,sa,dxa,_,rfl,hoa,rfl,sa,dk,Bl,l1,kn1,[],n1,rfl,Sad,Nat.zero_le _,Nat.zero_le _,fun ro He se1 hro0 hro=>⟨by decide,fun pe hpe=>?_⟩⟩;have k1:=Zn.new (o:=.lst []) hpe;refine⟨ro,pe,_,rfl,rfl,SqL.of (k1 _ _ hro),SqL.of Zb,_,rfl,Zdt ?_⟩;have sae:=(sad.trans se1).trans k1;generalize upd He pe (.lst [])=Hf at k1 sae ⊢;have Sbf:=Fg.StAt.same Sb sae;obtain⟨dxb,hob⟩:=Sbf.ho;refine⟨_,rfl,sb,dxb,_,rfl,hob,rfl,sb,dk2,Bl2,l2,kn2,[],n2,rfl,Sbf,Nat.zero_le _,Nat.zero_le _,fun ro2 Hg sg1 hro20 hro2=>⟨by decide,fun pe2 hpe2=>?_⟩⟩;have k2:=Zn.new (o:=.lst []) hpe2;refine⟨ro2,pe2,_,rfl,rfl,SqL.of (k2 _ _ hro2),SqL.of Zb,_,rfl,Zdt ?_⟩;have sag:=(sae.trans sg1).trans k2;show u14 _ _ _;generalize upd Hg pe2 (.lst [])=Hh at k2 sag ⊢;have keepS:∀o,H a=some o->Ha a=some o:=fun o h=>ka a o (fun z=>by
   have h6:=s16 _ _ h;simp only[List.mem_cons,List.not_mem_nil,or_false] at z;rcases z with rfl|rfl|rfl|rfl
   ·rw[hsa] at h6;cases h6
   ·rw[ZbE hBl] at h6;cases h6
   ·have:=s7 _ _ h6;rw[hsb] at this;cases this
   ·have:=s7 _ _ h6;rw[ZbE hBl2] at this;cases this) (s610 _ _ (s16 _ _ h))
  have hSa:SqL K Ha a (ns.map V.int):=by
   rcases hS with(h|⟨o,h⟩)|h
   ·exact .inl (.inl (keepS _ h))
   ·exact .inl (.inr ⟨o,keepS _ h⟩)
   ·exact .inr h
  refine Zw e14 ?_;refine⟨_,rfl,a,ns,61,rfl,sag.seq hSa,h63,by decide,by decide,fun v4=>⟨_,rfl,_,_,rfl,rfl,(by show(0:Int)<1+v2 % 3;lia),?_⟩⟩;have q0:=Int.emod_nonneg v4 (b:=1+v2 % 3) (by lia);have q1':=Int.emod_lt_of_pos v4 (b:=1+v2 % 3) (by lia);have zb:∀mo,gsz (chG kn1 G mo)<=36:=fun mo=>by have:=ZfO kz1 (n:=0) G mo;show gsz (chS (snG 0) kn1 G mo)<=36;lia
  have db:∀mo,Zbo (chG kn1 G mo)<=25:=fun mo=>by have:=Zft kz1 (n:=0) G mo;show Zbo (chS (snG 0) kn1 G mo)<=25;lia
  have lb:∀mo,OkW (words SL (chG kn1 G mo)):=fun mo=>Zhk (ZbM.letw htt (ZjG kz1 (n:=0) mo tgG));show u15 _ _ _;refine Zw e15 ?_;have zbm:=zb (v4 % (1+v2 % 3));have dbm:=db (v4 % (1+v2 % 3));refine⟨_,rfl,_,rfl,_,rfl,rc1,gr,v4 % (1+v2 % 3),_,rp1,xs,G,rfl,hch1a.tk sag.tk,by lia,q0,q1',sag _ _ hgra,rpGa.mono sag.tk,clG,by lia,by rw[hkk1];lia,by rw[hkk1];lia,fun r1' zr1 Hi si1 hr1' rr1=>?_⟩;rw[hkk1] at rr1;have sai:=sag.trans si1;refine⟨_,rfl,_,rfl,_,rfl,d1,gr,ts,v4 % (1+v2 % 3),m1,kn1,xs,G,rfl,sai _ _ hd1a,hkn1.tk sai.tk,kz1,sai _ _ hgra,rpGa.mono sai.tk,by lia,by lia,fun r2' zr2 Hj sj1 hr2' rr2=>?_⟩;refine Zje (neg:=true) (sj1 _ _ hr1') hr2' (rr1.mono sj1.tk) rr2 (lb (v4 % (1+v2 % 3))) (by lia) ⟨_,rfl,Zdt ?_⟩;have saj:=sai.trans sj1;show u16 _ _ _;refine Zw e16 ?_;have zb0:=zb 0;have db0:=db 0;refine⟨_,rfl,_,rfl,_,rfl,rc1,gr,0,_,rp1,xs,G,rfl,hch1a.tk saj.tk,by lia,by decide,by lia,saj _ _ hgra,rpGa.mono saj.tk,clG,by lia,by rw[hkk1];lia,by rw[hkk1];lia,fun r3 zr3 Hk sk1 hr3 rr3=>?_⟩;rw[hkk1] at rr3;have sak:=saj.trans sk1;refine⟨rc2,r3,0,_,rp2,zr3,chG kn1 G 0,rfl,hch2a.tk sak.tk,by lia,by decide,by lia,hr3,rr3,cl1,by lia,by rw[hkk2];lia,by rw[hkk2];lia,fun r4 zr4 Hl sl1 hr4 rr4=>?_⟩;rw[hkk2] at rr4;have scl:Zn Hc Hl:=(((((((sd1.trans se1).trans k1).trans sg1).trans k2).trans si1).trans sj1).trans sk1).trans sl1;refine⟨_,rfl,Zje (neg:=false) hr4 (scl _ _ hdu) rr4 (rdu.mono scl.tk) (Zhk hl2) (by lia) ?_⟩;exact q _
end
theorem Zmm{l:PySem.W.OpenLaw}{w:World}{K:PySem.W.Frag}{h:Heap}{mg:Str->Option Value}{fa f1 f2 f3 f4 f5 f6 f7 f8 f9 f10 f11 f12 f13 f14 f15 f16 f17 f18 f19 f20 f21 f22 f23 f24 f25 f26 f27 f28 f29 f30 f31 f32 f33 f34 f35:Addr}(X:K.In h)(G:h.Ns mainGlobals mg)(hfa:mg "law" = some (.ref fa))
  {od1 an1 od2 an2 od3 an3 od4 an4 od5 an5 od6 an6 od7 an7 od8 an8 od9 an9 od10 an10 od11 an11 od12 an12 od13 an13 od14 an14 od15 an15 od16 an16 od17 an17 od18 an18 od19 an19 od20 an20 od21 an21 od22 an22 od23 an23 od24 an24 od25 an25 od26 an26 od27 an27 od28 an28 od29 an29 od30 an30 od31 an31 od32 an32 od33 an33 od34 an34 od35 an35:Option Addr} {sl1 sl2 sl3 sl4 sl5 sl6 sl7 sl8 sl9 sl10 sl11 sl12 sl13 sl14 sl15 sl16 sl17 sl18 sl19 sl20 sl21 sl22 sl23 sl24 sl25 sl26 sl27 sl28 sl29 sl30 sl31 sl32 sl33 sl34 sl35:Array (Option Value)} {oc1 kV1 dc1 pm1 cd1 ct1 oc2 kV2 dc2 pm2 cd2 ct2 oc3 kV3 dc3 pm3 cd3 ct3 oc4 kV4 dc4 pm4 cd4 ct4 oc5 kV5 dc5 pm5 cd5 ct5 oc6 kV6 dc6 pm6 cd6 ct6 oc7 kV7 dc7 pm7 cd7 ct7 oc8 kV8 dc8 pm8 cd8 ct8 oc9 kV9 dc9 pm9 cd9 ct9 oc10 kV10 dc10 pm10 cd10 ct10 oc11 kV11 dc11 pm11 cd11 ct11 oc12 kV12 dc12 pm12 cd12 ct12 oc13 kV13 dc13 pm13 cd13 ct13 oc14 kV14 dc14 pm14 cd14 ct14 oc15 kV15 dc15 pm15 cd15 ct15 oc16 kV16 dc16 pm16 cd16 ct16 oc17 kV17 dc17 pm17 cd17 ct17 oc18 kV18 dc18 pm18 cd18 ct18 oc19 kV19 dc19 pm19 cd19 ct19 oc20 kV20 dc20 pm20 cd20 ct20 oc21 kV21 dc21 pm21 cd21 ct21 oc22 kV22 dc22 pm22 cd22 ct22 oc23 kV23 dc23 pm23 cd23 ct23 oc24 kV24 dc24 pm24 cd24 ct24 oc25 kV25 dc25 pm25 cd25 ct25 oc26 kV26 dc26 pm26 cd26 ct26 oc27 kV27 dc27 pm27 cd27 ct27 oc28 kV28 dc28 pm28 cd28 ct28 oc29 kV29 dc29 pm29 cd29 ct29 oc30 kV30 dc30 pm30 cd30 ct30 oc31 kV31 dc31 pm31 cd31 ct31 oc32 kV32 dc32 pm32 cd32 ct32 oc33 kV33 dc33 pm33 cd33 ct33 oc34 kV34 dc34 pm34 cd34 ct34 oc35 kV35 dc35 pm35 cd35 ct35:Value}
  {C_Stream C_Bounds C_Groves:Addr}
  (cn1:PySem.W.nsIn K mainGlobals "Stream" = some (some (.ref C_Stream))) (cp1:PySem.W.plainGet K C_Stream Str.empty=true) (ch1:PySem.W.hasDictIn K C_Stream=true) (cq1:PySem.W.plainOver K C_Stream=true) (cs1:PySem.W.findIn K (.ref C_Stream) "__setattr__" = some (some (.builtin "object.__setattr__"))) (cm1:PySem.W.makesIn K C_Stream=true) (ck1:PySem.W.keepIn K (.ref C_Stream)=true)
  (cx1_0:PySem.W.findIn K (.ref C_Stream) "known" = some none)
  (cx1_1:PySem.W.findIn K (.ref C_Stream) "taken" = some none)
  (cx1_2:PySem.W.findIn K (.ref C_Stream) "begun" = some none)
  (cn2:PySem.W.nsIn K mainGlobals "Bounds" = some (some (.ref C_Bounds))) (cp2:PySem.W.plainGet K C_Bounds Str.empty=true) (ch2:PySem.W.hasDictIn K C_Bounds=true) (cq2:PySem.W.plainOver K C_Bounds=true) (cs2:PySem.W.findIn K (.ref C_Bounds) "__setattr__" = some (some (.builtin "object.__setattr__"))) (cm2:PySem.W.makesIn K C_Bounds=true) (ck2:PySem.W.keepIn K (.ref C_Bounds)=true)
  (ci2:PySem.W.findIn K (.ref C_Bounds) "__init__" = some (some (.builtin "object.__init__")))
  (cn3:PySem.W.nsIn K mainGlobals "Groves" = some (some (.ref C_Groves))) (cp3:PySem.W.plainGet K C_Groves Str.empty=true) (ch3:PySem.W.hasDictIn K C_Groves=true) (cq3:PySem.W.plainOver K C_Groves=true) (cs3:PySem.W.findIn K (.ref C_Groves) "__setattr__" = some (some (.builtin "object.__setattr__"))) (cm3:PySem.W.makesIn K C_Groves=true) (ck3:PySem.W.keepIn K (.ref C_Groves)=true)
  (ci3:PySem.W.findIn K (.ref C_Groves) "__init__" = some (some (.builtin "object.__init__")))
  (a1:PySem.W.nsIn K mainGlobals "_law_tags" = some (some (.ref f1))) (l1:K.lookup f1=some ⟨oc1,od1,.func (PySem.W.fnOf "_law_tags" "_law_tags" (Zo Z9) (Zf Z9) (Zg Z9) .none kV1 dc1 pm1 an1 cd1 ct1),sl1⟩) (c1:PySem.W.codeIn K cd1 "_law_tags" = true) (k1:PySem.W.keepIn K (.ref f1)=true)
  (a2:PySem.W.nsIn K mainGlobals "_law_cell" = some (some (.ref f2))) (l2:K.lookup f2=some ⟨oc2,od2,.func (PySem.W.fnOf "_law_cell" "_law_cell" (Zo Zb2) (Zf Zb2) (Zg Zb2) .none kV2 dc2 pm2 an2 cd2 ct2),sl2⟩) (c2:PySem.W.codeIn K cd2 "_law_cell" = true) (k2:PySem.W.keepIn K (.ref f2)=true)
  (a3:PySem.W.nsIn K mainGlobals "_law_parts" = some (some (.ref f3))) (l3:K.lookup f3=some ⟨oc3,od3,.func (PySem.W.fnOf "_law_parts" "_law_parts" (Zo Zt) (Zf Zt) (Zg Zt) .none kV3 dc3 pm3 an3 cd3 ct3),sl3⟩) (c3:PySem.W.codeIn K cd3 "_law_parts" = true) (k3:PySem.W.keepIn K (.ref f3)=true)
  (a4:PySem.W.nsIn K mainGlobals "_law_made" = some (some (.ref f4))) (l4:K.lookup f4=some ⟨oc4,od4,.func (PySem.W.fnOf "_law_made" "_law_made" (Zo ZbA) (Zf ZbA) (Zg ZbA) .none kV4 dc4 pm4 an4 cd4 ct4),sl4⟩) (c4:PySem.W.codeIn K cd4 "_law_made" = true) (k4:PySem.W.keepIn K (.ref f4)=true)
  (a5:PySem.W.nsIn K mainGlobals "_law_changer" = some (some (.ref f5))) (l5:K.lookup f5=some ⟨oc5,od5,.func (PySem.W.fnOf "_law_changer" "_law_changer" (Zo ZaL) (Zf ZaL) (Zg ZaL) .none kV5 dc5 pm5 an5 cd5 ct5),sl5⟩) (c5:PySem.W.codeIn K cd5 "_law_changer" = true) (k5:PySem.W.keepIn K (.ref f5)=true)
  (a6:PySem.W.nsIn K mainGlobals "_law_grove" = some (some (.ref f6))) (l6:K.lookup f6=some ⟨oc6,od6,.func (PySem.W.fnOf "_law_grove" "_law_grove" (Zo ZC) (Zf ZC) (Zg ZC) .none kV6 dc6 pm6 an6 cd6 ct6),sl6⟩) (c6:PySem.W.codeIn K cd6 "_law_grove" = true) (k6:PySem.W.keepIn K (.ref f6)=true)
  (a7:PySem.W.nsIn K mainGlobals "all_parts" = some (some (.ref f7))) (l7:K.lookup f7=some ⟨oc7,od7,.func (PySem.W.fnOf "all_parts" "all_parts" (Zo ZaZ) (Zf ZaZ) (Zg ZaZ) .none kV7 dc7 pm7 an7 cd7 ct7),sl7⟩) (c7:PySem.W.codeIn K cd7 "all_parts" = true) (k7:PySem.W.keepIn K (.ref f7)=true)
  (a8:PySem.W.nsIn K mainGlobals "kids_in" = some (some (.ref f8))) (l8:K.lookup f8=some ⟨oc8,od8,.func (PySem.W.fnOf "kids_in" "kids_in" (Zo Zbs) (Zf Zbs) (Zg Zbs) .none kV8 dc8 pm8 an8 cd8 ct8),sl8⟩) (c8:PySem.W.codeIn K cd8 "kids_in" = true) (k8:PySem.W.keepIn K (.ref f8)=true)
  (a9:PySem.W.nsIn K mainGlobals "straight" = some (some (.ref f9))) (l9:K.lookup f9=some ⟨oc9,od9,.func (PySem.W.fnOf "straight" "straight" (Zo Zbg) (Zf Zbg) (Zg Zbg) .none kV9 dc9 pm9 an9 cd9 ct9),sl9⟩) (c9:PySem.W.codeIn K cd9 "straight" = true) (k9:PySem.W.keepIn K (.ref f9)=true)
  (a10:PySem.W.nsIn K mainGlobals "parts_by_rule" = some (some (.ref f10))) (l10:K.lookup f10=some ⟨oc10,od10,.func (PySem.W.fnOf "parts_by_rule" "parts_by_rule" (Zo Z5) (Zf Z5) (Zg Z5) .none kV10 dc10 pm10 an10 cd10 ct10),sl10⟩) (c10:PySem.W.codeIn K cd10 "parts_by_rule" = true) (k10:PySem.W.keepIn K (.ref f10)=true)
  (a11:PySem.W.findIn K (.ref C_Stream) "__init__" = some (some (.ref f11))) (l11:K.lookup f11=some ⟨oc11,od11,.func (PySem.W.fnOf "__init__" "Stream.__init__" (Zo Z4) (Zf Z4) (Zg Z4) .none kV11 dc11 pm11 an11 cd11 ct11),sl11⟩) (c11:PySem.W.codeIn K cd11 "Stream.__init__" = true) (k11:PySem.W.keepIn K (.ref f11)=true) (n11:PySem.W.isFn K (.ref f11)=true)
  (a12:PySem.W.nsIn K mainGlobals "_law_words" = some (some (.ref f12))) (l12:K.lookup f12=some ⟨oc12,od12,.func (PySem.W.fnOf "_law_words" "_law_words" (Zo Zbx) (Zf Zbx) (Zg Zbx) .none kV12 dc12 pm12 an12 cd12 ct12),sl12⟩) (c12:PySem.W.codeIn K cd12 "_law_words" = true) (k12:PySem.W.keepIn K (.ref f12)=true)
  (a13:PySem.W.nsIn K mainGlobals "is_tag" = some (some (.ref f13))) (l13:K.lookup f13=some ⟨oc13,od13,.func (PySem.W.fnOf "is_tag" "is_tag" (Zo Zb4) (Zf Zb4) (Zg Zb4) .none kV13 dc13 pm13 an13 cd13 ct13),sl13⟩) (c13:PySem.W.codeIn K cd13 "is_tag" = true) (k13:PySem.W.keepIn K (.ref f13)=true)
  (a14:PySem.W.nsIn K mainGlobals "parts_for" = some (some (.ref f14))) (l14:K.lookup f14=some ⟨oc14,od14,.func (PySem.W.fnOf "parts_for" "parts_for" (Zo ZaM) (Zf ZaM) (Zg ZaM) .none kV14 dc14 pm14 an14 cd14 ct14),sl14⟩) (c14:PySem.W.codeIn K cd14 "parts_for" = true) (k14:PySem.W.keepIn K (.ref f14)=true)
  (a15:PySem.W.nsIn K mainGlobals "words_of_parts" = some (some (.ref f15))) (l15:K.lookup f15=some ⟨oc15,od15,.func (PySem.W.fnOf "words_of_parts" "words_of_parts" (Zo Zac) (Zf Zac) (Zg Zac) .none kV15 dc15 pm15 an15 cd15 ct15),sl15⟩) (c15:PySem.W.codeIn K cd15 "words_of_parts" = true) (k15:PySem.W.keepIn K (.ref f15)=true)
  (a16:PySem.W.findIn K (.ref C_Stream) "take_begin" = some (some (.ref f16))) (l16:K.lookup f16=some ⟨oc16,od16,.func (PySem.W.fnOf "take_begin" "Stream.take_begin" (Zo ZJ) (Zf ZJ) (Zg ZJ) .none kV16 dc16 pm16 an16 cd16 ct16),sl16⟩) (c16:PySem.W.codeIn K cd16 "Stream.take_begin" = true) (k16:PySem.W.keepIn K (.ref f16)=true) (n16:PySem.W.isFn K (.ref f16)=true)
  (a17:PySem.W.findIn K (.ref C_Stream) "take" = some (some (.ref f17))) (l17:K.lookup f17=some ⟨oc17,od17,.func (PySem.W.fnOf "take" "Stream.take" (Zo ZaE) (Zf ZaE) (Zg ZaE) .none kV17 dc17 pm17 an17 cd17 ct17),sl17⟩) (c17:PySem.W.codeIn K cd17 "Stream.take" = true) (k17:PySem.W.keepIn K (.ref f17)=true) (n17:PySem.W.isFn K (.ref f17)=true)
  (a18:PySem.W.nsIn K mainGlobals "_law_put" = some (some (.ref f18))) (l18:K.lookup f18=some ⟨oc18,od18,.func (PySem.W.fnOf "_law_put" "_law_put" (Zo ZcQ) (Zf ZcQ) (Zg ZcQ) .none kV18 dc18 pm18 an18 cd18 ct18),sl18⟩) (c18:PySem.W.codeIn K cd18 "_law_put" = true) (k18:PySem.W.keepIn K (.ref f18)=true)
  (a19:PySem.W.nsIn K mainGlobals "_law_turned" = some (some (.ref f19))) (l19:K.lookup f19=some ⟨oc19,od19,.func (PySem.W.fnOf "_law_turned" "_law_turned" (Zo ZaV) (Zf ZaV) (Zg ZaV) .none kV19 dc19 pm19 an19 cd19 ct19),sl19⟩) (c19:PySem.W.codeIn K cd19 "_law_turned" = true) (k19:PySem.W.keepIn K (.ref f19)=true)
  (a20:PySem.W.findIn K (.ref C_Stream) "owed" = some (some (.ref f20))) (l20:K.lookup f20=some ⟨oc20,od20,.func (PySem.W.fnOf "owed" "Stream.owed" (Zo ZaF) (Zf ZaF) (Zg ZaF) .none kV20 dc20 pm20 an20 cd20 ct20),sl20⟩) (c20:PySem.W.codeIn K cd20 "Stream.owed" = true) (k20:PySem.W.keepIn K (.ref f20)=true) (n20:PySem.W.isFn K (.ref f20)=true)
  (a21:PySem.W.nsIn K mainGlobals "words_of" = some (some (.ref f21))) (l21:K.lookup f21=some ⟨oc21,od21,.func (PySem.W.fnOf "words_of" "words_of" (Zo Zbf) (Zf Zbf) (Zg Zbf) .none kV21 dc21 pm21 an21 cd21 ct21),sl21⟩) (c21:PySem.W.codeIn K cd21 "words_of" = true) (k21:PySem.W.keepIn K (.ref f21)=true)
  (a22:PySem.W.nsIn K mainGlobals "modes_within" = some (some (.ref f22))) (l22:K.lookup f22=some ⟨oc22,od22,.func (PySem.W.fnOf "modes_within" "modes_within" (Zo Zag) (Zf Zag) (Zg Zag) .none kV22 dc22 pm22 an22 cd22 ct22),sl22⟩) (c22:PySem.W.codeIn K cd22 "modes_within" = true) (k22:PySem.W.keepIn K (.ref f22)=true)
  (a23:PySem.W.nsIn K mainGlobals "modes_at" = some (some (.ref f23))) (l23:K.lookup f23=some ⟨oc23,od23,.func (PySem.W.fnOf "modes_at" "modes_at" (Zo Zbd) (Zf Zbd) (Zg Zbd) .none kV23 dc23 pm23 an23 cd23 ct23),sl23⟩) (c23:PySem.W.codeIn K cd23 "modes_at" = true) (k23:PySem.W.keepIn K (.ref f23)=true)
  (a24:PySem.W.nsIn K mainGlobals "closings" = some (some (.ref f24))) (l24:K.lookup f24=some ⟨oc24,od24,.func (PySem.W.fnOf "closings" "closings" (Zo ZaX) (Zf ZaX) (Zg ZaX) .none kV24 dc24 pm24 an24 cd24 ct24),sl24⟩) (c24:PySem.W.codeIn K cd24 "closings" = true) (k24:PySem.W.keepIn K (.ref f24)=true)
  (a25:PySem.W.findIn K (.ref C_Bounds) "nothing" = some (some (.ref f25))) (l25:K.lookup f25=some ⟨oc25,od25,.func (PySem.W.fnOf "nothing" "Bounds.nothing" (Zo Zab) (Zf Zab) (Zg Zab) .none kV25 dc25 pm25 an25 cd25 ct25),sl25⟩) (c25:PySem.W.codeIn K cd25 "Bounds.nothing" = true) (k25:PySem.W.keepIn K (.ref f25)=true) (n25:PySem.W.isFn K (.ref f25)=true)
  (a26:PySem.W.findIn K (.ref C_Groves) "nothing" = some (some (.ref f26))) (l26:K.lookup f26=some ⟨oc26,od26,.func (PySem.W.fnOf "nothing" "Groves.nothing" (Zo Zad) (Zf Zad) (Zg Zad) .none kV26 dc26 pm26 an26 cd26 ct26),sl26⟩) (c26:PySem.W.codeIn K cd26 "Groves.nothing" = true) (k26:PySem.W.keepIn K (.ref f26)=true) (n26:PySem.W.isFn K (.ref f26)=true)
  (a27:PySem.W.findIn K (.ref C_Bounds) "tree" = some (some (.ref f27))) (l27:K.lookup f27=some ⟨oc27,od27,.func (PySem.W.fnOf "tree" "Bounds.tree" (Zo ZaD) (Zf ZaD) (Zg ZaD) .none kV27 dc27 pm27 an27 cd27 ct27),sl27⟩) (c27:PySem.W.codeIn K cd27 "Bounds.tree" = true) (k27:PySem.W.keepIn K (.ref f27)=true) (n27:PySem.W.isFn K (.ref f27)=true)
  (a28:PySem.W.findIn K (.ref C_Groves) "tree" = some (some (.ref f28))) (l28:K.lookup f28=some ⟨oc28,od28,.func (PySem.W.fnOf "tree" "Groves.tree" (Zo ZaB) (Zf ZaB) (Zg ZaB) .none kV28 dc28 pm28 an28 cd28 ct28),sl28⟩) (c28:PySem.W.codeIn K cd28 "Groves.tree" = true) (k28:PySem.W.keepIn K (.ref f28)=true) (n28:PySem.W.isFn K (.ref f28)=true)
  (a29:PySem.W.findIn K (.ref C_Bounds) "beside" = some (some (.ref f29))) (l29:K.lookup f29=some ⟨oc29,od29,.func (PySem.W.fnOf "beside" "Bounds.beside" (Zo Zak) (Zf Zak) (Zg Zak) .none kV29 dc29 pm29 an29 cd29 ct29),sl29⟩) (c29:PySem.W.codeIn K cd29 "Bounds.beside" = true) (k29:PySem.W.keepIn K (.ref f29)=true) (n29:PySem.W.isFn K (.ref f29)=true)
  (a30:PySem.W.findIn K (.ref C_Groves) "beside" = some (some (.ref f30))) (l30:K.lookup f30=some ⟨oc30,od30,.func (PySem.W.fnOf "beside" "Groves.beside" (Zo Zam) (Zf Zam) (Zg Zam) .none kV30 dc30 pm30 an30 cd30 ct30),sl30⟩) (c30:PySem.W.codeIn K cd30 "Groves.beside" = true) (k30:PySem.W.keepIn K (.ref f30)=true) (n30:PySem.W.isFn K (.ref f30)=true)
  (a31:PySem.W.nsIn K mainGlobals "come_of_parts" = some (some (.ref f31))) (l31:K.lookup f31=some ⟨oc31,od31,.func (PySem.W.fnOf "come_of_parts" "come_of_parts" (Zo Z6) (Zf Z6) (Zg Z6) .none kV31 dc31 pm31 an31 cd31 ct31),sl31⟩) (c31:PySem.W.codeIn K cd31 "come_of_parts" = true) (k31:PySem.W.keepIn K (.ref f31)=true)
  (a32:PySem.W.nsIn K mainGlobals "come_of" = some (some (.ref f32))) (l32:K.lookup f32=some ⟨oc32,od32,.func (PySem.W.fnOf "come_of" "come_of" (Zo ZM) (Zf ZM) (Zg ZM) .none kV32 dc32 pm32 an32 cd32 ct32),sl32⟩) (c32:PySem.W.codeIn K cd32 "come_of" = true) (k32:PySem.W.keepIn K (.ref f32)=true)
  (a33:PySem.W.nsIn K mainGlobals "refuse_great" = some (some (.ref f33))) (l33:K.lookup f33=some ⟨oc33,od33,.func (PySem.W.fnOf "refuse_great" "refuse_great" (Zo Zaq) (Zf Zaq) (Zg Zaq) .none kV33 dc33 pm33 an33 cd33 ct33),sl33⟩) (c33:PySem.W.codeIn K cd33 "refuse_great" = true) (k33:PySem.W.keepIn K (.ref f33)=true)
  {td34:Addr} {dob34:Obj} {dtk34:Tok} {dn34:Nat}
  (a34:PySem.W.nsIn K mainGlobals "changed" = some (some (.ref f34))) (l34:K.lookup f34=some ⟨oc34,od34,.func (PySem.W.fnOf "changed" "changed" (Zo Zbv) (Zf Zbv) (Zg Zbv) (.ref td34) kV34 dc34 pm34 an34 cd34 ct34),sl34⟩) (c34:PySem.W.codeIn K cd34 "changed" = true) (k34:PySem.W.keepIn K (.ref f34)=true)
  (dl34:K.lookup td34=some dob34) (ds34:dob34.data=.seq #[.int 0 dtk34] dn34)
  (a35:PySem.W.nsIn K mainGlobals "law" = some (some (.ref f35))) (l35:K.lookup f35=some ⟨oc35,od35,.func (PySem.W.fnOf "law" "law" (Zo ZaU) (Zf ZaU) (Zg ZaU) .none kV35 dc35 pm35 an35 cd35 ct35),sl35⟩) (c35:PySem.W.codeIn K cd35 "law" = true) (k35:PySem.W.keepIn K (.ref f35)=true)
  {tk0 tk1 tk2:Tok} (y0:PySem.W.nsIn K mainGlobals "DEEPEST_GROVE" = some (some (.int 100 tk0))) (y1:PySem.W.nsIn K mainGlobals "LONGEST_TAG" = some (some (.int 8 tk1))) (y2:PySem.W.nsIn K mainGlobals "MOST_TAGS" = some (some (.int 300 tk2)))
  (z0:PySem.W.nsIn K mainGlobals "all" = some none) (z1:PySem.W.nsIn K mainGlobals "dict" = some none) (z2:PySem.W.nsIn K mainGlobals "enumerate" = some none) (z3:PySem.W.nsIn K mainGlobals "len" = some none) (z4:PySem.W.nsIn K mainGlobals "list" = some none) (z5:PySem.W.nsIn K mainGlobals "max" = some none) (z6:PySem.W.nsIn K mainGlobals "range" = some none) (z7:PySem.W.nsIn K mainGlobals "sorted" = some none) (z8:PySem.W.nsIn K mainGlobals "tuple" = some none) :
  ∃fd:FuncData,(∀(s:Shared)(v:Value),BindsTo s fd ⟨[v],[]⟩ [("_law_script",v)])/\∀base:Heap,K.In base->base.Ns mainGlobals mg->FnOk l.prog w K mg base CX0 141 fa fd ["_law_script"] (Fg.Zj8 K):=by
 have e:=hfa.symm.trans (PySem.W.mg_of X G a35);cases e;have B:∀x∈ZbN,mg x=none:=List.forall_mem_cons.mpr ⟨PySem.W.mg_none_of X G z0,List.forall_mem_cons.mpr ⟨PySem.W.mg_none_of X G z1,List.forall_mem_cons.mpr ⟨PySem.W.mg_none_of X G z2,List.forall_mem_cons.mpr ⟨PySem.W.mg_none_of X G z3,List.forall_mem_cons.mpr ⟨PySem.W.mg_none_of X G z4,List.forall_mem_cons.mpr ⟨PySem.W.mg_none_of X G z5,List.forall_mem_cons.mpr ⟨PySem.W.mg_none_of X G z6,List.forall_mem_cons.mpr ⟨PySem.W.mg_none_of X G z7,List.forall_mem_cons.mpr ⟨PySem.W.mg_none_of X G z8,List.forall_mem_nil _⟩⟩⟩⟩⟩⟩⟩⟩⟩;have Cc_DEEPEST_GROVE:∃t:Tok,mg "DEEPEST_GROVE" = some (.int 100 t):=⟨_,PySem.W.mg_of X G y0⟩;have Cc_LONGEST_TAG:∃t:Tok,mg "LONGEST_TAG" = some (.int 8 t):=⟨_,PySem.W.mg_of X G y1⟩;have Cc_MOST_TAGS:∃t:Tok,mg "MOST_TAGS" = some (.int 300 t):=⟨_,PySem.W.mg_of X G y2⟩;have F1:=ZV (st:=Z9) l1 c1 k1;have b1:=F1.binds (ps:=["_law_cell_here"]) fun _ _ _ _ _ _ us hl=>by obtain⟨_,rfl⟩:=ZgV hl;rfl
 have F2:=ZV (st:=Zb2) l2 c2 k2;have b2:=F2.binds (ps:=["_law_script","_law_k"]) fun _ _ _ _ _ _ us hl=>by obtain⟨_,_,rfl⟩:=ZkB hl;rfl
 have F3:=ZV (st:=Zt) l3 c3 k3;have b3:=F3.binds (ps:=["_law_cell_here","_law_tags_here","_law_modes"]) fun _ _ _ _ _ _ us hl=>by obtain⟨_,_,_,rfl⟩:=Zhs hl;rfl
 have F4:=ZV (st:=ZbA) l4 c4 k4;have b4:=F4.binds (ps:=["_law_script","_law_at","_law_tags_here","_law_modes"]) fun _ _ _ _ _ _ us hl=>by obtain⟨_,_,_,_,rfl⟩:=Znl hl;rfl
 have F5:=ZV (st:=ZaL) l5 c5 k5;have b5:=F5.binds (ps:=["_law_modes","_law_made_here"]) fun _ _ _ _ _ _ us hl=>by obtain⟨_,_,rfl⟩:=ZkB hl;rfl
 have F6:=ZV (st:=ZC) l6 c6 k6;have b6:=F6.binds (ps:=["_law_script","_law_tags_here"]) fun _ _ _ _ _ _ us hl=>by obtain⟨_,_,rfl⟩:=ZkB hl;rfl
 have F7:=ZV (st:=ZaZ) l7 c7 k7;have b7:=F7.binds (ps:=["parts"]) fun _ _ _ _ _ _ us hl=>by obtain⟨_,rfl⟩:=ZgV hl;rfl
 have F8:=ZV (st:=Zbs) l8 c8 k8;have b8:=F8.binds (ps:=["parts"]) fun _ _ _ _ _ _ us hl=>by obtain⟨_,rfl⟩:=ZgV hl;rfl
 have F9:=ZV (st:=Zbg) l9 c9 k9;have b9:=F9.binds (ps:=["changer"]) fun _ _ _ _ _ _ us hl=>by obtain⟨_,rfl⟩:=ZgV hl;rfl
 have F10:=ZV (st:=Z5) l10 c10 k10;have b10:=F10.binds (ps:=["changer"]) fun _ _ _ _ _ _ us hl=>by obtain⟨_,rfl⟩:=ZgV hl;rfl
 have F11:=ZV (st:=Z4) l11 c11 k11;have b11:=F11.binds (ps:=["self","changer"]) fun _ _ _ _ _ _ us hl=>by obtain⟨_,_,rfl⟩:=ZkB hl;rfl
 have F12:=ZV (st:=Zbx) l12 c12 k12;have b12:=F12.binds (ps:=["_law_grove_here"]) fun _ _ _ _ _ _ us hl=>by obtain⟨_,rfl⟩:=ZgV hl;rfl
 have F13:=ZV (st:=Zb4) l13 c13 k13;have b13:=F13.binds (ps:=["text"]) fun _ _ _ _ _ _ us hl=>by obtain⟨_,rfl⟩:=ZgV hl;rfl
 have F14:=ZV (st:=ZaM) l14 c14 k14;have b14:=F14.binds (ps:=["known","mode","tag"]) fun _ _ _ _ _ _ us hl=>by obtain⟨_,_,_,rfl⟩:=Zhs hl;rfl
 have F15:=ZV (st:=Zac) l15 c15 k15;have b15:=F15.binds (ps:=["parts"]) fun _ _ _ _ _ _ us hl=>by obtain⟨_,rfl⟩:=ZgV hl;rfl
 have F16:=ZV (st:=ZJ) l16 c16 k16;have b16:=F16.binds (ps:=["self","mode","tag"]) fun _ _ _ _ _ _ us hl=>by obtain⟨_,_,_,rfl⟩:=Zhs hl;rfl
 have F17:=ZV (st:=ZaE) l17 c17 k17;have b17:=F17.binds (ps:=["self","word"]) fun _ _ _ _ _ _ us hl=>by obtain⟨_,_,rfl⟩:=ZkB hl;rfl
 have F18:=ZV (st:=ZcQ) l18 c18 k18;have b18:=F18.binds (ps:=["_law_made_here","_law_parts_here","_law_inner"]) fun _ _ _ _ _ _ us hl=>by obtain⟨_,_,_,rfl⟩:=Zhs hl;rfl
 have F19:=ZV (st:=ZaV) l19 c19 k19;have b19:=F19.binds (ps:=["_law_made_here","_law_mode","_law_grove_here"]) fun _ _ _ _ _ _ us hl=>by obtain⟨_,_,_,rfl⟩:=Zhs hl;rfl
 have F20:=ZV (st:=ZaF) l20 c20 k20;have b20:=F20.binds (ps:=["self"]) fun _ _ _ _ _ _ us hl=>by obtain⟨_,rfl⟩:=ZgV hl;rfl
 have F21:=ZV (st:=Zbf) l21 c21 k21;have b21:=F21.binds (ps:=["grove"]) fun _ _ _ _ _ _ us hl=>by obtain⟨_,rfl⟩:=ZgV hl;rfl
 have F22:=ZV (st:=Zag) l22 c22 k22;have b22:=F22.binds (ps:=["known","modes","tag"]) fun _ _ _ _ _ _ us hl=>by obtain⟨_,_,_,rfl⟩:=Zhs hl;rfl
 have F23:=ZV (st:=Zbd) l23 c23 k23;have b23:=F23.binds (ps:=["known","words","mode"]) fun _ _ _ _ _ _ us hl=>by obtain⟨_,_,_,rfl⟩:=Zhs hl;rfl
 have F24:=ZV (st:=ZaX) l24 c24 k24;have b24:=F24.binds (ps:=["words"]) fun _ _ _ _ _ _ us hl=>by obtain⟨_,rfl⟩:=ZgV hl;rfl
 have F25:=ZV (st:=Zab) l25 c25 k25;have b25:=F25.binds (ps:=["self"]) fun _ _ _ _ _ _ us hl=>by obtain⟨_,rfl⟩:=ZgV hl;rfl
 have F26:=ZV (st:=Zad) l26 c26 k26;have b26:=F26.binds (ps:=["self"]) fun _ _ _ _ _ _ us hl=>by obtain⟨_,rfl⟩:=ZgV hl;rfl
 have F27:=ZV (st:=ZaD) l27 c27 k27;have b27:=F27.binds (ps:=["self","tag","within"]) fun _ _ _ _ _ _ us hl=>by obtain⟨_,_,_,rfl⟩:=Zhs hl;rfl
 have F28:=ZV (st:=ZaB) l28 c28 k28;have b28:=F28.binds (ps:=["self","tag","within"]) fun _ _ _ _ _ _ us hl=>by obtain⟨_,_,_,rfl⟩:=Zhs hl;rfl
 have F29:=ZV (st:=Zak) l29 c29 k29;have b29:=F29.binds (ps:=["self","one","other"]) fun _ _ _ _ _ _ us hl=>by obtain⟨_,_,_,rfl⟩:=Zhs hl;rfl
 have F30:=ZV (st:=Zam) l30 c30 k30;have b30:=F30.binds (ps:=["self","one","other"]) fun _ _ _ _ _ _ us hl=>by obtain⟨_,_,_,rfl⟩:=Zhs hl;rfl
 have F31:=ZV (st:=Z6) l31 c31 k31;have b31:=F31.binds (ps:=["parts","kids","sense"]) fun _ _ _ _ _ _ us hl=>by obtain⟨_,_,_,rfl⟩:=Zhs hl;rfl
 have F32:=ZV (st:=ZM) l32 c32 k32;have b32:=F32.binds (ps:=["changer","words","mode","sense"]) fun _ _ _ _ _ _ us hl=>by obtain⟨_,_,_,_,rfl⟩:=Znl hl;rfl
 have F33:=ZV (st:=Zaq) l33 c33 k33;have b33:=F33.binds (ps:=["tags","deep"]) fun _ _ _ _ _ _ us hl=>by obtain⟨_,_,rfl⟩:=ZkB hl;rfl
 have F34:=Zk2 (st:=Zbv) l34 c34 k34;have b34:=F34.binds (ps:=["changer","grove","mode"]) [] dl34 ds34 fun _ _ _ _ _ _ us hl=>by rw[List.append_nil] at hl;obtain⟨_,_,_,rfl⟩:=Zhs hl;exact⟨_,rfl,rfl⟩
 have bD34:=F34.binds (ps:=["changer","grove","mode"]) [.int 0 dtk34] dl34 ds34 fun _ _ _ _ _ _ us hl=>by rw[List.length_append] at hl;obtain⟨_,_,rfl⟩:=ZkB (Nat.succ.inj hl);exact⟨_,rfl,rfl⟩
 have F35:=ZV (st:=ZaU) l35 c35 k35;refine⟨PySem.W.fnOf "law" "law" (Zo ZaU) (Zf ZaU) (Zg ZaU) .none kV35 dc35 pm35 an35 cd35 ct35,fun s v=>.of_eq rfl,fun base _ _=>?_⟩;have c_Stream:Fg.StC K C_Stream:=⟨⟨cp1,ch1,cq1,cs1⟩,cx1_0,cx1_1,cx1_2⟩;have c_Bounds:Fg.SnC K C_Bounds:=⟨⟨cp2,ch2,cq2,cs2⟩⟩;have g_Bounds:HasC0 K mg C_Bounds "Bounds" := ⟨cm2,ci2,ck2,PySem.W.mg_of X G cn2⟩;have c_Groves:Fg.SnC K C_Groves:=⟨⟨cp3,ch3,cq3,cs3⟩⟩;have g_Groves:HasC0 K mg C_Groves "Groves" := ⟨cm3,ci3,ck3,PySem.W.mg_of X G cn3⟩;have g_l_tags:Has l.prog w K mg base "_law_tags" ["_law_cell_here"] 1 (K97.ZgA):=⟨⟨f1,_,ZjC B  F1,b1,k1,PySem.W.mg_of X G a1⟩⟩;have g_l_cell:Has l.prog w K mg base "_law_cell" ["_law_script","_law_k"] 1 (K97.ZdH K):=⟨⟨f2,_,Zig B  F2,b2,k2,PySem.W.mg_of X G a2⟩⟩;have g_l_parts:Has l.prog w K mg base "_law_parts" ["_law_cell_here","_law_tags_here","_law_modes"] 1 (K97.ZeL):=⟨⟨f3,_,Zic B  F3,b3,k3,PySem.W.mg_of X G a3⟩⟩;have g_l_made:Has l.prog w K mg base "_law_made" ["_law_script","_law_at","_law_tags_here","_law_modes"] 2 (K97.ZeU K):=⟨⟨f4,_,ZiN B g_l_cell g_l_parts F4,b4,k4,PySem.W.mg_of X G a4⟩⟩;have g_l_changer:Has l.prog w K mg base "_law_changer" ["_law_modes","_law_made_here"] 1 (K97.Zgv):=⟨⟨f5,_,Zfi B  F5,b5,k5,PySem.W.mg_of X G a5⟩⟩;have g_l_grove:Has l.prog w K mg base "_law_grove" ["_law_script","_law_tags_here"] 2 (K97.Zd8 K):=⟨⟨f6,_,Zib B g_l_cell F6,b6,k6,PySem.W.mg_of X G a6⟩⟩;have r_all_parts:∀d:Nat,Has l.prog w K mg base "all_parts" ["parts"] d (K97.ZfK d):=by
  intro d
  induction d with
  | zero=>exact⟨⟨f7,_,FnOk.none (fun vs H Q E z=>by obtain⟨_,_,_,_,_,_,hd,_⟩:=z;exact absurd hd (Nat.not_lt_zero _)),b7,k7,PySem.W.mg_of X G a7⟩⟩
  | succ d ih=>exact⟨⟨f7,_,Zfq d B ih F7,b7,k7,PySem.W.mg_of X G a7⟩⟩
 have g_all_parts:=r_all_parts 22;have g_kids_in:Has l.prog w K mg base "kids_in" ["parts"] 23 (K97.Zdn 22):=⟨⟨f8,_,ZhG B g_all_parts F8,b8,k8,PySem.W.mg_of X G a8⟩⟩;have g_straight:Has l.prog w K mg base "straight" ["changer"] 24 (K97.ZcH):=⟨⟨f9,_,Zgp B g_kids_in F9,b9,k9,PySem.W.mg_of X G a9⟩⟩;have g_parts_by_rule:Has l.prog w K mg base "parts_by_rule" ["changer"] 1 (K97.Zdi):=⟨⟨f10,_,Zc9 B  F10,b10,k10,PySem.W.mg_of X G a10⟩⟩;have g_Stream:HasC l.prog w K mg base C_Stream "Stream" ["self","changer"] 25 (K97.Ze5 C_Stream):=⟨⟨f11,_,Zcx B c_Stream g_straight g_parts_by_rule F11,b11,⟨cm1,a11,n11,ck1⟩,PySem.W.mg_of X G cn1⟩⟩;have r_l_words:∀d:Nat,Has l.prog w K mg base "_law_words" ["_law_grove_here"] d (K97.Zdw d):=by
  intro d
  induction d with
  | zero=>exact⟨⟨f12,_,FnOk.none (fun vs H Q E z=>by obtain⟨_,_,_,_,_,_,hd,_⟩:=z;exact absurd hd (Nat.not_lt_zero _)),b12,k12,PySem.W.mg_of X G a12⟩⟩
  | succ d ih=>exact⟨⟨f12,_,ZhV d B ih F12,b12,k12,PySem.W.mg_of X G a12⟩⟩
 have g_l_words:=r_l_words 60;have g_is_tag:Has l.prog w K mg base "is_tag" ["text"] 1 (Fg.Zf9):=⟨⟨f13,_,ZjA B Cc_LONGEST_TAG  F13,b13,k13,PySem.W.mg_of X G a13⟩⟩;have g_parts_for:Has l.prog w K mg base "parts_for" ["known","mode","tag"] 1 (K97.Zby):=⟨⟨f14,_,Zfm B  F14,b14,k14,PySem.W.mg_of X G a14⟩⟩;have r_words_of_parts:∀d:Nat,Has l.prog w K mg base "words_of_parts" ["parts"] d (K97.Zdx d):=by
  intro d
  induction d with
  | zero=>exact⟨⟨f15,_,FnOk.none (fun vs H Q E z=>by obtain⟨_,_,_,_,_,_,hd,_⟩:=z;exact absurd hd (Nat.not_lt_zero _)),b15,k15,PySem.W.mg_of X G a15⟩⟩
  | succ d ih=>exact⟨⟨f15,_,ZcW d B ih F15,b15,k15,PySem.W.mg_of X G a15⟩⟩
 have g_words_of_parts:=r_words_of_parts 22;have g_Stream_take_begin:HasM l.prog w K mg base C_Stream "take_begin" ["self","mode","tag"] 24 (K97.Zgo C_Stream):=⟨⟨f16,_,Zb6 B c_Stream g_parts_for g_words_of_parts g_kids_in F16,b16,⟨a16,n16,k16⟩⟩⟩;have g_Stream_take:HasM l.prog w K mg base C_Stream "take" ["self","word"] 25 (K97.Zgq C_Stream):=⟨⟨f17,_,Zed B c_Stream g_is_tag g_Stream_take_begin F17,b17,⟨a17,n17,k17⟩⟩⟩;have r_l_both:∀d:Nat,Has l.prog w K mg base "_law_put" ["_law_made_here","_law_parts_here","_law_inner"] d (K97.ZdF d)/\Has l.prog w K mg base "_law_turned" ["_law_made_here","_law_mode","_law_grove_here"] d (K97.ZcO d):=by
  intro d
  induction d with
  | zero=>exact⟨⟨⟨f18,_,FnOk.none (fun vs H Q E z=>K97.ZnT z),b18,k18,PySem.W.mg_of X G a18⟩⟩,⟨⟨f19,_,FnOk.none (fun vs H Q E z=>K97.ZnD z),b19,k19,PySem.W.mg_of X G a19⟩⟩⟩
  | succ d ih=>exact⟨⟨⟨f18,_,Zkk d B ih.2 ih.1 F18,b18,k18,PySem.W.mg_of X G a18⟩⟩,⟨⟨f19,_,ZgT d B ih.1 ih.2 F19,b19,k19,PySem.W.mg_of X G a19⟩⟩⟩
 have g_l_put:=(r_l_both 140).1;have g_l_turned:=(r_l_both 140).2;have g_Stream_owed:HasM l.prog w K mg base C_Stream "owed" ["self"] 1 (K97.Zjx C_Stream):=⟨⟨f20,_,Zef B c_Stream  F20,b20,⟨a20,n20,k20⟩⟩⟩;have g_words_of:Has l.prog w K mg base "words_of" ["grove"] 1 (Fg.Zgb K):=⟨⟨f21,_,Zgc B  F21,b21,k21,PySem.W.mg_of X G a21⟩⟩;have g_modes_within:Has l.prog w K mg base "modes_within" ["known","modes","tag"] 23 (K97.ZlE):=⟨⟨f22,_,ZdO B g_all_parts g_parts_for F22,b22,k22,PySem.W.mg_of X G a22⟩⟩;have g_modes_at:Has l.prog w K mg base "modes_at" ["known","words","mode"] 24 (K97.ZlN):=⟨⟨f23,_,Zf4 B g_modes_within F23,b23,k23,PySem.W.mg_of X G a23⟩⟩;have g_closings:Has l.prog w K mg base "closings" ["words"] 1 (K97.Zf5 K):=⟨⟨f24,_,Zgm B  F24,b24,k24,PySem.W.mg_of X G a24⟩⟩;have g_Bounds_nothing:HasM l.prog w K mg base C_Bounds "nothing" ["self"] 1 (K97.Zid Fg.snB):=⟨⟨f25,_,ZcP B c_Bounds  F25,b25,⟨a25,n25,k25⟩⟩⟩;have g_Groves_nothing:HasM l.prog w K mg base C_Groves "nothing" ["self"] 1 (K97.Zid (Fg.snG 2000)):=⟨⟨f26,_,ZcM B c_Groves  F26,b26,⟨a26,n26,k26⟩⟩⟩;have g_Bounds_tree:HasM l.prog w K mg base C_Bounds "tree" ["self","tag","within"] 1 (K97.Zih Fg.snB):=⟨⟨f27,_,Zeg B c_Bounds  F27,b27,⟨a27,n27,k27⟩⟩⟩;have g_Groves_tree:HasM l.prog w K mg base C_Groves "tree" ["self","tag","within"] 1 (K97.Zih (Fg.snG 2000)):=⟨⟨f28,_,Zem B c_Groves  F28,b28,⟨a28,n28,k28⟩⟩⟩;have g_Bounds_beside:HasM l.prog w K mg base C_Bounds "beside" ["self","one","other"] 1 (K97.Zh1 Fg.snB):=⟨⟨f29,_,Zdc B c_Bounds  F29,b29,⟨a29,n29,k29⟩⟩⟩;have g_Groves_beside:HasM l.prog w K mg base C_Groves "beside" ["self","one","other"] 1 (K97.Zh1 (Fg.snG 2000)):=⟨⟨f30,_,Zdd B c_Groves  F30,b30,⟨a30,n30,k30⟩⟩⟩;have r_cmpB:∀d:Nat,Has l.prog w K mg base "come_of_parts" ["parts","kids","sense"] (d+1) (K97.ZhR Fg.snB C_Bounds d):=by
  intro d
  induction d with
  | zero=>exact⟨⟨f31,_,FnOk.none (fun vs H Q E z=>K97.Zni z),b31,k31,PySem.W.mg_of X G a31⟩⟩
  | succ d ih=>exact⟨⟨f31,_,ZbJ Fg.snB d B c_Bounds.cls g_Bounds_nothing g_Bounds_tree g_Bounds_beside ih F31,b31,k31,PySem.W.mg_of X G a31⟩⟩
 have g_come_of_partsB:=r_cmpB 23;have r_cmpG:∀d:Nat,Has l.prog w K mg base "come_of_parts" ["parts","kids","sense"] (d+1) (K97.ZhR (Fg.snG 2000) C_Groves d):=by
  intro d
  induction d with
  | zero=>exact⟨⟨f31,_,FnOk.none (fun vs H Q E z=>K97.Zni z),b31,k31,PySem.W.mg_of X G a31⟩⟩
  | succ d ih=>exact⟨⟨f31,_,ZbJ (Fg.snG 2000) d B c_Groves.cls g_Groves_nothing g_Groves_tree g_Groves_beside ih F31,b31,k31,PySem.W.mg_of X G a31⟩⟩
 have g_come_of_partsG:=r_cmpG 23;have g_come_ofB:Has l.prog w K mg base "come_of" ["changer","words","mode","sense"] 25 (K97.ZiX Fg.snB C_Bounds):=⟨⟨f32,_,Zeu Fg.snB B c_Bounds.cls g_Bounds_nothing g_Bounds_beside g_parts_by_rule g_modes_at g_closings g_come_of_partsB g_parts_for F32,b32,k32,PySem.W.mg_of X G a32⟩⟩;have g_come_ofG:Has l.prog w K mg base "come_of" ["changer","words","mode","sense"] 25 (K97.ZiX (Fg.snG 2000) C_Groves):=⟨⟨f32,_,Zeu (Fg.snG 2000) B c_Groves.cls g_Groves_nothing g_Groves_beside g_parts_by_rule g_modes_at g_closings g_come_of_partsG g_parts_for F32,b32,k32,PySem.W.mg_of X G a32⟩⟩;have g_refuse_great:Has l.prog w K mg base "refuse_great" ["tags","deep"] 1 (K97.ZiP):=⟨⟨f33,_,ZdJ B Cc_MOST_TAGS Cc_DEEPEST_GROVE  F33,b33,k33,PySem.W.mg_of X G a33⟩⟩;have okc:=ZhS (P:=l.prog) (w:=w) (base:=base) B g_Bounds g_Groves g_words_of g_come_ofB g_come_ofG g_refuse_great F34;have g_changed:Has l.prog w K mg base "changed" ["changer","grove","mode"] 26 (K97.ZbQ):=⟨⟨f34,_,okc,b34,k34,PySem.W.mg_of X G a34⟩⟩;have g_changedD:HasD l.prog w K mg base "changed" ["changer","grove","mode"] [.int 0] 26 (K97.ZbQ):=⟨⟨f34,_,_,okc,bD34,.cons ⟨_,rfl⟩ .nil,k34,PySem.W.mg_of X G a34⟩⟩;exact Zmy B c_Stream g_l_tags g_l_cell g_l_made g_l_changer g_l_grove g_Stream g_l_words g_Stream_take g_l_turned g_Stream_owed g_changed g_changedD F35
theorem walk{l:PySem.W.OpenLaw}{q:Program}{loose:List Str}{XP:(Str->Option Value)->Heap->Prop}{YP:World->Heap->Prop}{d:DefRec}{K:Params->PySem.W.Frag}(hn:l.most=some 63)(hdf:d.params.defaults=[])
  (hY:∀(w:World)(h:Heap),YP w h->(K w.params).In h)
  (F:∀(w:World)(mg:Str->Option Value)(fa:Addr)(h:Heap),(K w.params).In h->h.Ns mainGlobals mg->mg d.name=some (.ref fa) ->
   ∃fd:FuncData,(∀(s:Shared)(u:Value),BindsTo s fd ⟨[u],[]⟩ [("_law_script",u)])/\∀base:Heap,(K w.params).In base->base.Ns mainGlobals mg->FnOk l.prog w (K w.params) mg base CX0 141 fa fd ["_law_script"] (Fg.Zj8 (K w.params))) :
  PySem.W.WalkO q loose XP YP l.row.toRowW d [] (fun f vs=>PySem.call f vs) :=
 L2.ZiY (n:=63) (k:=141) (x := "_law_script") (CX:=fun _=>CX0) (sp:=fun w=>Fg.Zj8 (K w.params)) hn (by decide) hdf ⟨rfl,by decide,by decide⟩ hY F (fun _ _ a ns hl _ hS=>⟨a,ns,rfl,hS,hl,fun _=>rfl⟩) fun _ _ _ _ _ z=>z
end K97
namespace PySem.W.Fast
def tw6985183087674296538:=0
def tw7065634079875939008:=0
def tw15323944924909655416:=0
def tw1642280785257603451:=0
def tw6303368858351247723:=0
def tw2457262431735452604:=0
def tw928702303158012311:=0
def tw12634274597439943872:=0
def tw12035259550811567844:=0
def tw782556857876137934:=0
def tw1042714713766510600:=0
def tw14631333238726775589:=0
def tw4337494980482132884:=0
def tw12913729240267715683:=0
def tw223564678505006376:=0
def tw4772172693083293079:=0
def tw10254498762840646285:=0
def tw3072628573294532416:=0
def tw3898363288120731197:=0
def tw3482140337371456915:=0
def tw1462472061007008256:=0
def tw14943055668323018738:=0
def tw17196991375582652794:=0
def tw11652298161498274403:=0
def tw14737108919469257953:=0
def tw12524051001543028133:=0
def tw18390456977066221300:=0
def tw1532335614410222182:=0
def tw9650666594549406710:=0
def tw13901748825873467276:=0
def tw8707569443538238293:=0
def tw15377134395402066183:=0
def tw1886416197462497362:=0
def tw38166345685514925:=0
def tw3596204392578193635:=0
def tw16705766098313945337:=0
def tw6594777140036294254:=0
def tw20550485699524160:=0
def tw2981276350741790691:=0
def tw5261047304398044924:=0
def tw6028330935826795617:=0
def tw7114785697497577843:=0
def tw2812396642268086638:=0
def tw16033918581130558120:=0
def tw11200843082813357561:=0
def tw14086270269891038036:=0
def tw18251359948560034669:=0
def tw14732014170015002645:=0
def tw16124354052166863011:=0
def tw6630042349212042556:=0
def tw9892406759444032508:=0
def tw7977136518270605342:=0
def tw16447559397227863156:=0
def tw15432673308964427133:=0
def tw15757648770721916707:=0
def tw3477088824847970513:=0
def tw7776622301785754381:=0
def tw15175663705903532916:=0
def tw5721721311246926960:=0
def tw8907257671997500041:=0
def tw17274458959084249510:=0
def tw13268413102427067868:=0
def tw7997436484991273419:=0
def tw515372115836556162:=0
def tw17826751368832229795:=0
def tw12620784897327120528:=0
def tw1060788033257370924:=0
def tw3239763938600010357:=0
def tw2792472077776530039:=0
def tw15619229913397780172:=0
def tw9641969737449052766:=0
def tw5772314773608756155:=0
def tw296255955674250004:=0
def tw3815059570452100868:=0
def tw10932851022151436336:=0
def tw2450970956037440855:=0
def tw15392867312844408518:=0
def tw6695313728752300840:=0
def tw4250736911730848413:=0
def tw133875565103270396:=0
def tw2118270907294412021:=0
def tw5309796346285476909:=0
def tw3879336372812865587:=0
def tw10572302864438460237:=0
def tw16562782944517583832:=0
def tw4433031905459783139:=0
def tw889415557353720509:=0
def tw1744756172856073970:=0
def tw18441001785113300094:=0
def tw3763731640258300725:=0
def tw13494424394200840839:=0
def tw16307893339246435600:=0
def tw2712629298445301222:=0
def tw6114003124333281661:=0
def tw2379822448865886640:=0
def tw16953916243926006453:=0
def tw2325224485767897854:=0
def tw4622902184399521026:=0
def tw13626379542474663922:=0
def tw11228547984606929373:=0
def tw8320644466465631695:=0
def tw818449165884901480:=0
def tw5997012162844560303:=0
def tw15226666786301708503:=0
def tw14134362775051565104:=0
def tw8039696987320376840:=0
def tw8009604756734930648:=0
def tw2260169238979542284:=0
def tw12644697933433785336:=0
def tw15614977675597104053:=0
def tw13820594322770035013:=0
def tw3119538039197867512:=0
def tw9081699305097098813:=0
def tw6216480238758064722:=0
def tw2175941899988171966:=0
def tw10458171401724196077:=0
def tw8888990440572471889:=0
def tw16373989094788695054:=0
def tw1730155883433856045:=0
def tw17039201901363192200:=0
def tw6250989927044926716:=0
def tw17051226186951398771:=0
def tw11404624438944806606:=0
def tw9229199814558048657:=0
def tw12272735423438955482:=0
def tw16672660273178962053:=0
def tw16905902608270657083:=0
def tw9101978697317270689:=0
def tw17625126539615859959:=0
def tw7206218819822952578:=0
def tw10221627265691752275:=0
def tw2465059128626434022:=0
def tw10424290577003284427:=0
def tw3599752720139833359:=0
def tw8780184177768968963:=0
def tw5298083315742865337:=0
def tw12457932868123093552:=0
def tw15973479369557353963:=0
def tw7634464836290346057:=0
def tw6506447806069522626:=0
def tw8778362228475727526:=0
def tw17066240748776640674:=0
def tw8313634460432814233:=0
def tw5397884803842809385:=0
def tw8516528363725752236:=0
def tw12548831126234196266:=0
def tw9515744085710257769:=0
def tw7162967596629793372:=0
def tw15583450931958651379:=0
def tw12069760955726176127:=0
def tw15864306680883891710:=0
def tw14544759009917324926:=0
def tw10694647224295827259:=0
def tw13072301093894719072:=0
def tw16037689454872232943:=0
def tw7075010992011754099:=0
def tw16411039595090743608:=0
def tw7357371130946934731:=0
def tw16744661214262131144:=0
def tw3905013024401842313:=0
def tw9066471386473446989:=0
def tw875532618109788041:=0
def tw8207096431508431839:=0
def tw4368577967312022567:=0
def tw2852053250232565406:=0
def tw5004663626656407078:=0
def tw9735810135389849438:=0
def tw18429640389759823451:=0
def tw7113697861882885604:=0
def tw10240231326655455837:=0
def tw12347505437086845280:=0
def tw18391286250585025057:=0
def tw13220048115579120583:=0
def tw9488883302244162867:=0
def tw13179430208966263394:=0
def tw14485303573946300458:=0
def tw12563281617981532283:=0
def tw7091478874578321285:=0
def tw1852119463088114771:=0
def tw13269169670227627831:=0
def tw13014476560708271194:=0
def tw11053699093040936157:=0
def tw9365199802298284346:=0
def tw9551344943059894772:=0
def tw8876351367223278090:=0
def tw15933286272242502249:=0
def tw7612045890112522767:=0
def tw14362133750544064311:=0
def tw3919996840041883856:=0
def tw3662115509756699696:=0
def tw8096512610650655902:=0
def tw7445199533081716964:=0
def tw6658144032038141967:=0
def tw7185905687774059334:=0
def tw18444924168169436335:=0
def tw5395598228647395902:=0
def tw4760756969117234681:=0
def tw5184209915010198997:=0
def tw5595735443378657717:=0
def tw11991873321643252098:=0
def tw11925224526705174316:=0
def tw15537269201580493239:=0
def tw4554309695611634855:=0
def tw564618746984153396:=0
def tw12847432111267310284:=0
def tw14470984226432864156:=0
def tw16265314480577642178:=0
def tw4214494175941419861:=0
def tw54589701820946970:=0
def tw13896608658011729878:=0
def tw5882803372659532588:=0
def tw3734504813786939958:=0
def tw7536558305710216830:=0
def tw9975533873986281480:=0
def tw7286833353481899253:=0
def tw10874046675514561539:=0
def tw11935313333862075977:=0
def tw17785260884990693973:=0
def tw6068612172523553906:=0
def tw6970200322739664126:=0
def tw6338292860877423733:=0
def tw15963543472591051926:=0
def tw3857589245863868682:=0
def tw9826153922059691002:=0
def tw2350939282739839445:=0
def tw18298098126690049702:=0
def tw16809579267554708183:=0
def tw12507560177200575162:=0
def tw14784029615706636876:=0
def tw11390386462061041460:=0
def tw14643386890389986016:=0
def tw10549149589412428714:=0
def tw2391871925032194204:=0
def tw3076083331329589943:=0
def tw11717430363550059740:=0
def tw6804966635431880839:=0
def tw10532764030972882933:=0
def tw17031501051537772511:=0
def tw13184072998013716867:=0
def tw16453900669231484988:=0
def tw14172982140368442768:=0
def tw3169073221436743657:=0
def tw14762578974144628771:=0
def tw684494834452624420:=0
def tw7774656740322970243:=0
def tw10503248178622497575:=0
def tw393038340952605097:=0
def tw14905171622959021332:=0
def tw2914795955206648224:=0
def tw14347203879074519726:=0
def tw6306555898628660449:=0
def tw2537751826808047947:=0
def tw3596164913223641020:=0
def tw16076920955365428149:=0
def tw8000570373957419007:=0
def tw15005533677066319595:=0
def tw13690954779080524994:=0
def tw5593165221563503274:=0
def tw6676674736060176516:=0
def tw2117443681436549402:=0
def tw6855740010210476591:=0
def tw16966660008033050096:=0
def tw17021163227774977385:=0
def tw15806600829747350790:=0
def tw17449473730957189326:=0
def tw12663177269355898424:=0
def tw3108579133935955244:=0
def tw10370089051919365309:=0
def tw1277273687545008469:=0
def tw11051830281909804629:=0
def tw7177138869487280271:=0
def tw11793057129172771979:=0
def tw11808040249641813835:=0
def tw5355892433866071989:=0
def tw9130813401800316065:=0
def tw10290571185618077403:=0
def tw4343616802279754496:=0
def tw6167305855072270302:=0
def tw9655763664812169388:=0
def tw8987797499367675444:=0
def tw16191237048654421652:=0
def tw5317420978656169955:=0
def tw5301314287249814148:=0
def tw7747435852537537187:=0
def tw2889132991938282655:=0
def tw277513478917586116:=0
def tw9858371981806907266:=0
def tw14627620464485084909:=0
def tw8586439028793684662:=0
def tw299999933813766608:=0
def tw4649786775810179689:=0
def tw9688616122883491623:=0
def tw2856567771049218292:=0
def tw13289226157108142142:=0
def tw16050569932608299113:=0
def tw260119378424186119:=0
def tw17424261845405826625:=0
def tw5691412863871200896:=0
def tw5379344531006282816:=0
def tw8193395550645459621:=0
def tw6549201033297798828:=0
def tw18095103687488878423:=0
def tw13444286238141382990:=0
def tw5011082700514376227:=0
def tw7462894297337024188:=0
def tw8649263272300509476:=0
def tw17127188619124829161:=0
def tw819361709654836791:=0
def tw7408360766415762084:=0
def tw14590571718003360228:=0
def tw13771391302556641635:=0
def tw13892712676345846022:=0
def tw4313546620690936047:=0
def tw1596603777008210727:=0
def tw14070104123199329277:=0
def tw4823885977594122053:=0
def tw17516437965310330748:=0
def tw16832768502221772405:=0
def tw4504383071753266678:=0
def tw3782210188610983780:=0
def tw17812993852724555129:=0
def tw7331903180075107979:=0
def tw407995631953792756:=0
def tw7766777261765758280:=0
def tw3450604946186177046:=0
def tw9593083181217282515:=0
def tw3261466618236769253:=0
def tw16635235402579057182:=0
def tw10482490454702817837:=0
def tw4314757826867959787:=0
def tw17142846784316961516:=0
def tw5626630478242702380:=0
def tw9974990052195151197:=0
def tw14131888047295255188:=0
def tw18323583510607813434:=0
def tw965509951232799305:=0
def tw13383867050129871703:=0
def tw16707571871433624666:=0
def tw9325090930690145932:=0
def tw10876328916857373633:=0
def tw16586366290789652031:=0
def tw5943553280229886603:=0
def tw8354327544161783464:=0
def tw12527239034019627544:=0
def tw12291933349088893509:=0
def tw12623163870921786073:=0
def tw16138084635900979649:=0
def tw11595594890523087059:=0
def tw12596352901734807742:=0
def tw15944914170888655715:=0
def tw6904577308121459672:=0
def tw3505215021355530609:=0
def tw9755750208389509658:=0
def tw13248930614085100532:=0
def tw9229755835428576233:=0
def tw14895122360781988763:=0
def tw1912798023741589027:=0
def tw13164975718095618129:=0
def tw16404824632971504452:=0
def tw8123568710652713856:=0
def tw4264639368952581922:=0
def tw12386002040334488754:=0
def tw15842075124389110807:=0
def tw17964000821728481229:=0
def tw15375862570106894227:=0
def tw10448193143437661193:=0
def tw13366664714143245344:=0
def tw10830175884259877645:=0
def tw14461777645767596949:=0
def tw16081026193405959098:=0
def tw15736381382383308222:=0
def tw12083167791774515567:=0
def tw4408250010759477746:=0
def tw2747196154120488781:=0
def tw6599240232496814891:=0
def tw17188223853030963625:=0
def tw5717284116605857953:=0
def tw17679834907893225346:=0
def tw14493722118362097277:=0
def tw5934194662817034292:=0
def tw10203986901199242172:=0
def tw2083212600218029627:=0
def tw6837775071413121952:=0
def tw17986226741680629762:=0
def tw14956278196200801298:=0
def tw10965729185949961418:=0
def tw1139790526905299636:=0
def tw12239007887707185394:=0
def tw14722074335447976599:=0
def tw5346747930445917567:=0
def tw13824933246129944122:=0
def tw7793303621782919273:=0
def tw5319457982914195297:=0
def tw4638784744939708639:=0
def tw16073567226207523615:=0
def tw10242080688307629367:=0
def tw3570121166297759045:=0
end PySem.W.Fast
open PySem PySem.W PyProof.Rows
set_option maxRecDepth 100000 in
set_option maxHeartbeats 0 in
theorem PySem.Challenge.cw_formgrove_k97_whole_two_streams_holds : PySem.Challenge.rw_formgrove_k97_whole_two_streams.Holds := by
 w_on;o_law;k_head;(case hw=>w_witness2)
 k_fill
 refine K97.walk (l:=PySem.Challenge.rw_formgrove_k97_whole_two_streams) rfl rfl (fun w h Y=>PySem.W.kIn_of Y) ?F
 case F =>
  intro w mg fa h KX G hmg;refine' K97.Zmm KX G hmg ?cn1 ?cp1 ?ch1 ?cq1 ?cs1 ?cm1 ?ck1 ?cx1_0 ?cx1_1 ?cx1_2 ?cn2 ?cp2 ?ch2 ?cq2 ?cs2 ?cm2 ?ck2 ?ci2 ?cn3 ?cp3 ?ch3 ?cq3 ?cs3 ?cm3 ?ck3 ?ci3 ?a1 ?l1 ?c1 ?k1 ?a2 ?l2 ?c2 ?k2 ?a3 ?l3 ?c3 ?k3 ?a4 ?l4 ?c4 ?k4 ?a5 ?l5 ?c5 ?k5 ?a6 ?l6 ?c6 ?k6 ?a7 ?l7 ?c7 ?k7 ?a8 ?l8 ?c8 ?k8 ?a9 ?l9 ?c9 ?k9 ?a10 ?l10 ?c10 ?k10 ?a11 ?l11 ?c11 ?k11 ?n11 ?a12 ?l12 ?c12 ?k12 ?a13 ?l13 ?c13 ?k13 ?a14 ?l14 ?c14 ?k14 ?a15 ?l15 ?c15 ?k15 ?a16 ?l16 ?c16 ?k16 ?n16 ?a17 ?l17 ?c17 ?k17 ?n17 ?a18 ?l18 ?c18 ?k18 ?a19 ?l19 ?c19 ?k19 ?a20 ?l20 ?c20 ?k20 ?n20 ?a21 ?l21 ?c21 ?k21 ?a22 ?l22 ?c22 ?k22 ?a23 ?l23 ?c23 ?k23 ?a24 ?l24 ?c24 ?k24 ?a25 ?l25 ?c25 ?k25 ?n25 ?a26 ?l26 ?c26 ?k26 ?n26 ?a27 ?l27 ?c27 ?k27 ?n27 ?a28 ?l28 ?c28 ?k28 ?n28 ?a29 ?l29 ?c29 ?k29 ?n29 ?a30 ?l30 ?c30 ?k30 ?n30 ?a31 ?l31 ?c31 ?k31 ?a32 ?l32 ?c32 ?k32 ?a33 ?l33 ?c33 ?k33 ?a34 ?l34 ?c34 ?k34 ?dl34 ?ds34 ?a35 ?l35 ?c35 ?k35 ?y0 ?y1 ?y2 ?z0 ?z1 ?z2 ?z3 ?z4 ?z5 ?z6 ?z7 ?z8
  (case cn1=>k_is)
  (case cp1=>k_is)
  (case ch1=>k_is)
  (case cq1=>k_is)
  (case cs1=>k_is)
  (case cm1=>k_is)
  (case ck1=>k_is)
  (case cx1_0=>k_is)
  (case cx1_1=>k_is)
  (case cx1_2=>k_is)
  (case cn2=>k_is)
  (case cp2=>k_is)
  (case ch2=>k_is)
  (case cq2=>k_is)
  (case cs2=>k_is)
  (case cm2=>k_is)
  (case ck2=>k_is)
  (case ci2=>k_is)
  (case cn3=>k_is)
  (case cp3=>k_is)
  (case ch3=>k_is)
  (case cq3=>k_is)
  (case cs3=>k_is)
  (case cm3=>k_is)
  (case ck3=>k_is)
  (case ci3=>k_is)
  (case a1=>k_is)
  (case l1=>k_is)
  (case c1=>k_is)
  (case k1=>k_is)
  (case a2=>k_is)
  (case l2=>k_is)
  (case c2=>k_is)
  (case k2=>k_is)
  (case a3=>k_is)
  (case l3=>k_is)
  (case c3=>k_is)
  (case k3=>k_is)
  (case a4=>k_is)
  (case l4=>k_is)
  (case c4=>k_is)
  (case k4=>k_is)
  (case a5=>k_is)
  (case l5=>k_is)
  (case c5=>k_is)
  (case k5=>k_is)
  (case a6=>k_is)
  (case l6=>k_is)
  (case c6=>k_is)
  (case k6=>k_is)
  (case a7=>k_is)
  (case l7=>k_is)
  (case c7=>k_is)
  (case k7=>k_is)
  (case a8=>k_is)
  (case l8=>k_is)
  (case c8=>k_is)
  (case k8=>k_is)
  (case a9=>k_is)
  (case l9=>k_is)
  (case c9=>k_is)
  (case k9=>k_is)
  (case a10=>k_is)
  (case l10=>k_is)
  (case c10=>k_is)
  (case k10=>k_is)
  (case a11=>k_is)
  (case l11=>k_is)
  (case c11=>k_is)
  (case k11=>k_is)
  (case n11=>k_is)
  (case a12=>k_is)
  (case l12=>k_is)
  (case c12=>k_is)
  (case k12=>k_is)
  (case a13=>k_is)
  (case l13=>k_is)
  (case c13=>k_is)
  (case k13=>k_is)
  (case a14=>k_is)
  (case l14=>k_is)
  (case c14=>k_is)
  (case k14=>k_is)
  (case a15=>k_is)
  (case l15=>k_is)
  (case c15=>k_is)
  (case k15=>k_is)
  (case a16=>k_is)
  (case l16=>k_is)
  (case c16=>k_is)
  (case k16=>k_is)
  (case n16=>k_is)
  (case a17=>k_is)
  (case l17=>k_is)
  (case c17=>k_is)
  (case k17=>k_is)
  (case n17=>k_is)
  (case a18=>k_is)
  (case l18=>k_is)
  (case c18=>k_is)
  (case k18=>k_is)
  (case a19=>k_is)
  (case l19=>k_is)
  (case c19=>k_is)
  (case k19=>k_is)
  (case a20=>k_is)
  (case l20=>k_is)
  (case c20=>k_is)
  (case k20=>k_is)
  (case n20=>k_is)
  (case a21=>k_is)
  (case l21=>k_is)
  (case c21=>k_is)
  (case k21=>k_is)
  (case a22=>k_is)
  (case l22=>k_is)
  (case c22=>k_is)
  (case k22=>k_is)
  (case a23=>k_is)
  (case l23=>k_is)
  (case c23=>k_is)
  (case k23=>k_is)
  (case a24=>k_is)
  (case l24=>k_is)
  (case c24=>k_is)
  (case k24=>k_is)
  (case a25=>k_is)
  (case l25=>k_is)
  (case c25=>k_is)
  (case k25=>k_is)
  (case n25=>k_is)
  (case a26=>k_is)
  (case l26=>k_is)
  (case c26=>k_is)
  (case k26=>k_is)
  (case n26=>k_is)
  (case a27=>k_is)
  (case l27=>k_is)
  (case c27=>k_is)
  (case k27=>k_is)
  (case n27=>k_is)
  (case a28=>k_is)
  (case l28=>k_is)
  (case c28=>k_is)
  (case k28=>k_is)
  (case n28=>k_is)
  (case a29=>k_is)
  (case l29=>k_is)
  (case c29=>k_is)
  (case k29=>k_is)
  (case n29=>k_is)
  (case a30=>k_is)
  (case l30=>k_is)
  (case c30=>k_is)
  (case k30=>k_is)
  (case n30=>k_is)
  (case a31=>k_is)
  (case l31=>k_is)
  (case c31=>k_is)
  (case k31=>k_is)
  (case a32=>k_is)
  (case l32=>k_is)
  (case c32=>k_is)
  (case k32=>k_is)
  (case a33=>k_is)
  (case l33=>k_is)
  (case c33=>k_is)
  (case k33=>k_is)
  (case a34=>k_is)
  (case l34=>k_is)
  (case c34=>k_is)
  (case k34=>k_is)
  (case dl34=>k_is)
  (case ds34=>rfl)
  (case a35=>k_is)
  (case l35=>k_is)
  (case c35=>k_is)
  (case k35=>k_is)
  (case y0=>k_is)
  (case y1=>k_is)
  (case y2=>k_is)
  (case z0=>k_is)
  (case z1=>k_is)
  (case z2=>k_is)
  (case z3=>k_is)
  (case z4=>k_is)
  (case z5=>k_is)
  (case z6=>k_is)
  (case z7=>k_is)
  (case z8=>k_is)
