import PyProof.Rows.All
import Wide.All
import OpenK.AllK
import Wide.FinOn
import Lean
import PyProof.EqAt
import PyProof.EqKinds
import PyProof.TupleCall
import PySem.Challenge.RW_formgrove_k31_first_word
set_option Elab.async false
set_option linter.all false
set_option maxRecDepth 100000
namespace L2
open PySem PySem.Spec PyProof.Rows
abbrev Key:=Sum Int Str
def ZeG:Key->Value->Bool
 | .inl k,v=>Value.isInt k v
 | .inr x,v=>Value.isStrOf x v
def Zl0(w:World):Key->Int
 | .inl k=>hashInt k
 | .inr x=>hashStr w x
theorem ZV:∀{k:Key}{v:Value},ZeG k v=true->(∃i t,k=Sum.inl i/\v=Value.int i t)\/(∃x t,k=Sum.inr x/\v=Value.str x t)
 | .inl i,v,h=>by
  obtain⟨t,e⟩:=Value.isInt_shape (k:=i) (v:=v) h;exact .inl ⟨i,t,rfl,e⟩
 | .inr x,v,h=>by
  obtain⟨t,e⟩:=Value.isStrOf_shape (x:=x) (v:=v) h;exact .inr ⟨x,t,rfl,e⟩
theorem ZhL(i:Int)(t:Tok):ZeG (.inl i) (.int i t)=true:=by simp[ZeG,Value.isInt]
theorem Zhn(x:Str)(t:Tok):ZeG (.inr x) (.str x t)=true:=by simp[ZeG,Value.isStrOf]
theorem Zk0(a b:Int):decide ((Sum.inl a:Key)=Sum.inl b)=(a == b):=by
 by_cases e:a=b
 ·subst e;simp
 ·have h : ¬ (Sum.inl a:Key)=Sum.inl b:=fun q=>e (Sum.inl.inj q);rw[decide_eq_false h];exact(beq_eq_false_iff_ne.mpr e).symm
theorem Zkt(a b:Str):decide ((Sum.inr a:Key)=Sum.inr b)=decide (a=b):=by
 by_cases e:a=b
 ·subst e;simp
 ·have h : ¬ (Sum.inr a:Key)=Sum.inr b:=fun q=>e (Sum.inr.inj q);rw[decide_eq_false h,decide_eq_false e]
theorem Zks(a:Int)(b:Str):decide ((Sum.inl a:Key)=Sum.inr b)=false:=decide_eq_false (fun q=>nomatch q)
theorem Zke(a:Str)(b:Int):decide ((Sum.inr a:Key)=Sum.inl b)=false:=decide_eq_false (fun q=>nomatch q)
def Zn(prog:Program)(w:World):PySem.KeyKind prog w Key where
 is:=ZeG
 hash:=Zl0 w
 inj:=fun v a b ha hb=>by
  rcases ZV ha with⟨i,t,rfl,rfl⟩|⟨x,t,rfl,rfl⟩
  ·rcases ZV hb with⟨j,u,rfl,e⟩|⟨y,u,rfl,e⟩
   ·injection e with e1 _;rw[e1]
   ·exact nomatch e
  ·rcases ZV hb with⟨j,u,rfl,e⟩|⟨y,u,rfl,e⟩
   ·exact nomatch e
   ·injection e with e1 _;rw[e1]
 byValue:=fun k v h=>by
  rcases ZV h with⟨i,t,rfl,rfl⟩|⟨x,t,rfl,rfl⟩ <;> rfl
 pyHash:=fun hv h=>by
  rcases ZV hv with⟨i,t,rfl,rfl⟩|⟨x,t,rfl,rfl⟩
  ·exact wpAny_pyHash_int h
  ·exact wpAny_pyHash_str h
 eqBool:=fun hu hv h=>by
  rcases ZV hu with⟨i,t,rfl,rfl⟩|⟨x,t,rfl,rfl⟩
  ·rcases ZV hv with⟨j,u,rfl,rfl⟩|⟨y,u,rfl,rfl⟩
   ·rw[Zk0] at h;exact wpAny_eqBool_int h
   ·rw[Zks] at h;exact SeqAt.EqAt.int_str i t y u _ _ _ _ h
  ·rcases ZV hv with⟨j,u,rfl,rfl⟩|⟨y,u,rfl,rfl⟩
   ·rw[Zke] at h;exact SeqAt.EqAt.str_int x t j u _ _ _ _ h
   ·rw[Zkt] at h;exact wpAny_eqBool_str h
 «strs» := fun k x t v h=>by
  rcases ZV h with⟨i,u,rfl,e⟩|⟨y,u,rfl,e⟩
  ·exact nomatch e
  ·injection e with e1 _;subst e1;cases v <;> rfl
theorem Zfn(prog:Program)(w:World)(i:Int)(t:Tok):(Zn prog w).is (.inl i) (.int i t)=true:=ZhL i t
theorem Zfz(prog:Program)(w:World)(x:Str)(t:Tok):(Zn prog w).is (.inr x) (.str x t)=true:=Zhn x t
inductive V where
 | non|bl (b:Bool)|int (i:Int)|str (x:Str)|byt (b:Array UInt8)|flt (b:UInt64)|ref (a:Addr)|ty (n:String)
 deriving DecidableEq
def RelV:V->Value->Prop
 | .non,u=>u=Value.none
 | .bl b,u=>u=Value.bool b
 | .int i,u=>∃t,u=Value.int i t
 | .str x,u=>∃t,u=Value.str x t
 | .byt b,u=>∃t,u=Value.bytes b t
 | .flt b,u=>∃t,u=Value.float b t
 | .ref a,u=>u=Value.ref a
 | .ty n,u=>u=Value.type n
abbrev Vals:List V->List Value->Prop:=Paired RelV
theorem Vals.length{xs:List V}{us:List Value}(r:Vals xs us):xs.length=us.length:=Paired.length r
theorem Vals.get:∀{xs:List V}{us:List Value}{i:Nat}{x:V},Vals xs us->xs[i]?= some x->∃u,us[i]?= some u/\RelV x u
 | _,_,_,_,.nil,e=>by simp at e
 | _,_,0,_,.cons r _,e=>by simp at e;subst e;exact⟨_,rfl,r⟩
 | _,_,i+1,x,.cons _ t,e=>by
  obtain⟨u,h1,h2⟩:=Vals.get (i:=i) (x:=x) t (by simpa using e);exact⟨u,by simpa using h1,h2⟩
theorem Vals.set{x:V}{u:Value}(r:RelV x u):∀{xs:List V}{us:List Value}(i:Nat),Vals xs us->Vals (xs.set i x) (us.set i u)
 | _,_,_,.nil=>.nil
 | _,_,0,.cons _ t=>.cons r t
 | _,_,i+1,.cons q t=>.cons q (Vals.set r i t)
theorem Vals.append:∀{xs ys:List V}{us ws:List Value},Vals xs us->Vals ys ws->Vals (xs++ys) (us++ws)
 | _,_,_,_,.nil,s=>s
 | _,_,_,_,.cons r t,s=>.cons r (Vals.append t s)
theorem Vals.take:∀{xs:List V}{us:List Value}(n:Nat),Vals xs us->Vals (xs.take n) (us.take n)
 | _,_,0,_=>.nil
 | _,_,_+1,.nil=>.nil
 | _,_,n+1,.cons r t=>.cons r (Vals.take n t)
theorem Vals.drop:∀{xs:List V}{us:List Value}(n:Nat),Vals xs us->Vals (xs.drop n) (us.drop n)
 | _,_,0,r=>r
 | _,_,_+1,.nil=>.nil
 | _,_,n+1,.cons _ t=>Vals.drop n t
def Zfh:Option V->Option Value->Prop
 | some v,some u=>RelV v u
 | none,none=>True
 | _,_=>False
def KV{κ : Type}:List (κ × V)->List (κ × Value)->Prop:=Paired fun(p : κ × V)(q : κ × Value)=>p.1=q.1/\RelV p.2 q.2
def kV:Key->V
 | .inl i=>.int i
 | .inr x=>.str x
inductive HO where
 | lst (xs:List V)
 | tup (xs:List V)
 | dK (kvs:List (Key×V))|dT (kvs:List (List Key×V))
 | set (S:Int->Bool) (n:Nat)
 | ins (C dx:Addr) (fs:List (Str×V))
 | own (x:Addr)
 | xd (fs:List (Str×V))
 | met (f x:Addr)
 | rng (lo hi:Int)
 | frz (o:Obj) (u:HO)
 | tbl (ps:Array Value)
 | ext (φ : Heap->Prop)
abbrev Hp:=Addr->Option HO
def upd(H:Hp)(a:Addr)(o:HO):Hp:=fun b=>if b=a then some o else H b
theorem Za{H:Hp}{a:Addr}{o:HO}:upd H a o a=some o:=by unfold upd;rw[if_pos rfl]
theorem Zh{H:Hp}{a b:Addr}{o:HO}(h:b≠a):upd H a o b=H b:=by unfold upd;rw[if_neg h]
theorem Zk9{H:Hp}{a b:Addr}{o u:HO}(h:H a=some o)(h':H b=some u)(d:o≠u):a≠b:=by
 intro e;subst e;rw[h] at h';exact d (Option.some.inj h')
theorem Zi{H:Hp}{a b:Addr}{o:HO}(h:H a=some o)(h':H b=none):a≠b:=by
 intro e;subst e;rw[h] at h';cases h'
section
variable(P:Program)(w:World)
def Z4(H:Hp)(h:Heap)(a:Addr):HO->Prop
 | .lst xs=>xs.length<=sizeLine/\∃(its:List Value)(n:Nat),Vals xs its/\h.get? a=some { cls:=.type "list",data:=.seq its.toArray n }
 | .tup xs=>xs.length<=sizeLine/\∃its:List Value,Vals xs its/\IsTup h a its.toArray
 | .dK kvs=>kvs.length<=sizeLine/\(a == sysModules)=false/\∃vs,KV kvs vs/\h.DictOf (Zn P w) a vs
 | .dT kvs=>kvs.length<=sizeLine/\(a == sysModules)=false/\∃xs:List (List Key×Addr×Value),
   Paired (fun(p:List Key×V)(q:List Key×Addr×Value)=>p.1=q.1/\H q.2.1=some (.tup (p.1.map kV))/\RelV p.2 q.2.2) kvs xs /\
   ∃o es ep,h.get? a=some o/\o.ExactDict/\o.data=.dict es ep/\es.toList=xs.map (entryOfKey (tupleKind (Zn P w)))/\(xs.map (·.1)).Nodup
 | .set S n=>h.SetOf (intKind P w) a S n
 | .ins C dx fs=>H dx=some (.own a)/\fs.length<=1000/\dx≠a/\h.get? a=some (PySem.W.instObj C dx) /\
   ∃mA,h.Ns1 dx mA/\(∀f,Zfh (fs.lookup f) (mA f))/\PySem.Within mA (fs.map (·.1))
 | .own _=>∃o,h.get? a=some o
 | .xd fs=>∃mA,h.Ns1 a mA/\∀f,Zfh (fs.lookup f) (mA f)
 | .rng lo hi=>∃t u v,h.get? a=some { cls:=.type "range",data:=.fields #[.int lo t,.int hi u,.int 1 v] }
 | .frz o u=>h.get? a=some o/\Z4 H h a u
 | .tbl ps=>h.get? a=some { cls:=.none,data:=.fields ps }
 | .met f x=>h.get? a=some (PySem.W.methodObj (.ref f) (.ref x))
 | .ext φ=>φ h/\(∃o,h.get? a=some o)/\∀h1 h2:Heap,φ h1->(∀o,h1.get? a=some o->h2.get? a=some o) -> φ h2
def HOk(H:Hp)(h:Heap):Prop := ∀a o,H a=some o->Z4 P w H h a o
end
section
variable{P:Program}{w:World}{H H':Hp}{h h':Heap}{a:Addr}{o:HO}
theorem Z4.lt(x:Z4 P w H h a o):a<h.objs.size:=by
 cases o with
 | lst xs=>obtain⟨_,_,_,_,e⟩:=x;exact Heap.lt_size e
 | tup xs=>obtain⟨_,_,_,p⟩:=x;exact p.lt
 | dK kvs=>obtain⟨_,_,_,_,o,_,_,e,_⟩:=x;exact Heap.lt_size e
 | dT kvs=>obtain⟨_,_,_,_,o,_,_,e,_⟩:=x;exact Heap.lt_size e
 | set S n=>obtain⟨o,_,_,_,e,_⟩:=x;exact Heap.lt_size e
 | ins C dx fs=>obtain⟨_,_,_,e,_⟩:=x;exact Heap.lt_size e
 | own y=>obtain⟨_,e⟩:=x;exact Heap.lt_size e
 | xd fs=>obtain⟨_,⟨_,_,_,e,_⟩,_⟩:=x;exact Heap.lt_size e
 | rng lo hi=>obtain⟨_,_,_,e⟩:=x;exact Heap.lt_size e
 | frz ob u=>obtain⟨e,_⟩:=x;exact Heap.lt_size e
 | tbl ps=>exact Heap.lt_size (show h.get? a=some _ from x)
 | met f y=>exact Heap.lt_size (show h.get? a=some _ from x)
 | ext φ=>obtain⟨_,⟨_,e⟩,_⟩:=x;exact Heap.lt_size e
theorem Paired.mapP{α β : Type}{F G : α -> β -> Prop}:∀{l₁ : List α}{l₂ : List β},Paired F l₁ l₂ -> (∀a b,F a b->G a b)->Paired G l₁ l₂
 | _,_,.nil,_=>.nil
 | _,_,.cons r t,f=>.cons (f _ _ r) (Paired.mapP t f)
theorem Z4.stay(x:Z4 P w H h a o)(k:∀b u,(b=a\/H b=some (.own a))->h.get? b=some u->h'.get? b=some u)
  (ho:∀b,H b=some (.own a)->H' b=some (.own a)) (ht:∀b xs,H b=some (.tup xs)->H' b=some (.tup xs)):Z4 P w H' h' a o:=by
 induction o with
 | lst xs=>obtain⟨z,its,n,r,e⟩:=x;exact⟨z,its,n,r,k _ _ (.inl rfl) e⟩
 | tup xs=>obtain⟨z,its,r,ob,e,c⟩:=x;exact⟨z,its,r,ob,k _ _ (.inl rfl) e,c⟩
 | dK kvs=>obtain⟨z,y,vs,r,ob,es,ep,e,c⟩:=x;exact⟨z,y,vs,r,ob,es,ep,k _ _ (.inl rfl) e,c⟩
 | dT kvs =>
  obtain⟨z,y,xs,r,ob,es,ep,e,c⟩:=x;exact⟨z,y,xs,Paired.mapP r fun p q z=>⟨z.1,ht _ _ z.2.1,z.2.2⟩,ob,es,ep,k _ _ (.inl rfl) e,c⟩
 | set S n=>obtain⟨ob,es,ep,t,e,c⟩:=x;exact⟨ob,es,ep,t,k _ _ (.inl rfl) e,c⟩
 | ins C dx fs =>
  obtain⟨d,z,ne,e,mA,⟨od,es,ep,e2,c⟩,r⟩:=x;exact⟨ho _ d,z,ne,k _ _ (.inl rfl) e,mA,⟨od,es,ep,k _ _ (.inr d) e2,c⟩,r⟩
 | own y=>obtain⟨ob,e⟩:=x;exact⟨ob,k _ _ (.inl rfl) e⟩
 | xd fs=>obtain⟨mA,⟨od,es,ep,e,c⟩,r⟩:=x;exact⟨mA,⟨od,es,ep,k _ _ (.inl rfl) e,c⟩,r⟩
 | rng lo hi=>obtain⟨t,u,v,e⟩:=x;exact⟨t,u,v,k _ _ (.inl rfl) e⟩
 | frz ob u ih=>obtain⟨e,q⟩:=x;exact⟨k _ _ (.inl rfl) e,ih q⟩
 | tbl ps =>
  have e:h.get? a=some { cls:=.none,data:=.fields ps }:=x;show h'.get? a=some { cls:=.none,data:=.fields ps };exact k a _ (.inl rfl) e
 | met f y =>
  have e:h.get? a=some (PySem.W.methodObj (.ref f) (.ref y)):=x;show h'.get? a=some (PySem.W.methodObj (.ref f) (.ref y));exact k a _ (.inl rfl) e
 | ext φ=>obtain⟨p,⟨o,e⟩,st⟩:=x;exact⟨st _ _ p fun o q=>k _ _ (.inl rfl) q,⟨o,k _ _ (.inl rfl) e⟩,st⟩
theorem HOk.lt(x:HOk P w H h)(e:H a=some o):a<h.objs.size:=(x a o e).lt
theorem HOk.fresh(x:HOk P w H h)(e:h.objs.size<=a):H a=none:=by
 cases q:H a with
 | none=>rfl
 | some u=>exact absurd (Nat.lt_of_lt_of_le (x.lt q) e) (Nat.lt_irrefl _)
theorem HOk.kept(x:HOk P w H h)(k:∀b u,h.get? b=some u->h'.get? b=some u):HOk P w H h':=fun a o e =>
 (x a o e).stay (fun b u _ q=>k b u q) (fun _ q=>q) fun _ _ q=>q
theorem HOk.laid(x:HOk P w H h)(k:∀b u,h.get? b=some u->h'.get? b=some u)(hp:h.objs.size<=a)(new:Z4 P w (upd H a o) h' a o):HOk P w (upd H a o) h':=fun b u e=>by
 have hn:=x.fresh hp;by_cases hb:b=a
 ·subst hb;rw[Za] at e;cases e;exact new
 ·rw[Zh hb] at e;exact(x b u e).stay (fun c v _ q=>k c v q) (fun c q=>by rw[Zh (Zi q hn)];exact q) fun c xs q=>by rw[Zh (Zi q hn)];exact q
end
def Rd(H:Hp)(a:Addr)(u:HO):Prop:=H a=some u\/∃o,H a=some (.frz o u)
theorem Rd.ok{P:Program}{w:World}{H:Hp}{h:Heap}{a:Addr}{u:HO}(r:Rd H a u)(x:HOk P w H h):Z4 P w H h a u:=by
 rcases r with r|⟨o,r⟩
 ·exact x a u r
 ·obtain⟨_,q⟩:=x a _ r;exact q
def Mut:Option HO->Prop
 | some (.lst _)=>True
 | some (.dK _)=>True
 | some (.dT _)=>True
 | some (.set _ _)=>True
 | some (.ins _ _ _)=>True
 | some (.ext _)=>True
 | _=>False
section
variable{P:Program}{w:World}{H:Hp}{h h':Heap}{x e:Addr}{o':HO}
theorem HOk.write(ok:HOk P w H h)(mu:Mut (H x))(he:e=x\/H e=some (.own x))(k:∀b u,b≠e->h.get? b=some u->h'.get? b=some u)(heo:∃u,h'.get? e=some u)
  (new:Z4 P w (upd H x o') h' x o'):HOk P w (upd H x o') h':=fun b u q=>by
 have nown:∀c y,H c=some (.own y)->c≠x:=fun c y r z=>by subst z;rw[r] at mu;exact mu
 have ntup:∀c xs,H c=some (.tup xs)->c≠x:=fun c xs r z=>by subst z;rw[r] at mu;exact mu
 by_cases hb:b=x
 ·subst hb;rw[Za] at q;cases q;exact new
 ·rw[Zh hb] at q;by_cases hbe:b=e
  ·have q':H b=some (.own x):=by
    rcases he with z|z
    ·exact absurd (hbe.trans z) hb
    ·rw[hbe];exact z
   rw[q] at q';cases q';obtain⟨v,hv⟩:=heo;exact⟨v,by rw[hbe];exact hv⟩
  ·refine(ok b u q).stay (fun c v hc r=>k c v ?_ r) (fun c r=>by rw[Zh (nown c b r)];exact r) fun c xs r=>by rw[Zh (ntup c xs r)];exact r
   rcases hc with rfl|hc
   ·exact hbe
   ·rintro rfl;rcases he with z|z
    ·exact nown c b hc z
    ·rw[hc] at z;cases z;exact hb rfl
end
structure Un(fs ex:List Addr)(H H':Hp)(h h':Heap):Prop where
 keep:∀b o,h.get? b=some o->H b=none->b∉fs->b∉ex->h'.get? b=some o
 slot:∀b o,h.get? b=some o->H b=none->b∈fs->b∉ex->∃sl,h'.get? b=some { o with slots:=sl }
 free:∀b o,h.get? b=some o->H b=none->b∉ex->H' b=none
 there:∀b o,h.get? b=some o->b∉ex->∃o',h'.get? b=some o'
 tups:∀b xs,H b=some (.tup xs)->H' b=some (.tup xs)
 frzs:∀b o u,H b=some (.frz o u)->H' b=some (.frz o u)
 tbls:∀b ps,H b=some (.tbl ps)->∃more,H' b=some (.tbl (ps++more))
section
variable{fs fs' ex ex':List Addr}{H H1 H2:Hp}{h h1 h2 h':Heap}{a x e:Addr}{o:HO}
theorem Un.any(u:Un fs ex H H1 h h1){b:Addr}{ob:Obj}(q:h.get? b=some ob)(n:H b=none)(hx:b∉ex):∃sl,h1.get? b=some { ob with slots:=sl }:=by
 by_cases hb:b∈fs
 ·exact u.slot b ob q n hb hx
 ·exact⟨ob.slots,u.keep b ob q n hb hx⟩
theorem Un.kept(k:∀b u,h.get? b=some u->h'.get? b=some u):Un fs ex H H h h' :=
 ⟨fun b ob q _ _ _=>k b ob q,fun b ob q _ _ _=>⟨ob.slots,k b ob q⟩,fun _ _ _ n _=>n,fun b ob q _=>⟨ob,k b ob q⟩,fun _ _ q=>q,fun _ _ _ q=>q,fun _ ps q=>⟨#[],by rw[q];simp⟩⟩
theorem Un.refl:Un fs ex H H h h:=Un.kept fun _ _ q=>q
theorem Un.laid(k:∀b u,h.get? b=some u->h'.get? b=some u)(hp:h.objs.size<=a)(hn:H a=none):Un fs ex H (upd H a o) h h' where
 keep:=fun b u q _ _ _=>k b u q
 slot:=fun b u q _ _ _=>⟨u.slots,k b u q⟩
 free:=fun b u q n _=>by rw[Zh (Nat.ne_of_lt (Nat.lt_of_lt_of_le (Heap.lt_size q) hp))];exact n
 there:=fun b u q _=>⟨u,k b u q⟩
 tups:=fun b xs q=>by rw[Zh (Zi q hn)];exact q
 frzs:=fun b u xs q=>by rw[Zh (Zi q hn)];exact q
 tbls:=fun b ps q=>⟨#[],by rw[Zh (Zi q hn),q];simp⟩
theorem Un.write(mu:Mut (H x))(he:e=x\/H e=some (.own x))(k:∀b u,b≠e->h.get? b=some u->h'.get? b=some u)(heo:∃u,h'.get? e=some u):Un fs ex H (upd H x o) h h':=by
 have hx:∀b,H b=none->b≠x:=fun b n z=>by subst z;rw[n] at mu;exact mu
 have hb:∀b,H b=none->b≠e:=fun b n z=>by
  subst z;rcases he with r|r
  ·exact hx b n r
  ·rw[n] at r;cases r
 have hm:∀b u,H b=some u -> ¬ Mut (some u)->b≠x:=fun b u q nm z=>by subst z;rw[q] at mu;exact nm mu
 refine⟨fun b u q n _ _=>k b u (hb b n) q,fun b u q n _ _=>⟨u.slots,k b u (hb b n) q⟩,fun b u q n _=>by rw[Zh (hx b n)];exact n,fun b u q _=>?_,
  fun b xs q=>by rw[Zh (hm b _ q fun z=>z)];exact q,fun b u xs q=>by rw[Zh (hm b _ q fun z=>z)];exact q,fun b ps q=>⟨#[],by rw[Zh (hm b _ q fun z=>z),q];simp⟩⟩
 by_cases hbe:b=e
 ·subst hbe;exact heo
 ·exact⟨u,k b u hbe q⟩
end
def trk(h:Heap)(H:Hp):List Addr:=(List.range h.objs.size).filter fun a=>(H a).isSome
def ZiR(h:Heap)(H:Hp):Heap:=PySem.W.hideAll h (trk h H)
theorem Zig(h:Heap)(H:Hp):(ZiR h H).objs.size=h.objs.size:=PySem.W.hideAll_size _ _
theorem Zja{h:Heap}{H:Hp}{b:Addr}{o:Obj}(e:h.get? b=some o)(n:H b=none):(ZiR h H).get? b=some o :=
 PySem.W.hideAll_get _ e fun hm=>by
  have q:(H b).isSome=true:=(List.mem_filter.mp hm).2;rw[n] at q;simp at q
theorem ZjG{h:Heap}{H:Hp}{b:Addr}{o:Obj}(e:(ZiR h H).get? b=some o):h.get? b=some o/\H b=none:=by
 have e':h.get? b=some o:=PySem.W.of_hideAll (trk h H) e;refine⟨e',?_⟩;cases q:H b with
 | none=>rfl
 | some x =>
  have hm:b∈trk h H:=List.mem_filter.mpr ⟨List.mem_range.mpr (Heap.lt_size e'),by simp[q]⟩;have z:(ZiR h H).get? b=none:=PySem.W.hideAll_none (trk h H) hm;rw[z] at e;cases e
structure Mod(K:PySem.W.Frag)(mg:Str->Option Value)(base:Heap):Prop where
 kin:K.In base
 glob:base.Ns mainGlobals mg
 blt:∃mb,base.Ns builtinsNs mb/\∀x:Str,x ≠ "__name__" -> mb x=bootBuiltins x
 nolimit:base.NoLimit
/-- the context: a def's body (or a comprehension's block) running. base: fixed through the whole law;s₀,H₀: the entry;outer: the frames whose slots others may change (a def's callers);stack: all frames that run;
   ex: iterators that were made ahead of the entry and are walked here (a comprehension's);fn: the names whose cells were made at the entry (a def: all;a comprehension's block: its own);calm: not within an except suite;pn: pins that every state bears;xe: what is wanted of an exception that leaves the code -/
structure Cx where
 prog:Program
 w:World
 K:PySem.W.Frag
 mg:Str->Option Value
 base:Heap
 A:Around
 N:List Str
 s₀ : Shared
 H₀ : Hp
 env:Env
 outer:List Env
 stack:List Env
 ex:List Addr
 fn:Str->Bool
 calm:Bool
 pn:List (Addr×Obj)
 xe:Value->Shared->Prop
def frs(l:List Env):List Addr:=l.filterMap (·.frame)
abbrev Cx.fs(X:Cx):List Addr:=frs X.outer
def Vis(sc:Scope)(x:Str):Prop:=sc.names.lookup x=some .local\/sc.names.lookup x=some .cell\/sc.names.lookup x=some .free
def Loc(sc:Scope)(x:Str):Prop:=sc.names.lookup x=some .local\/sc.names.lookup x=some .cell
def Look(env:Env)(h:Heap)(m:Str->Option Value)(x:Str)(u:Value):Prop :=
 (env.kindOf x=some .local/\m x=some u)\/((env.kindOf x=some .cell\/env.kindOf x=some .free)/\∃c,env.cells.lookup x=some c/\h.IsCell c (some u))
structure Cx.Ok(X:Cx):Prop where
 mod:Mod X.K X.mg X.base
 kind:X.env.scope.kind=.function
 glob:X.env.globals=mainGlobals
 blt:X.env.builtins=builtinsNs
 above:X.s₀.heap.objs.size<=X.env.locals
 inj:∀x y c,X.env.cells.lookup x=some c->X.env.cells.lookup y=some c->x=y
 has:∀x,(X.env.kindOf x=some .cell\/X.env.kindOf x=some .free)->∃c,X.env.cells.lookup x=some c
 cab:∀x c,X.fn x=true->X.env.cells.lookup x=some c->X.s₀.heap.objs.size<=c
 hd:X.calm=true->X.A.handled=none
 frames:X.A.frames=some X.stack
 stk:X.stack=X.outer\/(X.stack=X.env::X.outer/\X.env.frame=some X.env.locals)
 exf:∀b∈X.ex,b≠X.env.locals/\∀x c,X.env.cells.lookup x=some c->c≠b
 bs:∀b o,X.base.get? b=some o->X.s₀.heap.get? b=some o/\X.H₀ b=none
 bsz:X.base.objs.size<=X.s₀.heap.objs.size
 noex:∀b o,X.base.get? b=some o->b∉X.ex
 exfs:∀b∈X.ex,b∉X.fs
 funs:X.s₀.heap.FunFrames X.base X.outer
 frf:∀b∈X.fs,X.H₀ b=none
structure Inv(X:Cx)(pins:List (Addr×Obj))(σ : List (Option V))(H:Hp)(s:Shared):Prop where
 ok:X.Ok
 os:s.os=X.s₀.os
 bare:AllBare s.gens
 base:Un X.fs X.ex X.H₀ H X.s₀.heap s.heap
 loc:∃m,s.heap.Ns X.env.locals m/\∀(i:Nat)(x:Str)(v:V),X.N[i]?= some x -> σ[i]?= some (some v)->Vis X.env.scope x->∃u,RelV v u/\Look X.env s.heap m x u
 cell:∀x c,X.env.cells.lookup x=some c->∃v,s.heap.IsCell c v
 free:H X.env.locals=none
 freeC:∀x c,X.env.cells.lookup x=some c->H c=none
 pin:∀p∈X.pn++pins,s.heap.get? p.1=some p.2/\H p.1=none/\p.1≠X.env.locals/\p.1∉X.fs/\∀v,p.2.data ≠ .cell v
 hok:HOk X.prog X.w H s.heap
 len : σ.length=X.N.length
section
variable{X:Cx}{pins:List (Addr×Obj)}{σ : List (Option V)}{H H':Hp}{s:Shared}{h':Heap}
theorem Cx.Ok.nofr(ok:X.Ok){b:Addr}{o:Obj}(e:X.base.get? b=some o):b∉X.fs:=fun hb=>by
 have:=(ok.funs.mem hb).1;rw[e] at this;cases this
theorem Inv.bs(I:Inv X pins σ H s):∀b o,X.base.get? b=some o->s.heap.get? b=some o/\H b=none:=fun b o e =>
 ⟨I.base.keep b o (I.ok.bs b o e).1 (I.ok.bs b o e).2 (I.ok.nofr e) (I.ok.noex b o e),I.base.free b o (I.ok.bs b o e).1 (I.ok.bs b o e).2 (I.ok.noex b o e)⟩
theorem Inv.bk(I:Inv X pins σ H s):∀b o,X.base.get? b=some o->s.heap.get? b=some o:=fun b o e=>(I.bs b o e).1
theorem Inv.mod(I:Inv X pins σ H s):Mod X.K X.mg X.base:=I.ok.mod
theorem Inv.kIn(I:Inv X pins σ H s):X.K.In s.heap:=I.ok.mod.kin.keeps I.bk
theorem Inv.lt(I:Inv X pins σ H s):X.env.locals<s.heap.objs.size:=let ⟨_,hn,_⟩:=I.loc;hn.lt
theorem Inv.sz(I:Inv X pins σ H s):X.s₀.heap.objs.size<=s.heap.objs.size:=Nat.le_trans I.ok.above (Nat.le_of_lt I.lt)
theorem Inv.nofs(I:Inv X pins σ H s){a:Addr}(h:s.heap.objs.size<=a):a∉X.fs:=fun hb=>by
 obtain⟨_,o,ho,_⟩:=I.ok.funs.mem hb;exact absurd (Nat.lt_of_lt_of_le (Heap.lt_size ho) (Nat.le_trans I.sz h)) (Nat.lt_irrefl _)
theorem Inv.cne(I:Inv X pins σ H s):∀x c,X.env.cells.lookup x=some c->c≠X.env.locals:=fun x c e z=>by
 obtain⟨v,o,ho,hd⟩:=I.cell x c e;obtain⟨m,⟨o',es,ep,ho',hd',_⟩,_⟩:=I.loc;rw[z,ho'] at ho;cases ho;rw[hd'] at hd;cases hd
theorem Inv.funs(I:Inv X pins σ H s):s.heap.FunFrames X.base X.outer:=by
 have all:∀(l:List Env),(∀b∈frs l,b∈X.fs)->X.s₀.heap.FunFrames X.base l->s.heap.FunFrames X.base l:=by
  intro l
  induction l with
  | nil=>intro _ _;trivial
  | cons env r ih =>
   intro hs hl;obtain⟨hk,⟨L,o,hf,hn,ho,hd⟩,hr⟩:=hl;have hL:L∈X.fs:=hs L (by unfold frs;rw[List.filterMap_cons,hf];exact List.mem_cons_self);obtain⟨sl,e⟩:=I.base.slot L o ho (I.ok.frf L hL) hL fun z=>I.ok.exfs L z hL;exact⟨hk,⟨L,_,hf,hn,e,hd⟩,ih (fun b hb=>hs b (by unfold frs;rw[List.filterMap_cons,hf];exact List.mem_cons_of_mem _ hb)) hr⟩
 exact all X.outer (fun _ hb=>hb) I.ok.funs
theorem Inv.stack(I:Inv X pins σ H s):s.heap.FunFrames X.base X.stack:=by
 rcases I.ok.stk with e|⟨e,hf⟩
 ·rw[e];exact I.funs
 ·rw[e];obtain⟨m,hn,_⟩:=I.loc;refine .cons (by rw[I.ok.kind];decide) hf hn ?_ I.funs;exact Heap.get?_none_of_le (Nat.le_trans I.ok.bsz I.ok.above)
theorem Inv.stkSub(I:Inv X pins σ H s):∀b∈frs X.stack,b∈X.env.locals::X.fs:=fun b hb=>by
 rcases I.ok.stk with e|⟨e,hf⟩
 ·rw[e] at hb;exact List.mem_cons_of_mem _ hb
 ·rw[e] at hb;unfold frs at hb;rw[List.filterMap_cons,hf] at hb;exact hb
theorem Inv.stkFree(I:Inv X pins σ H s):∀b∈frs X.stack,H b=none:=fun b hb=>by
 rcases List.mem_cons.mp (I.stkSub b hb) with e|hb
 ·rw[e];exact I.free
 ·obtain⟨_,o,ho,_⟩:=I.ok.funs.mem hb;exact I.base.free b o ho (I.ok.frf b hb) fun z=>I.ok.exfs b z hb
theorem Inv.step{g':Array GenState}{t':Nat}{d':Drawn}{ch:List Addr}(I:Inv X pins σ H s)
  (hch:∀b∈ch,(b∈X.ex\/X.s₀.heap.objs.size<=b)/\b≠X.env.locals/\(∀x c,X.env.cells.lookup x=some c->c≠b)/\∀p∈X.pn++pins,p.1≠b)
  (keep:∀b o,b≠X.env.locals->b∉X.fs->b∉ch->s.heap.get? b=some o->H b=none->h'.get? b=some o)
  (slot:∀b o,b≠X.env.locals->b∈X.fs->b∉ch->s.heap.get? b=some o->H b=none->∃sl,h'.get? b=some { o with slots:=sl }) (free:∀b o,b∉ch->s.heap.get? b=some o->H b=none->H' b=none)
  (there:∀b o,b∉ch->s.heap.get? b=some o->∃o',h'.get? b=some o')
  (tups:∀b xs,H b=some (.tup xs)->H' b=some (.tup xs)) (frzs:∀b o u,H b=some (.frz o u)->H' b=some (.frz o u)) (tbls:∀b ps,H b=some (.tbl ps)->∃more,H' b=some (.tbl (ps++more)))
  (ns:∀m,s.heap.Ns X.env.locals m->h'.Ns X.env.locals m) (hok:HOk X.prog X.w H' h') (hg:AllBare g') :
  Inv X pins σ H' { s with heap:=h',gens:=g',drawn:=d',toks:=t' }:=by
 have neL:∀b o,X.s₀.heap.get? b=some o->b≠X.env.locals:=fun b o e=>Nat.ne_of_lt (Nat.lt_of_lt_of_le (Heap.lt_size e) I.ok.above);have neC:∀b o,X.s₀.heap.get? b=some o->b∉X.ex->b∉ch:=fun b o e hx hb=>by
  rcases(hch b hb).1 with z|z
  ·exact hx z
  ·exact absurd (Nat.lt_of_lt_of_le (Heap.lt_size e) z) (Nat.lt_irrefl _)
 have cellK:∀x c,X.env.cells.lookup x=some c->∀v,s.heap.IsCell c v->h'.IsCell c v:=fun x c e v ⟨o,ho,hd⟩=>by
  have nch:c∉ch:=fun z=>(hch c z).2.2.1 x c e rfl;by_cases hc:c∈X.fs
  ·obtain⟨sl,q⟩:=slot c o (I.cne x c e) hc nch ho (I.freeC x c e);exact⟨_,q,hd⟩
  ·exact⟨o,keep c o (I.cne x c e) hc nch ho (I.freeC x c e),hd⟩
 refine⟨I.ok,I.os,hg,⟨fun b o e n hb hx=>?_,fun b o e n hb hx=>?_,fun b o e n hx=>?_,fun b o e hx=>?_,fun b xs e=>tups b xs (I.base.tups b xs e),fun b o xs e=>frzs b o xs (I.base.frzs b o xs e),fun b ps e=>?_⟩,?_,fun x c e=>?_,?_,fun x c e=>?_,fun p hp=>?_,hok,I.len⟩
 ·exact keep b o (neL b o e) hb (neC b o e hx) (I.base.keep b o e n hb hx) (I.base.free b o e n hx)
 ·obtain⟨sl,e1⟩:=I.base.slot b o e n hb hx;obtain⟨sl',e2⟩:=slot b _ (neL b o e) hb (neC b o e hx) e1 (I.base.free b o e n hx);exact⟨sl',e2⟩
 ·obtain⟨o',e1⟩:=I.base.there b o e hx;exact free b o' (neC b o e hx) e1 (I.base.free b o e n hx)
 ·obtain⟨o',e1⟩:=I.base.there b o e hx;exact there b o' (neC b o e hx) e1
 ·obtain⟨m1,e1⟩:=I.base.tbls b ps e;obtain⟨m2,e2⟩:=tbls b _ e1;exact⟨m1++m2,by rw[e2,Array.append_assoc]⟩
 ·obtain⟨m,hn,hl⟩:=I.loc;refine⟨m,ns m hn,fun i x v e1 e2 e3=>?_⟩;obtain⟨u,r,l⟩:=hl i x v e1 e2 e3;refine⟨u,r,?_⟩;rcases l with l|⟨k,c,e,z⟩
  ·exact .inl l
  ·exact .inr ⟨k,c,e,cellK x c e _ z⟩
 ·obtain⟨v,z⟩:=I.cell x c e;exact⟨v,cellK x c e v z⟩
 ·obtain⟨m,⟨o,_,_,ho,_⟩,_⟩:=I.loc;exact free _ o (fun z=>(hch _ z).2.1 rfl) ho I.free
 ·obtain⟨v,o,ho,hd⟩:=I.cell x c e;exact free c o (fun z=>(hch c z).2.2.1 x c e rfl) ho (I.freeC x c e)
 ·obtain⟨e,n,ne,nf,d⟩:=I.pin p hp;have nch:p.1∉ch:=fun z=>(hch p.1 z).2.2.2 p hp rfl;exact⟨keep p.1 p.2 ne nf nch e n,free p.1 p.2 nch e n,ne,nf,d⟩
theorem Inv.un{t':Nat}(I:Inv X pins σ H s)(u:Un X.fs [] H H' s.heap h')(hok:HOk X.prog X.w H' h'):Inv X pins σ H' { s with heap:=h',toks:=t' }:=by
 obtain⟨m,⟨o,es,ep,ho,r⟩,_⟩:=id I.loc;obtain⟨sl,hL⟩:=u.any ho I.free (by simp);exact I.step (g':=s.gens) (d':=s.drawn) (ch:=[]) (fun _ z=>nomatch z) (fun b o _ hb _ e n=>u.keep b o e n hb (by simp)) (fun b o _ hb _ e n=>u.slot b o e n hb (by simp)) (fun b o _ e n=>u.free b o e n (by simp)) (fun b o _ e=>u.there b o e (by simp)) u.tups u.frzs u.tbls (fun m' hm=>by
  obtain⟨o',es',ep',ho',r'⟩:=hm;rw[ho] at ho';cases ho';exact⟨_,es',ep',hL,r'⟩) hok I.bare
theorem Inv.call{g':Array GenState}{t':Nat}{d':Drawn}{ch:List Addr}(I:Inv X pins σ H s)(u:Un (frs X.stack) ch H H' s.heap h')(hok:HOk X.prog X.w H' h')(hg:AllBare g')
  (hch:∀b∈ch,(b∈X.ex\/X.s₀.heap.objs.size<=b)/\b≠X.env.locals/\(∀x c,X.env.cells.lookup x=some c->c≠b)/\∀p∈X.pn++pins,p.1≠b) :
  Inv X pins σ H' { s with heap:=h',gens:=g',drawn:=d',toks:=t' }:=by
 obtain⟨m,⟨o,es,ep,ho,r⟩,_⟩:=id I.loc;obtain⟨sl,hL⟩:=u.any ho I.free fun z=>(hch _ z).2.1 rfl;exact I.step (ch:=ch) hch (fun b o hL hb hc e n=>u.keep b o e n (fun z=>(List.mem_cons.mp (I.stkSub b z)).elim hL hb) hc) (fun b o _ _ hc e n=>u.any e n hc) (fun b o hc e n=>u.free b o e n hc) (fun b o hc e=>u.there b o e hc) u.tups u.frzs u.tbls (fun m' hm=>by
  obtain⟨o',es',ep',ho',r'⟩:=hm;rw[ho] at ho';cases ho';exact⟨_,es',ep',hL,r'⟩) hok hg
theorem Inv.turned{t':Nat}{it:Addr}(I:Inv X pins σ H s)(k:∀b o,b≠it->s.heap.get? b=some o->h'.get? b=some o)(hn:H it=none)(hL:it≠X.env.locals)
  (h1:it∈X.ex\/X.s₀.heap.objs.size<=it) (h2:∀x c,X.env.cells.lookup x=some c->c≠it) (h3:∀p∈X.pn++pins,p.1≠it):Inv X pins σ H { s with heap:=h',toks:=t' }:=by
 have nit:∀b u,H b=some u->b≠it:=fun b u e z=>by rw[z,hn] at e;cases e
 refine I.step (g':=s.gens) (d':=s.drawn) (ch:=[it]) (fun b hb=>?_) (fun b o _ _ hc e _=>k b o (fun z=>hc (by simp[z])) e) (fun b o _ _ hc e _=>⟨o.slots,k b o (fun z=>hc (by simp[z])) e⟩) (fun _ _ _ _ n=>n)
  (fun b o hc e=>⟨o,k b o (fun z=>hc (by simp[z])) e⟩) (fun _ _ e=>e) (fun _ _ _ e=>e) (fun b ps e=>⟨#[],by rw[e];simp⟩) (fun m hm=>?_) (fun b u e=>?_) I.bare
 ·have e:b=it:=by simpa using hb
  subst e;exact⟨h1,hL,h2,h3⟩
 ·obtain⟨o,es,ep,ho,r⟩:=hm;exact⟨o,es,ep,k _ o (Ne.symm hL) ho,r⟩
 ·refine(I.hok b u e).stay (fun c v hc q=>k c v ?_ q) (fun _ q=>q) fun _ _ q=>q;rcases hc with z|z
  ·rw[z];exact nit b u e
  ·exact nit c _ z
theorem Inv.tok(I:Inv X pins σ H s)(t:Nat):Inv X pins σ H { s with toks:=t }:=I.un (h':=s.heap) (t':=t) Un.refl I.hok
theorem Inv.kept{t':Nat}(I:Inv X pins σ H s)(k:∀b u,s.heap.get? b=some u->h'.get? b=some u):Inv X pins σ H { s with heap:=h',toks:=t' }:=I.un (Un.kept k) (I.hok.kept k)
theorem Inv.laid{a:Addr}{o:HO}{t':Nat}(I:Inv X pins σ H s)(k:∀b u,s.heap.get? b=some u->h'.get? b=some u)(hp:s.heap.objs.size<=a)(new:Z4 X.prog X.w (upd H a o) h' a o) :
  Inv X pins σ (upd H a o) { s with heap:=h',toks:=t' }:=I.un (Un.laid k hp (I.hok.fresh hp)) (I.hok.laid k hp new)
theorem Inv.write{x e:Addr}{o:HO}{t':Nat}(I:Inv X pins σ H s)(mu:Mut (H x))(he:e=x\/H e=some (.own x))(k:∀b u,b≠e->s.heap.get? b=some u->h'.get? b=some u)(heo:∃u,h'.get? e=some u)
  (new:Z4 X.prog X.w (upd H x o) h' x o):Inv X pins σ (upd H x o) { s with heap:=h',toks:=t' }:=I.un (Un.write mu he k heo) (I.hok.write mu he k heo new)
theorem Inv.pins_of{pins':List (Addr×Obj)}(I:Inv X pins σ H s)(h:∀p∈pins',s.heap.get? p.1=some p.2/\H p.1=none/\p.1≠X.env.locals/\p.1∉X.fs/\∀v,p.2.data ≠ .cell v):Inv X pins' σ H s :=
 ⟨I.ok,I.os,I.bare,I.base,I.loc,I.cell,I.free,I.freeC,fun p hp=>(List.mem_append.mp hp).elim (fun z=>I.pin p (List.mem_append_left _ z)) (h p),I.hok,I.len⟩
theorem ZfX{N:List Str}(hN:N.Nodup){i j:Nat}{x:Str}(a:N[i]?= some x)(b:N[j]?= some x):i=j:=by
 obtain⟨h1,e1⟩:=List.getElem?_eq_some_iff.mp a;obtain⟨h2,e2⟩:=List.getElem?_eq_some_iff.mp b;exact(List.getElem_inj hN).mp (e1.trans e2.symm)
theorem Ze3{M:Model}{A:Around}{E:Value->Shared->Prop}{i:Nat}{x:Str}{v:V}{u:Value}{Q:Unit->Shared->Prop}(I:Inv X pins σ H s)(hN:X.N.Nodup)(hi:X.N[i]?= some x)(hx:Loc X.env.scope x)(r:RelV v u)
  (h:∀s',Inv X pins (σ.set i (some v)) H s'->(∃a,Heap.SameBut a s.heap s'.heap/\(a=X.env.locals\/X.env.cells.lookup x=some a))->Q () s') (hf:X.fn x=true\/X.env.scope.names.lookup x=some .local:=by first|exact .inl rfl|exact .inr rfl|assumption):wpAny M A (storeName X.env x u) Q E s:=by
 obtain⟨m,hn,hl⟩:=id I.loc;have hcls:(X.env.scope.kind ==.class || (X.env.scope.kind ==.module&&X.env.locals != X.env.globals))=false:=by rw[I.ok.kind];rfl
 have hiσ : i < σ.length:=by rw[I.len];exact(List.getElem?_eq_some_iff.mp hi).1
 have cne:=I.cne;have tracked:∀{a:Addr}{h':Heap},(∃o,s.heap.get? a=some o/\H a=none)->Heap.SameBut a s.heap h'->HOk X.prog X.w H h':=fun{a h'} ha hs b ob e=>by
  obtain⟨_,_,hfree⟩:=ha;refine(I.hok b ob e).stay (fun c w' hc q=>(hs.2 c ?_).trans q) (fun _ q=>q) fun _ _ q=>q;rintro rfl;rcases hc with rfl|hc
  ·rw[hfree] at e;cases e
  ·rw[hfree] at hc;cases hc
 rcases hx with hk|hk
 ·refine wpAny_storeName_local hk hn (fun h' hn' hs=>?_) hcls;obtain⟨oL,_,_,hoL,_⟩:=id hn;refine h _ ⟨I.ok,I.os,I.bare,⟨fun b o e n hb hx=>?_,fun b o e n hb hx=>?_,I.base.free,fun b o e hx=>?_,I.base.tups,I.base.frzs,I.base.tbls⟩,⟨_,hn',fun j y v' e1 e2 e3=>?_⟩,fun y c e=>?_,I.free,I.freeC,fun p hp=>?_,tracked ⟨oL,hoL,I.free⟩ hs,by simpa using I.len⟩ ⟨_,hs,.inl rfl⟩
  ·exact(hs.2 b (Nat.ne_of_lt (Nat.lt_of_lt_of_le (Heap.lt_size e) I.ok.above))).trans (I.base.keep b o e n hb hx)
  ·obtain⟨sl,e1⟩:=I.base.slot b o e n hb hx;exact⟨sl,(hs.2 b (Nat.ne_of_lt (Nat.lt_of_lt_of_le (Heap.lt_size e) I.ok.above))).trans e1⟩
  ·obtain⟨o',e1⟩:=I.base.there b o e hx;exact⟨o',(hs.2 b (Nat.ne_of_lt (Nat.lt_of_lt_of_le (Heap.lt_size e) I.ok.above))).trans e1⟩
  ·by_cases hj:j=i
   ·subst hj;rw[hi] at e1;cases e1;rw[List.getElem?_set_self hiσ] at e2;cases e2;exact⟨u,r,.inl ⟨hk,by simp⟩⟩
   ·rw[List.getElem?_set_ne (Ne.symm hj)] at e2;obtain⟨u',r',q⟩:=hl j y v' e1 e2 e3;refine⟨u',r',?_⟩;rcases q with⟨k,e⟩|⟨k,c,e,z⟩
    ·refine .inl ⟨k,?_⟩;have:y≠x:=fun e=>hj (ZfX hN e1 (e ▸ hi));simp[this,e]
    ·exact .inr ⟨k,c,e,z.sameBut hs (cne y c e)⟩
  ·obtain⟨w',z⟩:=I.cell y c e;exact⟨w',z.sameBut hs (cne y c e)⟩
  ·obtain⟨e,n,ne,nf,d⟩:=I.pin p hp;exact⟨(hs.2 p.1 ne).trans e,n,ne,nf,d⟩
 ·have hfn:X.fn x=true:=by
   rcases hf with z|z
   ·exact z
   ·rw[z] at hk;cases hk
  obtain⟨c,hc⟩:=I.ok.has x (.inl hk);obtain⟨w',z⟩:=I.cell x c hc;refine wpAny_storeName_cell I.ok.kind hk hc z (fun h' hc' hs=>?_);obtain⟨oc,hoc,hocd⟩:=id z;refine h { s with heap:=h' } ⟨I.ok,I.os,I.bare,⟨fun b o e n hb hx=>?_,fun b o e n hb hx=>?_,I.base.free,fun b o e hx=>?_,I.base.tups,I.base.frzs,I.base.tbls⟩,⟨m,hn.sameBut hs (Ne.symm (cne x c hc)),fun j y v' e1 e2 e3=>?_⟩,fun y c' e=>?_,I.free,I.freeC,fun p hp=>?_,tracked ⟨oc,hoc,I.freeC x c hc⟩ hs,by simpa using I.len⟩ ⟨c,hs,.inr hc⟩
  ·exact(hs.2 b (Nat.ne_of_lt (Nat.lt_of_lt_of_le (Heap.lt_size e) (I.ok.cab x c hfn hc)))).trans (I.base.keep b o e n hb hx)
  ·obtain⟨sl,e1⟩:=I.base.slot b o e n hb hx;exact⟨sl,(hs.2 b (Nat.ne_of_lt (Nat.lt_of_lt_of_le (Heap.lt_size e) (I.ok.cab x c hfn hc)))).trans e1⟩
  ·obtain⟨o',e1⟩:=I.base.there b o e hx;exact⟨o',(hs.2 b (Nat.ne_of_lt (Nat.lt_of_lt_of_le (Heap.lt_size e) (I.ok.cab x c hfn hc)))).trans e1⟩
  ·by_cases hj:j=i
   ·subst hj;rw[hi] at e1;cases e1;rw[List.getElem?_set_self hiσ] at e2;cases e2;exact⟨u,r,.inr ⟨.inl hk,c,hc,hc'⟩⟩
   ·rw[List.getElem?_set_ne (Ne.symm hj)] at e2;obtain⟨u',r',q⟩:=hl j y v' e1 e2 e3;refine⟨u',r',?_⟩;rcases q with q|⟨k,c',e,z'⟩
    ·exact .inl q
    ·refine .inr ⟨k,c',e,z'.sameBut hs ?_⟩;rintro rfl;exact hj (ZfX hN e1 (I.ok.inj _ _ _ e hc ▸ hi))
  ·by_cases hcc:c'=c
   ·subst hcc;exact⟨_,hc'⟩
   ·obtain⟨w2,z2⟩:=I.cell y c' e;exact⟨w2,z2.sameBut hs hcc⟩
  ·obtain⟨e,n,ne,nf,d⟩:=I.pin p hp;refine⟨(hs.2 p.1 ?_).trans e,n,ne,nf,d⟩;intro q;rw[q,hoc] at e;have q':oc=p.2:=Option.some.inj e;exact d w' (by rw[<- q'];exact hocd)
theorem Zgs{M:Model}{A:Around}{E:Value->Shared->Prop}{i:Nat}{x:Str}{v:V}{u:Value}{Q:Unit->Shared->Prop}(I:Inv X pins σ H s)(hN:X.N.Nodup)(hi:X.N[i]?= some x)(hx:Loc X.env.scope x)(r:RelV v u)
  (h:∀s',Inv X pins (σ.set i (some v)) H s'->Q () s') (hf:X.fn x=true\/X.env.scope.names.lookup x=some .local:=by first|exact .inl rfl|exact .inr rfl|assumption):wpAny M A (storeName X.env x u) Q E s :=
 Ze3 I hN hi hx r (fun s' I' _=>h s' I') hf
theorem Inv.call'{s':Shared}{ch:List Addr}(I:Inv X pins σ H s)(ho:s'.os=s.os)(u:Un (frs X.stack) ch H H' s.heap s'.heap)(hok:HOk X.prog X.w H' s'.heap)(hg:AllBare s'.gens)
  (hch:∀b∈ch,(b∈X.ex\/X.s₀.heap.objs.size<=b)/\b≠X.env.locals/\(∀x c,X.env.cells.lookup x=some c->c≠b)/\∀p∈X.pn++pins,p.1≠b):Inv X pins σ H' s':=by
 obtain⟨h',g',d',t',o'⟩:=s';have e:o'=s.os:=ho;subst e;exact I.call (g':=g') (t':=t') (d':=d') u hok hg hch
end
abbrev XK:=Value->Option Addr->Hp->Prop
abbrev St:=List (Option V)
abbrev VK:=V->Hp->Prop
abbrev TE:=St->Hp->VK->Prop
abbrev TT:=St->Hp->(Bool->Hp->Prop)->Prop
abbrev TA:=St->Hp->(List V->Hp->Prop)->Prop
structure Ends where
 nx:St->Hp->Prop
 rt:VK
 bk:St->Hp->Prop:=fun _ _=>False
 ct:St->Hp->Prop:=fun _ _=>False
abbrev TS:=Ends->St->Hp->Prop
def EP(X:Cx)(pins:List (Addr×Obj))(σ : St)(Q:VK)(u:Value)(s':Shared):Prop := ∃v H',Inv X pins σ H' s'/\RelV v u/\Q v H'
def TP(X:Cx)(pins:List (Addr×Obj))(σ : St)(Q:Bool->Hp->Prop)(b:Bool)(s':Shared):Prop := ∃H',Inv X pins σ H' s'/\Q b H'
def AP(X:Cx)(pins:List (Addr×Obj))(σ : St)(Q:List V->Hp->Prop)(us:List Value)(s':Shared):Prop := ∃vs H',Inv X pins σ H' s'/\Vals vs us/\Q vs H'
def SP(X:Cx)(pins:List (Addr×Obj))(D:Ends)(f:Flow)(s':Shared):Prop :=
 match f with
 | .next=>∃ σ' H',Inv X pins σ' H' s'/\D.nx σ' H'
 | .brk=>∃ σ' H',Inv X pins σ' H' s'/\D.bk σ' H'
 | .cont=>∃ σ' H',Inv X pins σ' H' s'/\D.ct σ' H'
 | .ret u=>∃v σ' H',Inv X pins σ' H' s'/\RelV v u/\D.rt v H'
def PE(X:Cx)(e:Expr)(t:TE):Prop :=
 ∀(pins:List (Addr×Obj))(s:Shared)(σ : St)(H:Hp)(Q:VK),Inv X pins σ H s->t σ H Q->wpAny (model X.prog X.w) X.A (eval e X.env) (EP X pins σ Q) X.xe s
def PT(X:Cx)(e:Expr)(t:TT):Prop :=
 ∀(pins:List (Addr×Obj))(s:Shared)(σ : St)(H:Hp)(Q:Bool->Hp->Prop),Inv X pins σ H s->t σ H Q->wpAny (model X.prog X.w) X.A (isTrue e X.env (eval e X.env)) (TP X pins σ Q) X.xe s
def PW(X:Cx)(e:Expr)(t:TT):Prop :=
 ∀(whole:Sem Value)(pins:List (Addr×Obj))(s:Shared)(σ : St)(H:Hp)(Q:Bool->Hp->Prop),Inv X pins σ H s->t σ H Q->wpAny (model X.prog X.w) X.A (isTrue e X.env whole) (TP X pins σ Q) X.xe s
theorem PW.pt{X:Cx}{e:Expr}{t:TT}(h:PW X e t):PT X e t:=h _
def PA(X:Cx)(es:List Expr)(t:TA):Prop :=
 ∀(pos:Pos)(pins:List (Addr×Obj))(s:Shared)(σ : St)(H:Hp)(Q:List V->Hp->Prop),Inv X pins σ H s->t σ H Q->wpAny (model X.prog X.w) X.A (spliced (backTo pos (starEach es X.env))) (AP X pins σ Q) X.xe s
def PS(X:Cx)(st:Stmt)(t:TS):Prop :=
 ∀(pins:List (Addr×Obj))(s:Shared)(σ : St)(H:Hp)(D:Ends),Inv X pins σ H s->t D σ H->wpAny (model X.prog X.w) X.A (exec st X.env) (SP X pins D) X.xe s
def PSs(X:Cx)(st:List Stmt)(t:TS):Prop :=
 ∀(pins:List (Addr×Obj))(s:Shared)(σ : St)(H:Hp)(D:Ends),Inv X pins σ H s->t D σ H->wpAny (model X.prog X.w) X.A (execs st X.env) (SP X pins D) X.xe s
theorem thn{α : Type}{t:Sem α}{Q Q' : α -> Shared->Prop}{M:Model}{A:Around}{E:Value->Shared->Prop}{s:Shared}(h:wpAny M A t Q E s)(hQ:∀a s,Q a s->Q' a s):wpAny M A t Q' E s:=wpAny_mono h hQ fun _ _ x=>x
section
variable{X:Cx}
def ZlE(i:Nat):TE:=fun σ H Q=>∃v,σ[i]?= some (some v)/\Q v H
def tC(v:V):TE:=fun _ H Q=>Q v H
theorem ZkK{i:Nat}{x:Str}{pos:Pos}(hN:X.N[i]?= some x)(hv:Vis X.env.scope x)(hd:(x == ("__debug__" : Str))=false:=by decide) (hcd:(x == ("__classdict__" : Str))=false:=by decide):PE X (.Name x pos) (ZlE i):=by
 intro pins s σ H Q I h;obtain⟨v,e,h⟩:=h;obtain⟨m,hn,hl⟩:=I.loc;obtain⟨u,r,l⟩:=hl i x v hN e hv;have fin:EP X pins σ Q u s:=⟨v,H,I,r,h⟩;rcases l with⟨hk,hm⟩|⟨hk,c,hc,hcell⟩
 ·exact wpAny_Name (wpAny_loadName_local I.ok.kind hk hn hm fin) hd
 ·rcases hk with hk|hk
  ·exact wpAny_Name (wpAny_loadName_cell I.ok.kind hk hc hcell fin) hd
  ·exact wpAny_Name (wpAny_loadName_free I.ok.kind hk hc hcell fin hcd) hd
theorem Zf{i j pos}:PE X (.Constant (.int i) j pos) (tC (.int i)):=fun _ _ _ H _ I h=>wpAny_Constant_int ⟨.int i,H,I.tok _,⟨_,rfl⟩,h⟩
theorem ZaB{b j pos}:PE X (.Constant (.bool b) j pos) (tC (.bl b)):=fun _ _ _ H _ I h=>Constant_bool ⟨.bl b,H,I,rfl,h⟩
theorem Zc6{x j pos}:PE X (.Constant (.str x) j pos) (tC (.str x)):=fun _ _ _ H _ I h=>Calls.Constant_str ⟨.str x,H,I.tok _,⟨_,rfl⟩,h⟩
def Gl(X:Cx)(x:Str):Prop:=X.env.kindOf x=some .globalImplicit
theorem ZhW{E:Value->Shared->Prop}{pins:List (Addr×Obj)}{s:Shared}{σ : St}{H:Hp}{x:Str}{u:Value}{pos:Pos}{Q:Value->Shared->Prop}(I:Inv X pins σ H s)(hg:Gl X x)(hm:X.mg x=some u)(h:Q u s)
  (hd:(x == ("__debug__" : Str))=false:=by decide):wpAny (model X.prog X.w) X.A (eval (.Name x pos) X.env) Q E s :=
 Calls.Name_function_global I.ok.kind hg (Calls.loadGlobal_global (by rw[I.ok.glob];exact I.mod.glob.keeps I.bk) hm h) hd
theorem Zbp{E:Value->Shared->Prop}{pins:List (Addr×Obj)}{s:Shared}{σ : St}{H:Hp}{x:Str}{u:Value}{pos:Pos}{Q:Value->Shared->Prop}(I:Inv X pins σ H s)(hg:Gl X x)(hm:X.mg x=none)(hv:bootBuiltins x=some u)(h:Q u s)
  (hn:x ≠ "__name__" := by decide) (hd:(x == ("__debug__" : Str))=false:=by decide):wpAny (model X.prog X.w) X.A (eval (.Name x pos) X.env) Q E s:=by
 obtain⟨mb,h1,h2⟩:=I.mod.blt;exact Calls.Name_function_global I.ok.kind hg (Calls.loadGlobal_builtin (by rw[I.ok.glob];exact I.mod.glob.keeps I.bk) hm (by rw[I.ok.blt];exact h1.keeps I.bk) ((h2 x hn).trans hv) h) hd
theorem Zj7{x:Str}{v:V}{u:Value}{pos:Pos}(hg:Gl X x)(hm:X.mg x=none)(hv:bootBuiltins x=some u)(r:RelV v u)(hn:x ≠ "__name__" := by decide) (hd:(x == ("__debug__" : Str))=false:=by decide):PE X (.Name x pos) (tC v) :=
 fun _ _ _ H _ I h=>Zbp I hg hm hv ⟨v,H,I,r,h⟩ hn hd
variable{a b:Expr}{ta tb:TE}{pos:Pos}
def PC(X:Cx)(op:CmpOp)(a b:Expr)(t:TE):Prop :=
 ∀(pins:List (Addr×Obj))(s:Shared)(σ : St)(H:Hp)(Q:VK),Inv X pins σ H s->t σ H Q ->
  wpAny (model X.prog X.w) X.A (eval a X.env) (fun v s₁=>wpAny (model X.prog X.w) X.A (eval b X.env) (fun u s₂=>wpAny (model X.prog X.w) X.A (compareOp op v u) (EP X pins σ Q) X.xe s₂) X.xe s₁) X.xe s
def tB(t:TE):TT:=fun σ H Q=>t σ H fun x H1=>∃c,x=.bl c/\Q c H1
theorem Zbc{op:CmpOp}{t:TE}(h:PC X op a b t)(h1:behindInMarks op b=false:=by first|exact nobehind _ (by decide) (by decide)|rfl):PT X (.Compare a [op] [b] pos) (tB t):=by
 intro pins s σ H Q I hw;refine wpAny_isTrue_Compare1 (thn (h pins s σ H _ I hw) fun v s1 h1=>thn h1 fun u s2 h2=>thn h2 fun c s3 ⟨x,H1,I1,r1,q1⟩=>?_) h1;obtain⟨d,rfl,q⟩:=q1;cases r1;exact wpAny_truthy_bool ⟨H1,I1,q⟩
variable{tA tB':TT}{rest:List Expr}
def ZlQ(t u:TT):TT:=fun σ H Q=>t σ H fun c H1=>if c=true then u σ H1 Q else Q false H1
def tOr(t u:TT):TT:=fun σ H Q=>t σ H fun c H1=>if c=true then Q true H1 else u σ H1 Q
def ZlT(t:TT):TT:=fun σ H Q=>t σ H fun c H1=>Q (!c) H1
theorem Zci(ha:PT X a tA):PW X (.BoolOp .And [a] pos) tA:=by
 intro wh pins s σ H Q I h;refine isTrue_and (thn (ha pins s σ H Q I h) fun c s1 e=>?_);cases c with
 | true=>exact isTrue_and_nil e
 | false=>exact e
theorem Zb4(ha:PT X a tA):PW X (.BoolOp .Or [a] pos) tA:=by
 intro wh pins s σ H Q I h;refine isTrue_or (thn (ha pins s σ H Q I h) fun c s1 e=>?_);cases c with
 | false=>exact isTrue_or_nil e
 | true=>exact e
theorem ZcV(ha:PT X a tA)(hb:PW X (.BoolOp .And (b::rest) pos) tB'):PW X (.BoolOp .And (a::b::rest) pos) (ZlQ tA tB'):=by
 intro wh pins s σ H Q I h;refine isTrue_and (thn (ha pins s σ H _ I h) fun c s1 ⟨H1,I1,q1⟩=>?_);cases c with
 | true=>exact hb wh pins s1 σ H1 Q I1 q1
 | false=>exact⟨H1,I1,q1⟩
theorem Zdn(ha:PT X a tA)(hb:PW X (.BoolOp .Or (b::rest) pos) tB'):PW X (.BoolOp .Or (a::b::rest) pos) (tOr tA tB'):=by
 intro wh pins s σ H Q I h;refine isTrue_or (thn (ha pins s σ H _ I h) fun c s1 ⟨H1,I1,q1⟩=>?_);cases c with
 | true=>exact⟨H1,I1,q1⟩
 | false=>exact hb wh pins s1 σ H1 Q I1 q1
theorem ZaR(ha:PT X a tA):PT X (.UnaryOp .Not a pos) (ZlT tA):=by
 intro pins s σ H Q I h;exact isTrue_not (ha pins s σ H (fun c H1=>Q (!c) H1) I h)
def Zlp(ta tb:TE):TE:=fun σ H Q=>ta σ H fun x H1=>∃c,x=.bl c/\if c=true then tb σ H1 Q else Q (.bl false) H1
def Zlq(ta:TE):TE:=fun σ H Q=>ta σ H fun x H1=>∃c,x=.bl c/\Q (.bl (!c)) H1
theorem ZkF{op}{t:TE}(h:PE X a t):PE X (.BoolOp op [a] pos) t:=fun pins s σ H Q I hw=>BoolOp_one (h pins s σ H Q I hw)
theorem Zku(ha:PE X a ta)(hb:PE X (.BoolOp .And (b::rest) pos) tb):PE X (.BoolOp .And (a::b::rest) pos) (Zlp ta tb):=by
 intro pins s σ H Q I h;refine BoolOp_and (thn (ha pins s σ H _ I h) fun v s1 ⟨x,H1,I1,r1,q1⟩=>?_);obtain⟨c,rfl,q1⟩:=q1;cases r1;refine wpAny_truthy_bool ?_;cases c with
 | true=>exact hb pins s1 σ H1 Q I1 q1
 | false=>exact⟨.bl false,H1,I1,rfl,q1⟩
theorem Zki(ha:PE X a ta):PE X (.UnaryOp .Not a pos) (Zlq ta):=by
 intro pins s σ H Q I h;refine UnaryOp_ (thn (ha pins s σ H _ I h) fun v s1 ⟨x,H1,I1,r1,q1⟩=>?_);obtain⟨c,rfl,q1⟩:=q1;cases r1;exact not_of (wpAny_truthy_bool ⟨.bl (!c),H1,I1,rfl,q1⟩)
def tIf(t:TT)(ta tb:TE):TE:=fun σ H Q=>t σ H fun c H1=>if c=true then ta σ H1 Q else tb σ H1 Q
theorem Zga{c:Expr}(hc:PT X c tA)(ha:PE X a ta)(hb:PE X b tb):PE X (.IfExp c a b pos) (tIf tA ta tb):=by
 intro pins s σ H Q I h;refine wpAny_IfExp (thn (hc pins s σ H _ I h) fun d s1 ⟨H1,I1,q1⟩=>?_);cases d with
 | true=>exact ha pins s1 σ H1 Q I1 q1
 | false=>exact hb pins s1 σ H1 Q I1 q1
end
def SqL(K:PySem.W.Frag)(H:Hp)(a:Addr)(xs:List V):Prop :=
 Rd H a (.lst xs) \/
  ∃(o:Obj)(its:Array Value)(n:Nat),K.lookup a=some o/\o.cls=.type "list" /\ o.dict=none/\o.data=.seq its n/\its.size<=sizeLine/\Vals xs its.toList
def SqT(K:PySem.W.Frag)(H:Hp)(a:Addr)(xs:List V):Prop :=
 Rd H a (.tup xs) \/
  ∃(o:Obj)(its:Array Value)(n:Nat),K.lookup a=some o/\o.cls=.type "tuple" /\ o.data=.seq its n/\its.size<=sizeLine/\Vals xs its.toList
def ZlU:Value->Option V
 | .none=>some .non
 | .bool b=>some (.bl b)
 | .int i _=>some (.int i)
 | .str x _=>some (.str x)
 | .bytes b _=>some (.byt b)
 | .float b _=>some (.flt b)
 | .ref a=>some (.ref a)
 | .type n=>some (.ty n)
 | _=>none
theorem RelV.abs{x:V}{u:Value}(r:RelV x u):ZlU u=some x:=by
 cases x with
 | non=>cases r;rfl
 | bl _=>cases r;rfl
 | int _=>obtain⟨t,rfl⟩:=r;rfl
 | str _=>obtain⟨t,rfl⟩:=r;rfl
 | byt _=>obtain⟨t,rfl⟩:=r;rfl
 | flt _=>obtain⟨t,rfl⟩:=r;rfl
 | ref _=>cases r;rfl
 | ty _=>cases r;rfl
theorem RelV.inj{x y:V}{u:Value}(r:RelV x u)(q:RelV y u):x=y:=Option.some.inj (r.abs.symm.trans q.abs)
theorem Vals.inj:∀{xs ys:List V}{us:List Value},Vals xs us->Vals ys us->xs=ys
 | _,_,_,.nil,.nil=>rfl
 | _,_,_,.cons r t,.cons r' t'=>by rw[r.inj r',Vals.inj t t']
section
variable{X:Cx}{pins:List (Addr×Obj)}{σ : St}{H:Hp}{s:Shared}{a:Addr}{xs ys:List V}
theorem SqL.of{K:PySem.W.Frag}(h:H a=some (.lst xs)):SqL K H a xs:=.inl (.inl h)
theorem SqT.of{K:PySem.W.Frag}(h:H a=some (.tup xs)):SqT K H a xs:=.inl (.inl h)
theorem Inv.list(I:Inv X pins σ H s)(h:SqL X.K H a xs):∃its:List Value,Vals xs its/\PlainL s.heap a its.toArray/\xs.length<=sizeLine:=by
 rcases h with h|⟨o,its,n,hk,hc,hd,hs,hz,r⟩
 ·obtain⟨z,its,n,r,e⟩:=h.ok I.hok;exact⟨its,r,⟨_,n,e,rfl,rfl,rfl⟩,z⟩
 ·refine⟨its.toList,r,⟨o,n,I.kIn a o hk,hc,hd,by simpa using hs⟩,?_⟩;have e:=r.length;simp only[Array.length_toList] at e;lia
theorem Inv.tuple(I:Inv X pins σ H s)(h:SqT X.K H a xs):∃its:List Value,Vals xs its/\IsTup s.heap a its.toArray/\xs.length<=sizeLine:=by
 rcases h with h|⟨o,its,n,hk,hc,hs,hz,r⟩
 ·obtain⟨z,its,r,p⟩:=h.ok I.hok;exact⟨its,r,p,z⟩
 ·refine⟨its.toList,r,⟨o,I.kIn a o hk,hc,n,by simpa using hs⟩,?_⟩;have e:=r.length;simp only[Array.length_toList] at e;lia
theorem Inv.list_inj(I:Inv X pins σ H s)(h:SqL X.K H a xs)(h':SqL X.K H a ys):xs=ys:=by
 obtain⟨its,r,⟨o,n,e,_,_,d⟩,_⟩:=I.list h;obtain⟨its',r',⟨o',n',e',_,_,d'⟩,_⟩:=I.list h';rw[e] at e';cases e';rw[d] at d';injection d' with d1 _;have:its=its':=by simpa using congrArg Array.toList d1
 subst this;exact r.inj r'
theorem Inv.tuple_inj(I:Inv X pins σ H s)(h:SqT X.K H a xs)(h':SqT X.K H a ys):xs=ys:=by
 obtain⟨its,r,⟨o,e,_,n,d⟩,_⟩:=I.tuple h;obtain⟨its',r',⟨o',e',_,n',d'⟩,_⟩:=I.tuple h';rw[e] at e';cases e';rw[d] at d';injection d' with d1 _;have:its=its':=by simpa using congrArg Array.toList d1
 subst this;exact r.inj r'
end
abbrev Cx.wish(X:Cx)(E:Value->Shared->Prop):Cx:={ X with xe:=E }
abbrev Cx.nox(X:Cx):Cx:=X.wish fun _ _=>False
theorem Cx.Ok.wish{X:Cx}(ok:X.Ok)(E:Value->Shared->Prop):(X.wish E).Ok :=
 ⟨ok.mod,ok.kind,ok.glob,ok.blt,ok.above,ok.inj,ok.has,ok.cab,ok.hd,ok.frames,ok.stk,ok.exf,ok.bs,ok.bsz,ok.noex,ok.exfs,ok.funs,ok.frf⟩
theorem Cx.Ok.unwish{X:Cx}{E:Value->Shared->Prop}(ok:(X.wish E).Ok):X.Ok :=
 ⟨ok.mod,ok.kind,ok.glob,ok.blt,ok.above,ok.inj,ok.has,ok.cab,ok.hd,ok.frames,ok.stk,ok.exf,ok.bs,ok.bsz,ok.noex,ok.exfs,ok.funs,ok.frf⟩
section
variable{X:Cx}{pins:List (Addr×Obj)}{σ : St}{H:Hp}{s:Shared}{E:Value->Shared->Prop}
theorem Inv.wish(I:Inv X pins σ H s)(E:Value->Shared->Prop):Inv (X.wish E) pins σ H s:=⟨I.ok.wish E,I.os,I.bare,I.base,I.loc,I.cell,I.free,I.freeC,I.pin,I.hok,I.len⟩
theorem Inv.unwish(I:Inv (X.wish E) pins σ H s):Inv X pins σ H s:=⟨I.ok.unwish,I.os,I.bare,I.base,I.loc,I.cell,I.free,I.freeC,I.pin,I.hok,I.len⟩
theorem SP.unwish{D:Ends}{f:Flow}{s':Shared}(h:SP (X.wish E) pins D f s'):SP X pins D f s':=by
 cases f with
 | next=>obtain⟨σ',H',I,q⟩:=h;exact⟨σ',H',I.unwish,q⟩
 | brk=>obtain⟨σ',H',I,q⟩:=h;exact⟨σ',H',I.unwish,q⟩
 | cont=>obtain⟨σ',H',I,q⟩:=h;exact⟨σ',H',I.unwish,q⟩
 | ret u=>obtain⟨v,σ',H',I,r,q⟩:=h;exact⟨v,σ',H',I.unwish,r,q⟩
theorem PSs.nox{st:List Stmt}{t:TS}(h:PSs X.nox st t):PSs X st t:=fun pins s σ H D I hw =>
 wpAny_mono (h pins s σ H D (I.wish _) hw) (fun _ _ q=>q.unwish) fun _ _ z=>False.elim z
end
section
variable{X:Cx}{st:Stmt}{rest:List Stmt}{t u:TS}{e:Expr}{te:TE}{pos:Pos}
def Zlt:TS:=fun D σ H=>D.nx σ H
def Zl3(t u:TS):TS:=fun D σ H=>t { D with nx:=u D } σ H
theorem ZR:PSs X [] Zlt:=fun _ _ σ H _ I h=>wpAny_execs_nil ⟨σ,H,I,h⟩
theorem Zc(h1:PS X st t)(h2:PSs X rest u):PSs X (st::rest) (Zl3 t u):=by
 intro pins s σ H D I h;refine wpAny_execs_cons (thn (h1 pins s σ H { D with nx:=u D } I h) fun f s1 q=>?_);cases f with
 | next =>
  obtain⟨σ',H',I',q⟩:=q;exact h2 pins s1 σ' H' D I' q
 | ret v=>exact q
 | brk=>exact q
 | cont=>exact q
theorem Zg(h1:PS X st t):PSs X [st] t:=by
 intro pins s σ H D I h;refine wpAny_execs_cons (thn (h1 pins s σ H D I h) fun f s1 q=>?_);cases f with
 | next=>exact wpAny_execs_nil q
 | ret v=>exact q
 | brk=>exact q
 | cont=>exact q
theorem Inv.quiet{pins:List (Addr×Obj)}{σ : St}{H:Hp}{s:Shared}(I:Inv X pins σ H s):interactive X.env=false:=by simp[interactive,I.ok.kind]
def Zlz(te:TE):TS:=fun D σ H=>te σ H fun _ H1=>D.nx σ H1
theorem Zbm(he:PE X e te)(hs:swapsWith e none pos.line X.env=pure false:=by rfl):PS X (.Expr e pos) (Zlz te):=by
 intro pins s σ H D I h;exact wpAny_Expr_any (thn (he pins s σ H _ I h) fun v s1 ⟨x,H1,I1,r1,q1⟩=>⟨σ,H1,I1,q1⟩) I.quiet hs
def ZlH(te:TE):TS:=fun D σ H=>te σ H D.rt
theorem Zy(he:PE X e te):PS X (.Return (some e) pos) (ZlH te):=by
 intro pins s σ H D I h;exact wpAny_Return_some (thn (he pins s σ H _ I h) fun v s1 ⟨x,H1,I1,r1,q1⟩=>⟨x,σ,H1,I1,r1,q1⟩)
def Zl7(c:TT)(t u:TS):TS:=fun D σ H=>c σ H fun b H1=>if b=true then t D σ H1 else u D σ H1
theorem ZaT{c:Expr}{a b:List Stmt}{tc:TT}(hc:PT X c tc)(ha:PSs X a t)(hb:PSs X b u):PS X (.If c a b pos) (Zl7 tc t u):=by
 intro pins s σ H D I h;refine wpAny_If (thn (hc pins s σ H _ I h) fun d s1 ⟨H1,I1,q1⟩=>?_);cases d with
 | true=>exact ha pins s1 σ H1 D I1 q1
 | false=>exact hb pins s1 σ H1 D I1 q1
end
abbrev TG:=V->St->Hp->(St->Hp->Prop)->Prop
abbrev TGs:=List V->St->Hp->(St->Hp->Prop)->Prop
def PG(X:Cx)(target:Expr)(t:TG):Prop :=
 ∀(pins:List (Addr×Obj))(s:Shared)(σ : St)(H:Hp)(v:V)(u:Value)(Q:St->Hp->Prop),Inv X pins σ H s->RelV v u->t v σ H Q ->
  wpAny (model X.prog X.w) X.A (assign target X.env u) (fun _ s'=>∃ σ' H',Inv X pins σ' H' s'/\Q σ' H') X.xe s
def PGs(X:Cx)(ts:List Expr)(t:TGs):Prop :=
 ∀(pins:List (Addr×Obj))(s:Shared)(σ : St)(H:Hp)(vs:List V)(us:List Value)(Q:St->Hp->Prop),Inv X pins σ H s->Vals vs us->t vs σ H Q ->
  wpAny (model X.prog X.w) X.A (assignInOrder ((assignEach ts X.env).map (·.2)) us) (fun _ s'=>∃ σ' H',Inv X pins σ' H' s'/\Q σ' H') X.xe s
abbrev Zlj:=V->V->V->Hp->(Hp->Prop)->Prop
def ZlB(X:Cx)(t:Zlj):Prop :=
 ∀(pins:List (Addr×Obj))(s:Shared)(σ : St)(H:Hp)(o i v:V)(ov iv u:Value)(Q:Hp->Prop),Inv X pins σ H s->RelV o ov->RelV i iv->RelV v u->t o i v H Q ->
  wpAny (model X.prog X.w) X.A (setItem ov iv u) (fun _ s'=>∃H',Inv X pins σ H' s'/\Q H') X.xe s
section
variable{X:Cx}{pos:Pos}
def Zhc(i:Nat):TG:=fun v σ H Q=>Q (σ.set i (some v)) H
theorem Zo{i:Nat}{x:Str}(hN:X.N.Nodup)(hi:X.N[i]?= some x)(hx:Loc X.env.scope x)(hf:X.fn x=true\/X.env.scope.names.lookup x=some .local:=by first|exact .inl rfl|exact .inr rfl|assumption):PG X (.Name x pos) (Zhc i):=by
 intro pins s σ H v u Q I r h;exact wpAny_assign_Name (Zgs I hN hi hx r (fun s' I'=>⟨_,H,I',h⟩) hf)
def Zl1:TGs:=fun vs σ H Q=>vs=[]/\Q σ H
def Zlm(t:TG)(u:TGs):TGs:=fun vs σ H Q=>∃v r,vs=v::r/\t v σ H fun σ' H'=>u r σ' H' Q
theorem Zbw:PGs X [] Zl1:=by
 intro pins s σ H vs us Q I r h;obtain⟨e,h⟩:=h;subst e;cases r;exact assignInOrder_nil ⟨σ,H,I,h⟩
theorem ZL{e:Expr}{es:List Expr}{t:TG}{u:TGs}(h1:PG X e t)(h2:PGs X es u)
  (hs:(assignEach (e::es) X.env).map (·.2)=assign e X.env::(assignEach es X.env).map (·.2):=by rfl):PGs X (e::es) (Zlm t u):=by
 intro pins s σ H vs us Q I r h;obtain⟨v,vr,e1,h⟩:=h;subst e1;cases r with
 | cons r rr =>
  rw[hs];refine assignInOrder_cons (thn (h1 pins s σ H _ _ _ I r h) fun _ s1 ⟨σ1,H1,I1,q1⟩=>?_);exact h2 pins s1 σ1 H1 _ _ Q I1 rr q1
def ZlO(K:PySem.W.Frag)(n:Nat)(t:TGs):TG:=fun v σ H Q=>∃a xs,v=.ref a/\SqT K H a xs/\xs.length=n/\t xs σ H Q
theorem Zcr{es:List Expr}{k:Nat}{t:TGs}{n:Nat}(hc:X.calm=true)(h:PGs X es t)
  (hn:(assignEach es X.env).length=n:=by rfl) (hst:(assignEach es X.env).findIdx? (·.1)=none:=by rfl):PG X (.Tuple es k pos) (ZlO X.K n t):=by
 intro pins s σ H v u Q I r hw;obtain⟨a,xs,e1,hq,hl,hw⟩:=hw;subst e1;cases r;obtain⟨its,rv,ht,hz⟩:=I.tuple hq;refine assign_Tuple_tuple (I.ok.hd hc) ht (by simp[hn,<- hl,rv.length]) hst fun h' hx=>?_;have I1:Inv X pins σ H { s with heap:=h' }:=I.kept (t':=s.toks) fun b o e=>hx b o (Nat.ne_of_lt (Heap.lt_size e)) e;exact h pins _ σ H xs _ Q I1 (by simpa using rv) hw
def Zl4(to ti:TE)(t:Zlj):TG:=fun v σ H Q=>to σ H fun o H1=>ti σ H1 fun i H2=>t o i v H2 fun H3=>Q σ H3
theorem Zkv{o i:Expr}{to ti:TE}{t:Zlj}(ho:PE X o to)(hi:PE X i ti)(hs:ZlB X t)
  (ha:∀v,assign (.Subscript o i pos) X.env v=(do
   let ov <- holding [v] (eval o X.env)
   let iv <- holding [v,ov] (eval i X.env)
   standAt pos
   holding [v,ov,iv] (setItem ov iv v)
   release [v,ov,iv] []):=by intro _;rfl):PG X (.Subscript o i pos) (Zl4 to ti t):=by
 intro pins s σ H v u Q I r h;rw[ha];refine wpAny_bind (wpAny_holding (thn (ho pins s σ H _ I h) fun ov s1 ⟨x,H1,I1,r1,q1⟩=>?_));refine wpAny_bind (wpAny_holding (thn (hi pins s1 σ H1 _ I1 q1) fun iv s2 ⟨y,H2,I2,r2,q2⟩=>?_));refine wpAny_bind (wpAny_standAt (wpAny_bind (wpAny_holding (thn (hs pins s2 σ H2 x y v ov iv u _ I2 r1 r2 r q2) fun _ s3 ⟨H3,I3,q3⟩=>?_))));exact wpAny_release ⟨σ,H3,I3,q3⟩
def Zk3(te:TE)(g:TG):TS:=fun D σ H=>te σ H fun x H1=>g x σ H1 D.nx
theorem Zkg{tg e:Expr}{te:TE}{g:TG}(he:PE X e te)(hg:PG X tg g)(hs:swapsWithSole [tg] e pos.line X.env=pure false:=by rfl)(hw:swappedStores [tg] e X.env=pure none:=by rfl)
  (h1:(assignEach [tg] X.env).map (·.2)=[assign tg X.env]:=by rfl):PS X (.Assign [tg] e pos) (Zk3 te g):=by
 intro pins s σ H D I h;refine wpAny_Assign_stores (thn (he pins s σ H _ I h) fun v s1 ⟨x,H1,I1,r1,q1⟩=>?_) hs hw;rw[h1];exact thn (hg pins s1 σ H1 x v _ I1 r1 q1) fun _ s2 q=>q
theorem Zt{i:Nat}{x:Str}{e:Expr}{te:TE}{pos':Pos}(hN:X.N.Nodup)(hi:X.N[i]?= some x)(hx:Loc X.env.scope x)(he:PE X e te)(hs:swapsWith e (some (.Name x pos')) pos.line X.env=pure false:=by rfl)(hf:X.fn x=true\/X.env.scope.names.lookup x=some .local:=by first|exact .inl rfl|exact .inr rfl|assumption) :
  PS X (.Assign [.Name x pos'] e pos) (Zk3 te (Zhc i)):=by
 intro pins s σ H D I h;refine wpAny_Assign_Name (thn (he pins s σ H _ I h) fun v s1 ⟨y,H1,I1,r1,q1⟩=>?_) hs;exact Zgs I1 hN hi hx r1 (fun s2 I2=>⟨_,H1,I2,q1⟩) hf
def ZkI(c:TT)(tb:TS):TS:=fun D σ H=>∃W:Nat->St->Hp->Prop,(∃m,W m σ H)/\∀m σ H,W m σ H ->
 c σ H fun b H1=>if b=true then ∃N:St->Hp->Prop,(∀ σ' H',N σ' H'->∃m',m'<m/\W m' σ' H')/\tb { D with nx:=N,ct:=N,bk:=D.nx } σ H1 else D.nx σ H1
theorem Zjc{c:Expr}{body:List Stmt}{tc:TT}{tb:TS}(hp:PassesOwn (model X.prog X.w) X.A X.env X.xe)(hc:PT X c tc)(hb:PSs X body tb):PS X (.While c body [] pos) (ZkI tc tb):=by
 intro pins s σ H D I h;obtain⟨W,⟨m0,w0⟩,turn⟩:=h;refine wpAny_While (codeAny_whileLoop (fun n s'=>∃ σ' H',Inv X pins σ' H' s'/\W n σ' H') ?_ m0 ⟨σ,H,I,w0⟩);rintro n s1 ⟨σ1,H1,I1,w1⟩;refine wpAny_passesOwn hp (thn (hc pins s1 σ1 H1 _ I1 (turn n σ1 H1 w1)) fun b s2 ⟨H2,I2,q2⟩=>?_);cases b with
 | true =>
  obtain⟨N,hN,q2⟩:=q2;rw[if_pos rfl];refine wpAny_passesOwn hp (thn (hb pins s2 σ1 H2 _ I2 q2) fun f s3 q3=>?_);cases f with
  | next =>
   obtain⟨σ3,H3,I3,n3⟩:=q3;obtain⟨m',hm,w3⟩:=hN σ3 H3 n3;exact⟨m',hm,σ3,H3,I3,w3⟩
  | cont =>
   obtain⟨σ3,H3,I3,n3⟩:=q3;obtain⟨m',hm,w3⟩:=hN σ3 H3 n3;exact⟨m',hm,σ3,H3,I3,w3⟩
  | brk=>exact q3
  | ret v=>exact q3
 | false =>
  rw[if_neg Bool.false_ne_true];exact wpAny_execs_nil ⟨σ1,H2,I2,q2⟩
end
structure It where
 go:Nat->Hp->Prop
 yld:Nat->Hp->V->Hp->Prop
 stop:Nat->Hp->Prop
def ZeH(X:Cx)(pins:List (Addr×Obj))(H:Hp)(b:Addr):Prop :=
 H b=none/\b≠X.env.locals/\b∉X.fs/\(b∈X.ex\/X.s₀.heap.objs.size<=b)/\(∀x c,X.env.cells.lookup x=some c->c≠b)/\∀p∈X.pn++pins,p.1≠b
theorem Inv.fpOk{X:Cx}{pins:List (Addr×Obj)}{σ : St}{H H':Hp}{s:Shared}{b:Addr}(I:Inv X pins σ H s)(hb:s.heap.objs.size<=b)(hn:H' b=none):ZeH X pins H' b:=by
 refine⟨hn,Nat.ne_of_gt (Nat.lt_of_lt_of_le I.lt hb),I.nofs hb,.inr (Nat.le_trans I.sz hb),fun x c e z=>?_,fun p hp z=>?_⟩
 ·obtain⟨v,q⟩:=I.cell x c e;exact absurd (Nat.lt_of_lt_of_le q.lt (by rw[z];exact hb)) (Nat.lt_irrefl _)
 ·exact absurd (Nat.lt_of_lt_of_le (Heap.lt_size (I.pin p hp).1) (by rw[z];exact hb)) (Nat.lt_irrefl _)
structure Turn(P:Program)(w:World)(K:PySem.W.Frag)(tg:Expr)(J:It)(fp:List Addr)(it:Addr)(tn:Nat->Heap->Prop):Prop where
 mem:it∈fp
 obj:∀i h,tn i h->∀b∈fp,∃o,h.get? b=some o/\∀v,o.data ≠ .cell v
 keep:∀i h h',tn i h->(∀b∈fp,∀o,h.get? b=some o->h'.get? b=some o)->tn i h'
 item:∀(X:Cx),X.prog=P->X.w=w->X.K=K->X.calm=true->∀(i:Nat)(pins:List (Addr×Obj))(s:Shared)(σ : St)(H:Hp)(E:Value->Shared->Prop),Inv X pins σ H s->(∀b∈fp,ZeH X pins H b)->tn i s.heap->J.go i H ->
  wpAny (model P w) X.A (pyNext (.ref it)) (fun r s1=>∃u,r=some u /\
   wpAny (model P w) X.A (letOwnedTupleGo tg (.ref it) u) (fun _ s2=>∃x H',Inv X pins σ H' s2/\RelV x u/\J.yld i H x H'/\tn (i+1) s2.heap/\∀b∈fp,H' b=none) E s1) E s
 done:∀(X:Cx),X.prog=P->X.w=w->X.K=K->X.calm=true->∀(i:Nat)(pins:List (Addr×Obj))(s:Shared)(σ : St)(H:Hp)(E:Value->Shared->Prop),Inv X pins σ H s->(∀b∈fp,ZeH X pins H b)->tn i s.heap->J.stop i H ->
  wpAny (model P w) X.A (pyNext (.ref it)) (fun r s1=>r=none/\Inv X pins σ H s1) E s
 self:∀(A:Around)(i:Nat)(s:Shared)(Q:Value->Shared->Prop)(E:Value->Shared->Prop),tn i s.heap->Q (.ref it) s->wpAny (model P w) A (pyIter (.ref it)) Q E s
abbrev TI:=St->Hp->(It->Hp->Prop)->Prop
def PIE(X:Cx)(pins:List (Addr×Obj))(σ : St)(tg:Expr)(R:It->Hp->Prop)(itv:Value)(s2:Shared):Prop :=
 ∃(it:Addr)(fp:List Addr)(tn:Nat->Heap->Prop)(J:It)(H':Hp),itv=.ref it/\Inv X pins σ H' s2/\Turn X.prog X.w X.K tg J fp it tn/\tn 0 s2.heap/\(∀b∈fp,ZeH X pins H' b)/\R J H'
def PI(X:Cx)(tg iter:Expr)(wi:TI):Prop :=
 ∀(pins:List (Addr×Obj))(s:Shared)(σ : St)(H:Hp)(R:It->Hp->Prop),Inv X pins σ H s->wi σ H R ->
  wpAny (model X.prog X.w) X.A (eval iter X.env) (fun v s1=>wpAny (model X.prog X.w) X.A (pyIter v) (PIE X pins σ tg R) X.xe s1) X.xe s
theorem Zjz{M:Model}{A:Around}{E:Value->Shared->Prop}{s:Shared}{tg:Expr}{it:Addr}{u:Value}{o:Obj}{n:String}{vs:Array Value}{Q:Unit->Shared->Prop}(ho:s.heap.get? it=some o)(hc:o.cls=.type n)(hd:o.data=.fields vs)
    (hn:["enumerate","zip","dict_itemiterator","dict_reverseitemiterator","odict_iterator","itertools.zip_longest","itertools.pairwise"].contains n=false) (hQ:Q () s):wpAny M A (letOwnedTupleGo tg (.ref it) u) Q E s:=by
  unfold letOwnedTupleGo;cases tg <;> first
    | exact wpAny_pure hQ
    | (cases u <;> first
        | exact wpAny_pure hQ
        | (refine wpAny_bind (wpAny_load ho ?_)
           rw[hc,hd];show wpAny M A (if(["enumerate","zip","dict_itemiterator","dict_reverseitemiterator","odict_iterator","itertools.zip_longest","itertools.pairwise"].contains n&&vs[0]? == some (rawInt _))=true then _ else _) Q E s
           rw[if_neg (by intro h;rw[hn,Bool.false_and] at h;cases h)];exact wpAny_pure hQ))
def Itl(K:PySem.W.Frag)(a:Addr):It :=
 ⟨fun i H=>∃xs x,SqL K H a xs/\xs[i]?= some x,fun i H x H'=>H'=H/\∀xs,SqL K H a xs->xs[i]?= some x,fun i H=>∃xs,SqL K H a xs/\xs.length<=i⟩
def Itt(K:PySem.W.Frag)(a:Addr):It :=
 ⟨fun i H=>∃xs x,SqT K H a xs/\xs[i]?= some x,fun i H x H'=>H'=H/\∀xs,SqT K H a xs->xs[i]?= some x,fun i H=>∃xs,SqT K H a xs/\xs.length<=i⟩
def Itr(lo:Int)(n:Nat):It:=⟨fun i _=>i<n,fun i H x H'=>H'=H/\x=.int (lo+i),fun i _=>n<=i⟩
theorem Zhz{P:Program}{w:World}{K:PySem.W.Frag}{tg:Expr}(a it:Addr):Turn P w K tg (Itl K a) [it] it (fun i h=>h.IsListIter it a i) where
 mem:=by simp
 obj:=fun i h st b hb=>by
  have e:b=it:=by simpa using hb
  subst e;obtain⟨o,e,c,d⟩:=st;exact⟨o,e,fun v z=>by rw[d] at z;cases z⟩
 keep:=fun i h h' st k=>st.at fun o e=>k it (by simp) o e
 item:=by
  intro X hP hw hK hc i pins s σ H E I hf st hg;subst hP hw hK;obtain⟨xs,x,hq,hx⟩:=hg;obtain⟨its,rv,p,hz⟩:=I.list hq;obtain⟨u,hu,ru⟩:=rv.get hx;obtain⟨f0,f1,f2,f3,f4,f5⟩:=hf it (by simp);refine wpAny_pyNext_list_item st p.isList (x:=u) (by simpa using hu) fun h' st' sb=>?_;have I1:Inv X pins σ H { s with heap:=h' }:=I.turned (t':=s.toks) (fun b o hb e=>(sb.2 b hb).trans e) f0 f1 f3 f4 f5;obtain⟨o,e,c,d⟩:=id st';exact⟨u,rfl,Zjz (s:={ s with heap:=h' }) e c d (by decide) ⟨x,H,I1,ru,⟨rfl,fun ys hy=>by rw[I.list_inj hy hq];exact hx⟩,st',fun b hb=>(hf b hb).1⟩⟩
 done:=by
  intro X hP hw hK hc i pins s σ H E I hf st hg;subst hP hw hK;obtain⟨xs,hq,hx⟩:=hg;obtain⟨its,rv,p,hz⟩:=I.list hq;obtain⟨f0,f1,f2,f3,f4,f5⟩:=hf it (by simp);have hl:=rv.length;exact wpAny_pyNext_list_end (I.ok.hd hc) st p.isList (by simp;lia) fun h' eb=>⟨rfl,I.turned (t':=s.toks) (fun b o hb e=>eb b o hb e) f0 f1 f3 f4 f5⟩
 self:=fun _ _ _ _ _ st h=>wpAny_pyIter_listiter st h
theorem Zgx{P:Program}{w:World}{K:PySem.W.Frag}{tg:Expr}(a it:Addr):Turn P w K tg (Itt K a) [it] it (fun i h=>h.IsTupleIter it a i) where
 mem:=by simp
 obj:=fun i h st b hb=>by
  have e:b=it:=by simpa using hb
  subst e;obtain⟨o,e,c,d⟩:=st;exact⟨o,e,fun v z=>by rw[d] at z;cases z⟩
 keep:=fun i h h' st k=>st.at fun o e=>k it (by simp) o e
 item:=by
  intro X hP hw hK hc i pins s σ H E I hf st hg;subst hP hw hK;obtain⟨xs,x,hq,hx⟩:=hg;obtain⟨its,rv,p,hz⟩:=I.tuple hq;obtain⟨u,hu,ru⟩:=rv.get hx;obtain⟨f0,f1,f2,f3,f4,f5⟩:=hf it (by simp);refine wpAny_pyNext_tuple_item st (show s.heap.IsTuple a its.toArray from p) (x:=u) (by simpa using hu) fun h' st' sb=>?_;have I1:Inv X pins σ H { s with heap:=h' }:=I.turned (t':=s.toks) (fun b o hb e=>(sb.2 b hb).trans e) f0 f1 f3 f4 f5;obtain⟨o,e,c,d⟩:=id st';exact⟨u,rfl,Zjz (s:={ s with heap:=h' }) e c d (by decide) ⟨x,H,I1,ru,⟨rfl,fun ys hy=>by rw[I.tuple_inj hy hq];exact hx⟩,st',fun b hb=>(hf b hb).1⟩⟩
 done:=by
  intro X hP hw hK hc i pins s σ H E I hf st hg;subst hP hw hK;obtain⟨xs,hq,hx⟩:=hg;obtain⟨its,rv,p,hz⟩:=I.tuple hq;obtain⟨f0,f1,f2,f3,f4,f5⟩:=hf it (by simp);have hl:=rv.length;exact wpAny_pyNext_tuple_end (I.ok.hd hc) st (show s.heap.IsTuple a its.toArray from p) (by simp;lia) fun h' eb=>⟨rfl,I.turned (t':=s.toks) (fun b o hb e=>eb b o hb e) f0 f1 f3 f4 f5⟩
 self:=fun _ _ _ _ _ st h=>wpAny_pyIter_tupleiter st h
theorem ZgW{P:Program}{w:World}{K:PySem.W.Frag}{tg:Expr}(it:Addr)(lo:Int)(n:Nat):Turn P w K tg (Itr lo n) [it] it (fun i h=>IsRangeIter h it (lo+(i:Nat)*1) ((n:Int)-(i:Nat)) 1) where
 mem:=by simp
 obj:=fun i h st b hb=>by
  have e:b=it:=by simpa using hb
  subst e;exact⟨_,st,fun v z=>by
   have z':Data.fields _=Data.cell v:=z;cases z'⟩
 keep:=fun i h h' st k=>k it (by simp) _ st
 item:=by
  intro X hP hw hK hc i pins s σ H E I hf st hg;subst hP hw hK;obtain⟨f0,f1,f2,f3,f4,f5⟩:=hf it (by simp);have W:=Walks.range (prog:=X.prog) (w:=X.w) (I.ok.hd hc) it lo 1 n;refine W.item i s _ _ hg st fun v h' tk hv st' kk=>?_;obtain⟨t,rfl⟩:=hv;have I1:Inv X pins σ H { s with heap:=h',toks:=tk }:=I.turned (fun b o hb e=>kk b o (by simpa using hb) e) f0 f1 f3 f4 f5;refine⟨_,rfl,Zjz (s:={ s with heap:=h',toks:=tk }) (n := "range_iterator") st' rfl rfl (by decide) ⟨.int (lo+i),H,I1,⟨t,?_⟩,⟨rfl,rfl⟩,st',fun b hb=>(hf b hb).1⟩⟩;rw[Int.mul_one]
 done:=by
  intro X hP hw hK hc i pins s σ H E I hf st hg;subst hP hw hK;obtain⟨f0,f1,f2,f3,f4,f5⟩:=hf it (by simp);exact wpAny_pyNext_range_end (I.ok.hd hc) st (by have:n<=i:=hg;lia) fun h' eb=>⟨rfl,I.turned (t':=s.toks) (fun b o hb e=>eb b o hb e) f0 f1 f3 f4 f5⟩
 self:=fun _ _ _ _ _ st h=>wpAny_pyIter_rangeiter st h
section
variable{X:Cx}{tg:Expr}
def Zly(K:PySem.W.Frag)(tl:TE):TI:=fun σ H R=>tl σ H fun x H1=>∃a,x=.ref a/\(∃xs,SqL K H1 a xs)/\R (Itl K a) H1
def ZlS(K:PySem.W.Frag)(tl:TE):TI:=fun σ H R=>tl σ H fun x H1=>∃a,x=.ref a/\(∃xs,SqT K H1 a xs)/\R (Itt K a) H1
theorem ZaF{l:Expr}{tl:TE}(hl:PE X l tl):PI X tg l (Zly X.K tl):=by
 intro pins s σ H R I h;refine thn (hl pins s σ H _ I h) fun v s1 ⟨x,H1,I1,r1,q1⟩=>?_;obtain⟨a,e,⟨xs,hq⟩,q⟩:=q1;subst e;cases r1;obtain⟨its,rv,p,hz⟩:=I1.list hq;refine wpAny_pyIter_list p.isList ?_;refine⟨s1.heap.objs.size,[s1.heap.objs.size],_,_,H1,rfl,I1.kept (t':=s1.toks) fun b o e=>Heap.get?_push_of_some _ e,Zhz a _,⟨_,Heap.get?_push_size _ rfl,rfl,rfl⟩,fun b hb=>?_,q⟩;have e:b=s1.heap.objs.size:=by simpa using hb
 subst e;exact I1.fpOk (Nat.le_refl _) (I1.hok.fresh (Nat.le_refl _))
theorem ZbZ{l:Expr}{tl:TE}(hl:PE X l tl):PI X tg l (ZlS X.K tl):=by
 intro pins s σ H R I h;refine thn (hl pins s σ H _ I h) fun v s1 ⟨x,H1,I1,r1,q1⟩=>?_;obtain⟨a,e,⟨xs,hq⟩,q⟩:=q1;subst e;cases r1;obtain⟨its,rv,p,hz⟩:=I1.tuple hq;refine wpAny_pyIter_tuple (show s1.heap.IsTuple a its.toArray from p) ?_;refine⟨s1.heap.objs.size,[s1.heap.objs.size],_,_,H1,rfl,I1.kept (t':=s1.toks) fun b o e=>Heap.get?_push_of_some _ e,Zgx a _,⟨_,Heap.get?_push_size _ rfl,rfl,rfl⟩,fun b hb=>?_,q⟩;have e:b=s1.heap.objs.size:=by simpa using hb
 subst e;exact I1.fpOk (Nat.le_refl _) (I1.hok.fresh (Nat.le_refl _))
theorem ZiQ{pins:List (Addr×Obj)}{σ : St}{H:Hp}{s:Shared}{R:It->Hp->Prop}{E:Value->Shared->Prop}{lo hi:Int}{t u v:Tok}{tk:Nat}(I:Inv X pins σ H s)(h1 : -(2 ^ 62)<=lo)(h2:lo<2 ^ 62)(h3 : -(2 ^ 62)<=hi)(h4:hi<2 ^ 62)
  (q:R (Itr lo (hi-lo).toNat) H):wpAny (model X.prog X.w) X.A (pyIter (.ref s.heap.objs.size)) (PIE X pins σ tg R) E { s with heap:=s.heap.push { cls:=.type "range",data:=.fields #[.int lo t,.int hi u,.int 1 v] },toks:=tk }:=by
 refine wpAny_pyIter_range (IsRange.new ..) (small_one h1 h2 h3 h4) ?_;have I1:Inv X pins σ H { s with heap:=s.heap.push { cls:=.type "range",data:=.fields #[.int lo t,.int hi u,.int 1 v] },toks:=tk }:=I.kept fun b o e=>Heap.get?_push_of_some _ e;refine⟨(s.heap.push { cls:=.type "range",data:=.fields #[.int lo t,.int hi u,.int 1 v] }).objs.size,[(s.heap.push { cls:=.type "range",data:=.fields #[.int lo t,.int hi u,.int 1 v] }).objs.size],_,_,H,rfl,
  I1.kept (t':=tk) fun b o e=>Heap.get?_push_of_some _ e,ZgW _ lo (hi-lo).toNat,?_,fun b hb=>?_,q⟩
 ·have e1:lo+((0:Nat):Int)*1=lo:=by simp
  have e2:(((hi-lo).toNat:Nat):Int)-((0:Nat):Int)=Builtin.Range.rangeSize lo hi 1:=by rw[rangeSize_one];split <;> lia
  show IsRangeIter _ _ (lo+((0:Nat):Int)*1) ((((hi-lo).toNat:Nat):Int)-((0:Nat):Int)) 1;rw[e1,e2];exact Heap.get?_push_size _ rfl
 ·have e:b=(s.heap.push { cls:=.type "range",data:=.fields #[.int lo t,.int hi u,.int 1 v] }).objs.size:=by simpa using hb
  subst e;exact I1.fpOk (Nat.le_refl _) (I1.hok.fresh (Nat.le_refl _))
def Zlc(ta:TA):TI:=fun σ H R=>ta σ H fun vs H1=>∃j:Int,vs=[.int j] /\ -(2 ^ 62)<=j/\j<2 ^ 62/\R (Itr 0 j.toNat) H1
theorem ZaY{a:Expr}{ta:TA}{p pos:Pos}(hg:Gl X "range") (hm:X.mg "range" = none) (ha:PA X [a] ta) (hs:starEach [a] X.env=[(false,eval a X.env)]:=by rfl):PI X tg (.Call (.Name "range" p) [a] [] pos) (Zlc ta):=by
 intro pins s σ H R I h;refine Call_ (Zbp I hg hm boot_range (PyProof.Rows.callWith_type1 (thn (ha pos pins s σ H _ I h) fun us s1 ⟨vs,H1,I1,r1,q1⟩=>?_) hs rfl));obtain⟨j,e,q1,q2,q⟩:=q1;subst e;cases r1 with
 | cons r rr =>
  cases rr;obtain⟨t,rfl⟩:=r;exact call_range_1 (ZiQ I1 (by lia) (by lia) q1 q2 (by simpa using q))
def Zmd(wi:TI)(g:TG)(tb:TS):TS:=fun D σ H=>wi σ H fun J H1=>∃W:Nat->Nat->St->Hp->Prop,(∃m,W 0 m σ H1)/\∀i m σ H,W i m σ H ->
 (J.stop i H/\D.nx σ H)\/(J.go i H/\∃N:St->Hp->Prop,(∀ σ' H',N σ' H'->∃m',m'<m/\W (i+1) m' σ' H')/\∀x H',J.yld i H x H'->g x σ H' fun σ2 H2=>tb { D with nx:=N,ct:=N,bk:=D.nx } σ2 H2)
def Zgb(fp:List Addr)(h:Heap):List (Addr×Obj):=fp.filterMap fun b=>(h.get? b).map fun o=>(b,o)
theorem Zas{fp:List Addr}{h:Heap}{b:Addr}{o:Obj}(hb:b∈fp)(e:h.get? b=some o):(b,o)∈Zgb fp h:=List.mem_filterMap.mpr ⟨b,hb,by rw[e];rfl⟩
theorem ZhZ{fp:List Addr}{h:Heap}{p:Addr×Obj}(hp:p∈Zgb fp h):p.1∈fp/\h.get? p.1=some p.2:=by
 obtain⟨b,hb,e⟩:=List.mem_filterMap.mp hp;cases q:h.get? b with
 | none=>rw[q] at e;cases e
 | some o =>
  rw[q] at e;have e':(b,o)=p:=Option.some.inj e;subst e';exact⟨hb,q⟩
theorem Inv.pinned{pins:List (Addr×Obj)}{σ : St}{H:Hp}{s:Shared}{fp:List Addr}(I:Inv X pins σ H s)(hf:∀b∈fp,ZeH X pins H b)(ho:∀b∈fp,∃o,s.heap.get? b=some o/\∀v,o.data ≠ .cell v):Inv X (pins++Zgb fp s.heap) σ H s :=
 I.pins_of fun p hp=>(List.mem_append.mp hp).elim (fun z=>I.pin p (List.mem_append_right _ z)) fun z=>by
  obtain⟨hb,e⟩:=ZhZ z;obtain⟨f0,f1,f2,_⟩:=hf p.1 hb;obtain⟨o,e',d⟩:=ho p.1 hb;rw[e] at e';cases e';exact⟨e,f0,f1,f2,d⟩
theorem Inv.unpinned{pins pl:List (Addr×Obj)}{σ : St}{H:Hp}{s:Shared}(I:Inv X (pins++pl) σ H s):Inv X pins σ H s:=I.pins_of fun p hp=>I.pin p (List.mem_append_right _ (List.mem_append_left _ hp))
theorem ZaP{iter:Expr}{body:List Stmt}{wi:TI}{g:TG}{tb:TS}{pos:Pos}(hp:PassesOwn (model X.prog X.w) X.A X.env X.xe)(hc:X.calm=true)(hi:PI X tg iter wi)(hg:PG X tg g)(hb:PSs X body tb)
  (hs:∀x,foldedSetIterable iter X.env x=pure x:=by intro _;rfl):PS X (.For tg iter body [] pos) (Zmd wi g tb):=by
 intro pins s σ H D I h;refine wpAny_For (thn (hi pins s σ H _ I h) fun v s1 h1=>thn h1 fun itv s2 h2=>?_) hs;obtain⟨it,fp,tn,J,H2,e,I2,T,st2,f2,W,⟨m0,w0⟩,turn⟩:=h2;subst e;have stat:∀{H':Hp},(∀b∈fp,H' b=none)->∀b∈fp,ZeH X pins H' b:=fun hn b hb=>⟨hn b hb,(f2 b hb).2⟩;refine codeAny_forLoop_any (fun n s'=>∃i σ' H',Inv X pins σ' H' s'/\tn i s'.heap/\(∀b∈fp,H' b=none)/\W i n σ' H') ?_ m0 ⟨0,σ,H2,I2,st2,fun b hb=>(f2 b hb).1,w0⟩;rintro n s3 ⟨i,σ3,H3,I3,st3,fr3,w3⟩;rcases turn i n σ3 H3 w3 with⟨stop,qn⟩|⟨go,N,hN,step⟩
 ·refine wpAny_passesOwn hp (thn (T.done X rfl rfl rfl hc i pins s3 σ3 H3 X.xe I3 (stat fr3) st3 stop) fun r s4 ⟨hr,I4⟩=>?_);subst hr;exact wpAny_execs_nil ⟨σ3,H3,I4,qn⟩
 ·refine wpAny_passesOwn hp (thn (T.item X rfl rfl rfl hc i pins s3 σ3 H3 X.xe I3 (stat fr3) st3 go) fun r s4 ⟨u,hr,h4⟩=>?_);subst hr;refine wpAny_passesOwn hp (thn h4 fun _ s5 ⟨x,H5,I5,r5,y5,st5,fr5⟩=>?_);have I5':=I5.pinned (stat fr5) (T.obj _ _ st5);refine wpAny_passesOwn hp (thn (hg _ s5 σ3 H5 x u _ I5' r5 (step x H5 y5)) fun _ s6 ⟨σ6,H6,I6,q6⟩=>?_);refine wpAny_passesOwn hp (thn (hb _ s6 σ6 H6 _ I6 q6) fun f s7 q7=>?_);have again:∀{σ7:St}{H7:Hp},Inv X (pins++Zgb fp s5.heap) σ7 H7 s7->N σ7 H7->∃m,m<n/\∃i σ' H',Inv X pins σ' H' s7/\tn i s7.heap/\(∀b∈fp,H' b=none)/\W i m σ' H':=fun{σ7 H7} I7 n7=>by
   obtain⟨m',hm,w7⟩:=hN σ7 H7 n7;refine⟨m',hm,i+1,σ7,H7,I7.unpinned,T.keep _ _ _ st5 fun b hb o e=>(I7.pin (b,o) (List.mem_append_right _ (List.mem_append_right _ (Zas hb e)))).1,fun b hb=>?_,w7⟩;obtain⟨o,e,d⟩:=T.obj _ _ st5 b hb;exact(I7.pin (b,o) (List.mem_append_right _ (List.mem_append_right _ (Zas hb e)))).2.1
  cases f with
  | next=>obtain⟨σ7,H7,I7,n7⟩:=q7;exact again I7 n7
  | cont=>obtain⟨σ7,H7,I7,n7⟩:=q7;exact again I7 n7
  | brk=>obtain⟨σ7,H7,I7,q7⟩:=q7;exact⟨σ7,H7,I7.unpinned,q7⟩
  | ret v=>obtain⟨x7,σ7,H7,I7,r7,q7⟩:=q7;exact⟨x7,σ7,H7,I7.unpinned,r7,q7⟩
end
theorem Zbo{K:PySem.W.Frag}{a:Addr}{xs:List V}{g:TG}{tb:TS}{D:Ends}{σ : St}{H:Hp}(Pv:Nat->St->Hp->Prop)(h0:Pv 0 σ H)(hl:∀i σ H,i<=xs.length->Pv i σ H->SqL K H a xs)
  (hs:∀i x σ H,xs[i]?= some x->Pv i σ H->g x σ H fun σ2 H2=>tb { D with nx:=Pv (i+1),ct:=Pv (i+1),bk:=D.nx } σ2 H2) (hd:∀ σ H,Pv xs.length σ H->D.nx σ H) :
  ∃W:Nat->Nat->St->Hp->Prop,(∃m,W 0 m σ H)/\∀i m σ H,W i m σ H ->
   ((Itl K a).stop i H/\D.nx σ H)\/((Itl K a).go i H/\∃N:St->Hp->Prop,(∀ σ' H',N σ' H'->∃m',m'<m/\W (i+1) m' σ' H')/\∀x H',(Itl K a).yld i H x H'->g x σ H' fun σ2 H2=>tb { D with nx:=N,ct:=N,bk:=D.nx } σ2 H2):=by
 refine⟨fun i m σ H=>m=xs.length-i/\i<=xs.length/\Pv i σ H,⟨xs.length,by simp,Nat.zero_le _,h0⟩,?_⟩;rintro i m σ H ⟨rfl,hi,p⟩;have q:=hl i σ H hi p;by_cases hlt:i<xs.length
 ·refine .inr ⟨⟨xs,xs[i],q,by simp[hlt]⟩,Pv (i+1),fun σ' H' p'=>⟨xs.length-(i+1),by lia,rfl,hlt,p'⟩,fun x H' y=>?_⟩;obtain⟨e,y⟩:=y;subst e;exact hs i x σ _ (y xs q) p
 ·have e:i=xs.length:=by lia
  subst e;exact .inl ⟨⟨xs,q,Nat.le_refl _⟩,hd σ H p⟩
theorem Zeh{K:PySem.W.Frag}{a:Addr}{xs:List V}{g:TG}{tb:TS}{D:Ends}{σ : St}{H:Hp}(Pv:Nat->St->Hp->Prop)(h0:Pv 0 σ H)(hl:∀i σ H,i<=xs.length->Pv i σ H->SqT K H a xs)
  (hs:∀i x σ H,xs[i]?= some x->Pv i σ H->g x σ H fun σ2 H2=>tb { D with nx:=Pv (i+1),ct:=Pv (i+1),bk:=D.nx } σ2 H2) (hd:∀ σ H,Pv xs.length σ H->D.nx σ H) :
  ∃W:Nat->Nat->St->Hp->Prop,(∃m,W 0 m σ H)/\∀i m σ H,W i m σ H ->
   ((Itt K a).stop i H/\D.nx σ H)\/((Itt K a).go i H/\∃N:St->Hp->Prop,(∀ σ' H',N σ' H'->∃m',m'<m/\W (i+1) m' σ' H')/\∀x H',(Itt K a).yld i H x H'->g x σ H' fun σ2 H2=>tb { D with nx:=N,ct:=N,bk:=D.nx } σ2 H2):=by
 refine⟨fun i m σ H=>m=xs.length-i/\i<=xs.length/\Pv i σ H,⟨xs.length,by simp,Nat.zero_le _,h0⟩,?_⟩;rintro i m σ H ⟨rfl,hi,p⟩;have q:=hl i σ H hi p;by_cases hlt:i<xs.length
 ·refine .inr ⟨⟨xs,xs[i],q,by simp[hlt]⟩,Pv (i+1),fun σ' H' p'=>⟨xs.length-(i+1),by lia,rfl,hlt,p'⟩,fun x H' y=>?_⟩;obtain⟨e,y⟩:=y;subst e;exact hs i x σ _ (y xs q) p
 ·have e:i=xs.length:=by lia
  subst e;exact .inl ⟨⟨xs,q,Nat.le_refl _⟩,hd σ H p⟩
theorem Zbt{lo:Int}{n:Nat}{g:TG}{tb:TS}{D:Ends}{σ : St}{H:Hp}(Pv:Nat->St->Hp->Prop)(h0:Pv 0 σ H)
  (hs:∀i σ H,i<n->Pv i σ H->g (.int (lo+i)) σ H fun σ2 H2=>tb { D with nx:=Pv (i+1),ct:=Pv (i+1),bk:=D.nx } σ2 H2) (hd:∀ σ H,Pv n σ H->D.nx σ H) :
  ∃W:Nat->Nat->St->Hp->Prop,(∃m,W 0 m σ H)/\∀i m σ H,W i m σ H ->
   ((Itr lo n).stop i H/\D.nx σ H)\/((Itr lo n).go i H/\∃N:St->Hp->Prop,(∀ σ' H',N σ' H'->∃m',m'<m/\W (i+1) m' σ' H')/\∀x H',(Itr lo n).yld i H x H'->g x σ H' fun σ2 H2=>tb { D with nx:=N,ct:=N,bk:=D.nx } σ2 H2):=by
 refine⟨fun i m σ H=>m=n-i/\i<=n/\Pv i σ H,⟨n,by simp,Nat.zero_le _,h0⟩,?_⟩;rintro i m σ H ⟨rfl,hi,p⟩;by_cases hlt:i<n
 ·refine .inr ⟨hlt,Pv (i+1),fun σ' H' p'=>⟨n-(i+1),by lia,rfl,hlt,p'⟩,fun x H' y=>?_⟩;obtain⟨e,y⟩:=y;subst e y;exact hs i σ _ hlt p
 ·have e:i=n:=by lia
  subst e;exact .inl ⟨Nat.le_refl _,hd σ H p⟩
abbrev R2:=V->V->Hp->VK->Prop
def OpR(X:Cx)(f:Value->Value->Sem Value)(r:R2):Prop :=
 ∀(pins:List (Addr×Obj))(s:Shared)(σ : St)(H:Hp)(x y:V)(v u:Value)(Q:VK),Inv X pins σ H s->RelV x v->RelV y u->r x y H Q ->
  wpAny (model X.prog X.w) X.A (f v u) (EP X pins σ Q) X.xe s
def UnR(X:Cx)(f:Value->Sem Value)(r:V->Hp->VK->Prop):Prop :=
 ∀(pins:List (Addr×Obj))(s:Shared)(σ : St)(H:Hp)(x:V)(v:Value)(Q:VK),Inv X pins σ H s->RelV x v->r x H Q ->
  wpAny (model X.prog X.w) X.A (f v) (EP X pins σ Q) X.xe s
def Zb2(X:Cx)(f:Value)(r:List V->Hp->VK->Prop):Prop :=
 ∀(pins:List (Addr×Obj))(s:Shared)(σ : St)(H:Hp)(xs:List V)(us:List Value)(Q:VK),Inv X pins σ H s->Vals xs us->r xs H Q ->
  wpAny (model X.prog X.w) X.A (call f us) (EP X pins σ Q) X.xe s
def ZlZ(X:Cx)(r:V->Hp->(Bool->Hp->Prop)->Prop):Prop :=
 ∀(pins:List (Addr×Obj))(s:Shared)(σ : St)(H:Hp)(x:V)(v:Value)(Q:Bool->Hp->Prop),Inv X pins σ H s->RelV x v->r x H Q ->
  wpAny (model X.prog X.w) X.A (truthy v) (TP X pins σ Q) X.xe s
def tOp(r:R2)(ta tb:TE):TE:=fun σ H Q=>ta σ H fun x H1=>tb σ H1 fun y H2=>r x y H2 Q
def tUn(r:V->Hp->VK->Prop)(ta:TE):TE:=fun σ H Q=>ta σ H fun x H1=>r x H1 Q
def rI(C:Int->Int->Prop)(g:Int->Int->V):R2:=fun x y H Q=>∃i j,x=.int i/\y=.int j/\C i j/\Q (g i j) H
def rI0(g:Int->Int->V):R2:=fun x y H Q=>∃i j,x=.int i/\y=.int j/\Q (g i j) H
def rU(g:Int->V):V->Hp->VK->Prop:=fun x H Q=>∃i,x=.int i/\Q (g i) H
section
variable{X:Cx}{a b c:Expr}{ta tb tc:TE}{pos:Pos}
theorem Zla(ha:PE X a ta)(hb:PE X b tb){pins:List (Addr×Obj)}{s:Shared}{σ : St}{H:Hp}{R:V->V->Hp->Prop}(I:Inv X pins σ H s)
  (h:ta σ H fun x H1=>tb σ H1 fun y H2=>R x y H2) {Q:Value->Shared->Prop} {f:Value->Value->Sem Value}
  (hf:∀v u s2 x y H2,Inv X pins σ H2 s2->RelV x v->RelV y u->R x y H2->wpAny (model X.prog X.w) X.A (f v u) Q X.xe s2) :
  wpAny (model X.prog X.w) X.A (eval a X.env) (fun v s₁=>wpAny (model X.prog X.w) X.A (eval b X.env) (fun u s₂=>wpAny (model X.prog X.w) X.A (f v u) Q X.xe s₂) X.xe s₁) X.xe s:=by
 refine thn (ha pins s σ H _ I h) fun v s1 ⟨x,H1,I1,r1,q1⟩=>?_;refine thn (hb pins s1 σ H1 _ I1 q1) fun u s2 ⟨y,H2,I2,r2,q2⟩=>?_;exact hf v u s2 x y H2 I2 r1 r2 q2
theorem Zr{op:Operator}{r:R2}(ho:OpR X (binaryOp op) r)(ha:PE X a ta)(hb:PE X b tb):PE X (.BinOp a op b pos) (tOp r ta tb):=by
 intro pins s σ H Q I h;exact wpAny_BinOp (Zla ha hb I h fun v u s2 x y H2 I2 rx ry q=>ho pins s2 σ H2 x y v u Q I2 rx ry q)
theorem Zia{op:UnaryOp}{r:V->Hp->VK->Prop}(ho:UnR X (unaryOp op) r)(ha:PE X a ta):PE X (.UnaryOp op a pos) (tUn r ta):=by
 intro pins s σ H Q I h;exact UnaryOp_ (thn (ha pins s σ H _ I h) fun v s1 ⟨x,H1,I1,r1,q1⟩=>ho pins s1 σ H1 x v Q I1 r1 q1)
theorem opI{f:Value->Value->Sem Value}{C:Int->Int->Prop}{g:Int->Int->Int}
  (rule:∀(i j:Int)(t u:Tok)(s:Shared)(Q:Value->Shared->Prop)(E:Value->Shared->Prop),C i j->Q (.int (g i j) s.toks) { s with toks:=s.toks+1 }->wpAny (model X.prog X.w) X.A (f (.int i t) (.int j u)) Q E s) :
  OpR X f (rI C fun i j=>.int (g i j)):=by
 intro pins s σ H x y v u Q I rx ry h;obtain⟨i,j,rfl,rfl,hc,q⟩:=h;obtain⟨t,rfl⟩:=rx;obtain⟨t',rfl⟩:=ry;exact rule i j t t' s _ _ hc ⟨.int (g i j),H,I.tok _,⟨_,rfl⟩,q⟩
theorem ZlL{f:Value->Value->Sem Value}{g:Int->Int->Int}
  (rule:∀(i j:Int)(t u:Tok)(s:Shared)(Q:Value->Shared->Prop)(E:Value->Shared->Prop),Q (.int (g i j) s.toks) { s with toks:=s.toks+1 }->wpAny (model X.prog X.w) X.A (f (.int i t) (.int j u)) Q E s) :
  OpR X f (rI0 fun i j=>.int (g i j)):=by
 intro pins s σ H x y v u Q I rx ry h;obtain⟨i,j,rfl,rfl,q⟩:=h;obtain⟨t,rfl⟩:=rx;obtain⟨t',rfl⟩:=ry;exact rule i j t t' s _ _ ⟨.int (g i j),H,I.tok _,⟨_,rfl⟩,q⟩
theorem ZlN{f:Value->Value->Sem Value}{g:Int->Int->Bool}
  (rule:∀(i j:Int)(t u:Tok)(s:Shared)(Q:Value->Shared->Prop)(E:Value->Shared->Prop),Q (.bool (g i j)) s->wpAny (model X.prog X.w) X.A (f (.int i t) (.int j u)) Q E s) :
  OpR X f (rI0 fun i j=>.bl (g i j)):=by
 intro pins s σ H x y v u Q I rx ry h;obtain⟨i,j,rfl,rfl,q⟩:=h;obtain⟨t,rfl⟩:=rx;obtain⟨t',rfl⟩:=ry;exact rule i j t t' s _ _ ⟨.bl (g i j),H,I,rfl,q⟩
def Zl6(i j:Int):Prop:=0<j/\j<1073741824
def Zk5(i j:Int):Prop:=(-(2 ^ 64)<i/\i<2 ^ 64)\/(-(2 ^ 64)<j/\j<2 ^ 64)
theorem Zk5.ok{i j:Int}(h:Zk5 i j):IntMulOk i j:=by
 rcases h with⟨h1,h2⟩|⟨h1,h2⟩
 ·exact .of_left (intBits_le_64 h1 h2)
 ·exact .of_right (intBits_le_64 h1 h2)
theorem Za3:OpR X (binaryOp .Add) (rI0 fun i j=>.int (i+j)):=ZlL fun _ _ _ _ _ _ _ q=>add_int q
theorem ZfM:OpR X (binaryOp .Sub) (rI0 fun i j=>.int (i-j)):=ZlL fun _ _ _ _ _ _ _ q=>sub_int q
theorem Zb3:OpR X (binaryOp .Mult) (rI Zk5 fun i j=>.int (i*j)):=opI fun _ _ _ _ _ _ _ hc q=>mul_int q hc.ok
theorem Zap:OpR X (binaryOp .FloorDiv) (rI Zl6 fun i j=>.int (i / j)):=opI fun i j _ _ _ _ _ hc q=>by
 have h1:(0:Int)<j:=hc.1;have h2:j<1073741824:=hc.2;exact floordiv_int (by lia) (by rw[Int.fdiv_eq_ediv_of_nonneg i (by lia)];exact q) (.inl (PyProof.noPylong_small (by lia)))
theorem ZS:OpR X (binaryOp .Mod) (rI (fun _ j=>0<j) fun i j=>.int (i % j)):=opI fun i j _ _ _ _ _ hc q=>by
 have h1:(0:Int)<j:=hc;exact mod_int' (by lia) (by rw[Int.fmod_eq_emod_of_nonneg i (by lia)];exact q)
theorem unI{f:Value->Sem Value}{g:Int->Int}
  (rule:∀(i:Int)(t:Tok)(s:Shared)(Q:Value->Shared->Prop)(E:Value->Shared->Prop),Q (.int (g i) s.toks) { s with toks:=s.toks+1 }->wpAny (model X.prog X.w) X.A (f (.int i t)) Q E s) :
  UnR X f (rU fun i=>.int (g i)):=by
 intro pins s σ H x v Q I rx h;obtain⟨i,rfl,q⟩:=h;obtain⟨t,rfl⟩:=rx;exact rule i t s _ _ ⟨.int (g i),H,I.tok _,⟨_,rfl⟩,q⟩
theorem Ze7:UnR X (unaryOp .USub) (rU fun i=>.int (-i)):=unI fun _ _ _ _ _ q=>neg_int q
end
def ZlD:V->V->Bool
 | .non,.non=>true | .non,.int _=>true | .int _,.non=>true | .non,.bl _=>true | .bl _,.non=>true | .non,.str _=>true | .str _,.non=>true
 | .int _,.int _=>true | .bl _,.bl _=>true | .str _,.str _=>true | .byt _,.byt _=>true
 | .int _,.str _=>true | .str _,.int _=>true | .bl _,.str _=>true | .str _,.bl _=>true
 | _,_=>false
def rEq:R2:=fun x y H Q=>ZlD x y=true/\Q (.bl (decide (x=y))) H
def rNe:R2:=fun x y H Q=>ZlD x y=true/\Q (.bl (!decide (x=y))) H
theorem Zir{i j:Int}:decide (V.int i=V.int j)=(i == j):=by
 rw[Bool.eq_iff_iff];simp
theorem Zjs{i j:Bool}:decide (V.bl i=V.bl j)=(i == j):=by
 rw[Bool.eq_iff_iff];simp
theorem Zih{i j:Str}:decide (V.str i=V.str j)=(i == j):=by
 rw[Bool.eq_iff_iff];simp
theorem Zhq{i j:Array UInt8}:decide (V.byt i=V.byt j)=(i.toList == j.toList):=by
 rw[Bool.eq_iff_iff];cases i;cases j;simp
section
variable{X:Cx}{a b c:Expr}{ta tb tc:TE}{pos:Pos}
theorem ZZ{pins:List (Addr×Obj)}{σ : St}{H:Hp}{s:Shared}{Q:VK}{k k':Bool}(I:Inv X pins σ H s)(q:Q (.bl k) H)(e:k=k'):EP X pins σ Q (.bool k') s:=by
 subst e;exact⟨.bl k,H,I,rfl,q⟩
theorem ZeB:OpR X (compareOp .Eq) rEq:=by
 intro pins s σ H x y v u Q I rx ry h;obtain⟨hs,q⟩:=h;cases x with
 | non =>
  cases rx;cases y with
  | non=>cases ry;exact PySem.EqNone.eq_none_none (ZZ I q (by simp))
  | bl j=>cases ry;exact PySem.EqNone.eq_none_bool (ZZ I q (by simp))
  | int j=>obtain⟨t',rfl⟩:=ry;exact PySem.EqNone.eq_none_int (ZZ I q (by simp))
  | str j=>obtain⟨t',rfl⟩:=ry;exact PySem.EqNone.eq_none_str (ZZ I q (by simp))
  | _=>exact absurd (show false=true from hs) Bool.false_ne_true
 | bl i =>
  cases rx;cases y with
  | non=>cases ry;exact PySem.EqNone.eq_bool_none (ZZ I q (by simp))
  | bl j=>cases ry;exact eq_bool (ZZ I q Zjs)
  | str j=>obtain⟨t',rfl⟩:=ry;exact PySem.EqMixed.eq_bool_str (ZZ I q (by simp))
  | _=>exact absurd (show false=true from hs) Bool.false_ne_true
 | int i =>
  obtain⟨t,rfl⟩:=rx;cases y with
  | non=>cases ry;exact PySem.EqNone.eq_int_none (ZZ I q (by simp))
  | int j=>obtain⟨t',rfl⟩:=ry;exact eq_int (ZZ I q Zir)
  | str j=>obtain⟨t',rfl⟩:=ry;exact PySem.EqMixed.eq_int_str (ZZ I q (by simp))
  | _=>exact absurd (show false=true from hs) Bool.false_ne_true
 | str i =>
  obtain⟨t,rfl⟩:=rx;cases y with
  | non=>cases ry;exact PySem.EqNone.eq_str_none (ZZ I q (by simp))
  | bl j=>cases ry;exact PySem.EqMixed.eq_str_bool (ZZ I q (by simp))
  | int j=>obtain⟨t',rfl⟩:=ry;exact PySem.EqMixed.eq_str_int (ZZ I q (by simp))
  | str j=>obtain⟨t',rfl⟩:=ry;exact eq_str (ZZ I q Zih)
  | _=>exact absurd (show false=true from hs) Bool.false_ne_true
 | byt i =>
  obtain⟨t,rfl⟩:=rx;cases y with
  | byt j=>obtain⟨t',rfl⟩:=ry;exact PySem.W.eq_bytes (ZZ I q Zhq)
  | _=>exact absurd (show false=true from hs) Bool.false_ne_true
 | _=>cases y <;> exact absurd (show false=true from hs) Bool.false_ne_true
theorem ZgU:OpR X (compareOp .NotEq) rNe:=by
 intro pins s σ H x y v u Q I rx ry h;obtain⟨hs,q⟩:=h;cases x with
 | non =>
  cases rx;cases y with
  | non=>cases ry;exact PySem.EqNone.ne_none_none (ZZ I q (by simp))
  | bl j=>cases ry;exact PySem.EqNone.ne_none_bool (ZZ I q (by simp))
  | int j=>obtain⟨t',rfl⟩:=ry;exact PySem.EqNone.ne_none_int (ZZ I q (by simp))
  | str j=>obtain⟨t',rfl⟩:=ry;exact PySem.EqNone.ne_none_str (ZZ I q (by simp))
  | _=>exact absurd (show false=true from hs) Bool.false_ne_true
 | bl i =>
  cases rx;cases y with
  | non=>cases ry;exact PySem.EqNone.ne_bool_none (ZZ I q (by simp))
  | bl j=>cases ry;exact ne_bool (ZZ I q (congrArg not Zjs))
  | str j=>obtain⟨t',rfl⟩:=ry;exact PySem.EqMixed.ne_bool_str (ZZ I q (by simp))
  | _=>exact absurd (show false=true from hs) Bool.false_ne_true
 | int i =>
  obtain⟨t,rfl⟩:=rx;cases y with
  | non=>cases ry;exact PySem.EqNone.ne_int_none (ZZ I q (by simp))
  | int j=>obtain⟨t',rfl⟩:=ry;exact ne_int (ZZ I q (congrArg not Zir))
  | str j=>obtain⟨t',rfl⟩:=ry;exact PySem.EqMixed.ne_int_str (ZZ I q (by simp))
  | _=>exact absurd (show false=true from hs) Bool.false_ne_true
 | str i =>
  obtain⟨t,rfl⟩:=rx;cases y with
  | non=>cases ry;exact PySem.EqNone.ne_str_none (ZZ I q (by simp))
  | bl j=>cases ry;exact PySem.EqMixed.ne_str_bool (ZZ I q (by simp))
  | int j=>obtain⟨t',rfl⟩:=ry;exact PySem.EqMixed.ne_str_int (ZZ I q (by simp))
  | str j=>obtain⟨t',rfl⟩:=ry;exact ne_str (ZZ I q (congrArg not Zih))
  | _=>exact absurd (show false=true from hs) Bool.false_ne_true
 | byt i =>
  obtain⟨t,rfl⟩:=rx;cases y with
  | byt j=>obtain⟨t',rfl⟩:=ry;exact PySem.W.ne_bytes (ZZ I q (congrArg not Zhq))
  | _=>exact absurd (show false=true from hs) Bool.false_ne_true
 | _=>cases y <;> exact absurd (show false=true from hs) Bool.false_ne_true
theorem Zka:OpR X (compareOp .Lt) (rI0 fun i j=>.bl (decide (i<j))):=ZlN fun _ _ _ _ _ _ _ q=>lt_int q
theorem Zll:OpR X (compareOp .Gt) (rI0 fun i j=>.bl (decide (j<i))):=ZlN fun _ _ _ _ _ _ _ q=>gt_int q
theorem Zao(b:Expr){op:CmpOp}(h:op ≠ .In:=by decide)(h2:op ≠ .NotIn:=by decide):behindInMarks op b=false:=by
 have e1:(op == CmpOp.In)=false:=by cases op <;> first|rfl|exact absurd rfl h
 have e2:(op == CmpOp.NotIn)=false:=by cases op <;> first|rfl|exact absurd rfl h2
 cases b <;> simp[behindInMarks,e1,e2]
theorem Zie{op:CmpOp}{r:R2}(ho:OpR X (compareOp op) r)(ha:PE X a ta)(hb:PE X b tb)(hm:behindInMarks op b=false):PE X (.Compare a [op] [b] pos) (tOp r ta tb):=by
 intro pins s σ H Q I h;exact wpAny_Compare1 (Zla ha hb I h fun v u s2 x y H2 I2 rx ry q=>ho pins s2 σ H2 x y v u Q I2 rx ry q) hm
def Zlh(t:TE):TT:=fun σ H Q=>t σ H fun x H'=>∃k,x=.bl k/\Q k H'
theorem Z0{op:CmpOp}{r:R2}(ho:OpR X (compareOp op) r)(ha:PE X a ta)(hb:PE X b tb)(hm:behindInMarks op b=false):PT X (.Compare a [op] [b] pos) (Zlh (tOp r ta tb)):=by
 intro pins s σ H Q I h;refine wpAny_isTrue_Compare1 (thn (ha pins s σ H _ I h) fun v s1 ⟨x,H1,I1,r1,q1⟩=>thn (hb pins s1 σ H1 _ I1 q1) fun u s2 ⟨y,H2,I2,r2,q2⟩ =>
  thn (ho pins s2 σ H2 x y v u _ I2 r1 r2 q2) fun c s3 ⟨z,H3,I3,r3,k,e,q3⟩=>?_) hm
 subst e;cases r3;exact wpAny_truthy_bool ⟨H3,I3,q3⟩
def Zk4(K:PySem.W.Frag)(x:V)(H:Hp)(k:Bool):Prop :=
 match x with
 | .non=>k=false
 | .bl b=>k=b
 | .int i=>k=(i != 0)
 | .str y=>y.length<=sizeLine/\k=((y.length:Int) != 0)
 | .byt y=>y.size<=sizeLine/\k=((y.size:Int) != 0)
 | .ref p=>(∃xs,SqL K H p xs/\k= !xs.isEmpty)\/(∃xs,SqT K H p xs/\k= !xs.isEmpty)\/∃kvs,H p=some (.dK kvs)/\k= !kvs.isEmpty
 | _=>False
theorem ZgT{κ : Type}{kvs:List (κ × V)}{vs:List (κ × Value)}(r:KV kvs vs):(!vs.isEmpty)= !kvs.isEmpty:=by
 cases r <;> rfl
theorem ZdG{xs:List V}{its:List Value}(r:Vals xs its):(!its.toArray.isEmpty)= !xs.isEmpty:=by
 cases r <;> simp
theorem ZdI:(sizeLine:Nat)<2 ^ 63:=by rw[sizeLine_eq];decide
theorem ZkO:ZlZ X (fun x H Q=>∃k,Zk4 X.K x H k/\Q k H):=by
 intro pins s σ H x v Q I rx h;obtain⟨k,e,q⟩:=h;have hl:=ZdI;have hs:sizeLine=16777216:=sizeLine_eq;cases x with
 | non =>
  cases rx;have e':k=false:=e;subst e';exact truthy_none ⟨H,I,q⟩
 | bl b =>
  cases rx;have e':k=b:=e;subst e';exact wpAny_truthy_bool ⟨H,I,q⟩
 | int i =>
  obtain⟨t,rfl⟩:=rx;have e':k=(i != 0):=e;subst e';exact PySem.P.truthy_int ⟨H,I,q⟩
 | str y =>
  obtain⟨t,rfl⟩:=rx;obtain⟨hy,e'⟩:y.length<=sizeLine/\k=((y.length:Int) != 0):=e;subst e';exact PySem.P.truthy_str (by lia) ⟨H,I.tok _,q⟩
 | byt y =>
  obtain⟨t,rfl⟩:=rx;obtain⟨hy,e'⟩:y.size<=sizeLine/\k=((y.size:Int) != 0):=e;subst e';exact PySem.W.truthy_bytes (by lia) ⟨H,I.tok _,q⟩
 | ref p =>
  cases rx;have e':(∃xs,SqL X.K H p xs/\k= !xs.isEmpty)\/(∃xs,SqT X.K H p xs/\k= !xs.isEmpty)\/∃kvs,H p=some (.dK kvs)/\k= !kvs.isEmpty:=e;rcases e' with⟨xs,hx,e'⟩|⟨xs,hx,e'⟩|⟨kvs,hx,e'⟩
  ·subst e';obtain⟨its,r,pl,hz⟩:=I.list hx;have hlen:=r.length;exact wpAny_truthy_list pl.isList (by simp only[List.size_toArray];lia) ⟨H,I.tok _,by rw[ZdG r];exact q⟩
  ·subst e';obtain⟨its,r,pl,hz⟩:=I.tuple hx;have hlen:=r.length;exact truthy_tuple pl (by simp only[List.size_toArray];lia) ⟨H,I.tok _,by rw[ZdG r];exact q⟩
  ·subst e';obtain⟨hz,hS,vs,r,m⟩:kvs.length<=sizeLine/\(p == sysModules)=false/\∃vs,KV kvs vs/\s.heap.DictOf (Zn X.prog X.w) p vs:=I.hok p _ hx;have hlen:kvs.length=vs.length:=Paired.length r;exact wpAny_truthy_dict hS m (by lia) ⟨H,I.tok _,by rw[ZgT r];exact q⟩
 | _=>exact(show False from e).elim
theorem ZP(ha:PE X a ta)(he:∀whole,isTrue a X.env whole=(do let v <- whole;standAt a.pos;holding [v] (truthy v))) :
  PT X a (fun σ H Q=>ta σ H fun x H'=>∃k,Zk4 X.K x H' k/\Q k H'):=by
 intro pins s σ H Q I h;exact isTrue_plain (thn (ha pins s σ H _ I h) fun v s1 ⟨x,H1,I1,r1,q1⟩=>ZkO pins s1 σ H1 x v Q I1 r1 q1) (he _)
theorem ZbG:OpR X (binaryOp .Add) (fun x y H Q=>∃i j,x=.str i/\y=.str j/\i.length+j.length<=sizeLine/\Q (.str (i++j)) H):=by
 intro pins s σ H x y v u Q I rx ry h;obtain⟨i,j,rfl,rfl,hz,q⟩:=h;obtain⟨t,rfl⟩:=rx;obtain⟨t',rfl⟩:=ry;exact add_str (fun t' tk=>⟨.str (i++j),H,I.tok _,⟨_,rfl⟩,q⟩) hz
theorem vals1{x:V}{us:List Value}(r:Vals [x] us):∃u,us=[u]/\RelV x u:=by
 cases r with
 | cons r1 r2=>cases r2;exact⟨_,rfl,r1⟩
theorem vals2{x y:V}{us:List Value}(r:Vals [x,y] us):∃u w',us=[u,w']/\RelV x u/\RelV y w':=by
 cases r with
 | cons r1 r2 =>
  cases r2 with
  | cons r3 r4=>cases r4;exact⟨_,_,rfl,r1,r3⟩
theorem Zid(hc:X.calm=true):Zb2 X (.builtin "max") (fun xs H Q=>∃i j,xs=[.int i,.int j]/\Q (.int (if j > i then j else i)) H):=by
 intro pins s σ H xs us Q I r h;obtain⟨i,j,rfl,q⟩:=h;obtain⟨u,w',rfl,⟨t,rfl⟩,⟨t',rfl⟩⟩:=vals2 r;refine max_two_ints (I.ok.hd hc) fun h' tk k=>⟨_,H,I.kept k,?_,q⟩;by_cases hj:j > i
 ·rw[if_pos hj,if_pos hj];exact⟨_,rfl⟩
 ·rw[if_neg hj,if_neg hj];exact⟨_,rfl⟩
end
structure ObjM(h:Heap)(x dx C:Addr)(mA:Str->Option Value):Prop where
 obj:h.get? x=some (PySem.W.instObj C dx)
 ns:h.Ns1 dx mA
 ne:dx≠x
theorem ZhJ{h:Heap}{dx:Addr}{mA:Str->Option Value}(n:h.Ns1 dx mA):∃od,h.get? dx=some od/\∀name,PySem.W.lookIn name od=some (mA name):=by
 obtain⟨o,es,ep,ho,hd,hk,_,hm⟩:=n;refine⟨o,ho,fun name=>?_⟩;have e:=hm name;unfold nsFind findBy at e;rw[<- Array.find?_toList] at e;unfold PySem.W.lookIn;rw[hd];dsimp only
 split
 ·rename_i y q
  rw[q] at e;exact congrArg some e
 ·rename_i q
  rw[q] at e;have a:es.toList.any (·.refKey)=false:=by
   rw[List.any_eq_false];intro y hy;obtain⟨z,t,hkey⟩:=hk y (Array.mem_toList_iff.mp hy);simp[DictEntry.refKey,hkey]
  have a' : ¬ es.toList.any (·.refKey)=true:=by rw[a];exact Bool.false_ne_true
  rw[if_neg a'];exact congrArg some e
theorem ObjM.look{h:Heap}{x dx C:Addr}{mA:Str->Option Value}(I:ObjM h x dx C mA):∃od,PySem.W.InstAt h x (PySem.W.instObj C dx) C (some od)/\∀name,PySem.W.lookIn name od=some (mA name) :=
 let ⟨od,ho,hl⟩:=ZhJ I.ns
 ⟨od,⟨I.obj,rfl,rfl,ho⟩,hl⟩
section
variable{prog:Program}{w:World}{A:Around}{E:Value->Shared->Prop}{s:Shared}{K:PySem.W.Frag}{x dx C f:Addr}{mA:Str->Option Value}{name:Str}{v:Value}
theorem ZjN{expr:Bool}{Q:Value->Shared->Prop}(X:K.In s.heap)(I:ObjM s.heap x dx C mA)(hg:PySem.W.plainGet K C name=true)(hh:PySem.W.hasDictIn K C=true)
  (ha:PySem.W.findIn K (.ref C) name=some none) (hv:mA name=some v) (hv':PySem.W.handedIn v=true) (h:Q v { s with toks:=s.toks+1 }) :
  wpAny (model prog w) A (getAttr (.ref x) name expr) Q E s:=by
 obtain⟨od,J,hl⟩:=I.look;exact PySem.W.get_value X J (PySem.W.plainGet_of hg).1 (PySem.W.findObj_own hh ha rfl (by rw[hl,hv])) hv' h
theorem ZiY{pl:Sem Bool}{Q:Value×List Value->Shared->Prop}(X:K.In s.heap)(I:ObjM s.heap x dx C mA)(hg:PySem.W.plainGet K C name=true)
  (hf:PySem.W.findIn K (.ref C) name=some (some (.ref f))) (ht:PySem.W.isFn K (.ref f)=true) (hv:mA name=none) (h:Q (.ref f,[.ref x]) s) :
  wpAny (model prog w) A (getMethod (.ref x) name pl) Q E s:=by
 obtain⟨od,J,hl⟩:=I.look;exact PySem.W.method_fn X J (PySem.W.plainGet_of hg).1 (PySem.W.plainGet_of hg).2 hf (beq_iff_eq.mp ht) (by show(PySem.W.lookIn name od).map (·.isSome)=some false;rw[hl,hv];rfl) h
theorem Zj8{ns:List Str}{Q:Unit->Shared->Prop}(X:K.In s.heap)(I:ObjM s.heap x dx C mA)
  (hs:PySem.W.findIn K (.ref C) "__setattr__" = some (some (.builtin "object.__setattr__"))) (hp:PySem.W.plainOver K C=true) (ht:PySem.W.takerIn K C name=some none) (hh:PySem.W.hasDictIn K C=true)
  (hw:PySem.Within mA ns) (hsz:ns.length<=sizeLine)
  (h:∀h',ObjM h' x dx C (fun y=>if y=name then some v else mA y)->Heap.SameBut dx s.heap h'->Q () { s with heap:=h',toks:=s.toks+2 }) :
  wpAny (model prog w) A (setAttr (.ref x) name v) Q E s:=by
 obtain⟨od,J,hl⟩:=I.look;refine PySem.W.set_plain X J hs (PySem.W.osa_open (s:={ s with toks:=s.toks+1 }) (r:=none) X J hp ht fun b=>?_);obtain⟨cd,hc,hd'⟩:=PySem.W.any_some hh;have hx:s.heap.get? x=some ⟨.ref C,some dx,.plain,#[]⟩:=I.obj;refine wpAny_bind (wpAny_pure (wpAny_bind (wpAny_bind (wpAny_loadPart hx (wpAny_bind (PySem.W.Looks.here (s:={ s with toks:=s.toks+1 }) (PySem.W.looks_clsIn X hc) ?_))))));rw[hd'];refine wpAny_pure (a:=some dx) (wpAny_bind (wpAny_pure (wpAny_bind ?_)));refine wpAny_nsSet1 (s:={ s with toks:=s.toks+1 }) I.ns fun h' hn2 hs2=>?_;obtain⟨oD,esD,epD,hoD,hdD,hcD⟩:=hn2.count (PySem.Within.cons name v hw);refine wpAny_bind (wpAny_lookBehind hoD (by rw[hdD];exact pastItsLine_dict (Nat.le_trans hcD (by rw[List.length_cons];lia))) ?_);exact wpAny_pure (h _ ⟨(hs2.2 _ (Ne.symm I.ne)).trans I.obj,hn2,I.ne⟩ hs2)
theorem Zi3{R:Result->Shared->Prop}{vs:List Value}{kw:List (Str×Value)}(X:K.In s.heap)(hm:PySem.W.makesIn K C=true)
  (hi:PySem.W.findIn K (.ref C) "__init__" = some (some (.ref f))) (hf:PySem.W.typeIn K (.ref f)=some (.type "function"))
  (h:codeAny (model prog w) (A.under (.builtin "type.__call__" ⟨.ref C::vs,kw⟩)) (.call (.ref f) ⟨.ref (s.heap.objs.size+1)::vs,kw⟩) (PySem.W.InitBack (s.heap.objs.size+1) R)
   { s with heap:=(s.heap.push PySem.W.emptyDict).push (PySem.W.instObj C s.heap.objs.size) }) :
  codeAny (model prog w) A (.call (.ref C) ⟨vs,kw⟩) R s:=by
 obtain⟨hh,g,d,t,os⟩:=s;exact PySem.W.make_core (PySem.W.makes_of X hm) (PySem.W.looks_findIn X hi) (fun self=>PySem.W.bind_fn X self hf) (.inl rfl) h
end
def ZbM(f:Str)(v:V):List (Str×V)->List (Str×V)
 | []=>[(f,v)]
 | (g,x)::r=>if g=f then(g,v)::r else(g,x)::ZbM f v r
theorem Zde(f g:Str)(v:V):∀fs:List (Str×V),(ZbM f v fs).lookup g=if g=f then some v else fs.lookup g
 | []=>by
  show List.lookup g [(f,v)]=_;by_cases h:g=f
  ·have hb:(g == f)=true:=beq_iff_eq.mpr h;simp only[List.lookup,hb,if_pos h]
  ·have hb:(g == f)=false:=beq_eq_false_iff_ne.mpr h;simp only[List.lookup,hb,if_neg h]
 | (k,x)::r=>by
  have ih:=Zde f g v r;rw[show ZbM f v ((k,x)::r)=(if k=f then(k,v)::r else(k,x)::ZbM f v r) from rfl]
  by_cases hk:k=f
  ·rw[if_pos hk];by_cases h:g=k
   ·have hb:(g == k)=true:=beq_iff_eq.mpr h;simp only[List.lookup,hb,if_pos (h.trans hk)]
   ·have hb:(g == k)=false:=beq_eq_false_iff_ne.mpr h;simp only[List.lookup,hb,if_neg (fun e:g=f=>h (e.trans hk.symm))]
  ·rw[if_neg hk];by_cases h:g=k
   ·have hb:(g == k)=true:=beq_iff_eq.mpr h;simp only[List.lookup,hb,if_neg (fun e:g=f=>hk (h.symm.trans e))]
   ·have hb:(g == k)=false:=beq_eq_false_iff_ne.mpr h;simp only[List.lookup,hb];exact ih
theorem Zdg(f:Str)(v:V):∀fs:List (Str×V),f∈(ZbM f v fs).map (·.1)/\∀g,g∈fs.map (·.1)->g∈(ZbM f v fs).map (·.1)
 | []=>⟨by simp[ZbM],fun g h=>by simp at h⟩
 | (k,x)::r=>by
  obtain⟨i1,i2⟩:=Zdg f v r;rw[show ZbM f v ((k,x)::r)=(if k=f then(k,v)::r else(k,x)::ZbM f v r) from rfl]
  by_cases hk:k=f
  ·rw[if_pos hk];subst hk;exact⟨by simp,fun g h=>by simpa using h⟩
  ·rw[if_neg hk];refine⟨?_,fun g h=>?_⟩
   ·rw[List.map_cons];exact List.mem_cons_of_mem _ i1
   ·rw[List.map_cons] at h ⊢;rcases List.mem_cons.mp h with e|e
    ·exact List.mem_cons.mpr (.inl e)
    ·exact List.mem_cons_of_mem _ (i2 g e)
theorem Zdi(f:Str)(v:V):∀fs:List (Str×V),(ZbM f v fs).length<=fs.length+1
 | []=>by simp[ZbM]
 | (k,x)::r=>by
  have ih:=Zdi f v r;rw[show ZbM f v ((k,x)::r)=(if k=f then(k,v)::r else(k,x)::ZbM f v r) from rfl]
  by_cases hk:k=f
  ·rw[if_pos hk,List.length_cons,List.length_cons];lia
  ·rw[if_neg hk,List.length_cons,List.length_cons];lia
theorem Zfh.some_of{v:V}{o:Option Value}(r:Zfh (some v) o):∃u,o=some u/\RelV v u:=by
 cases o with
 | none=>exact(show False from r).elim
 | some u=>exact⟨u,rfl,r⟩
theorem Zfh.none_of{o:Option Value}(r:Zfh none o):o=none:=by
 cases o with
 | none=>rfl
 | some u=>exact(show False from r).elim
theorem Zhx{v:V}{u:Value}(r:RelV v u):PySem.W.handedIn u=true:=by
 cases v with
 | non=>cases (show u=Value.none from r);rfl
 | bl b=>cases (show u=Value.bool b from r);rfl
 | int i=>obtain⟨t,e⟩:=(show ∃t,u=Value.int i t from r);cases e;rfl
 | str x=>obtain⟨t,e⟩:=(show ∃t,u=Value.str x t from r);cases e;rfl
 | byt b=>obtain⟨t,e⟩:=(show ∃t,u=Value.bytes b t from r);cases e;rfl
 | flt b=>obtain⟨t,e⟩:=(show ∃t,u=Value.float b t from r);cases e;rfl
 | ref a=>cases (show u=Value.ref a from r);rfl
 | ty n=>cases (show u=Value.type n from r);rfl
section
variable{P:Program}{w:World}{H H':Hp}{h h':Heap}{a C dx:Addr}{fs fs':List (Str×V)}
theorem ZbS(hok:HOk P w H h)(e:H a=some (.ins C dx fs)):∃mA,ObjM h a dx C mA/\(∀f,Zfh (fs.lookup f) (mA f))/\PySem.Within mA (fs.map (·.1))/\fs.length<=1000/\H dx=some (.own a):=by
 obtain⟨d,z,ne,ob,mA,n,r,q⟩:=(show Z4 P w H h a (.ins C dx fs) from hok a _ e);exact⟨mA,⟨ob,n,ne⟩,r,q,z,d⟩
end
structure Cls(K:PySem.W.Frag)(C:Addr):Prop where
 pg:PySem.W.plainGet K C Str.empty=true
 hd:PySem.W.hasDictIn K C=true
 po:PySem.W.plainOver K C=true
 sa:PySem.W.findIn K (.ref C) "__setattr__" = some (some (.builtin "object.__setattr__"))
theorem Cls.get{K:PySem.W.Frag}{C:Addr}(c:Cls K C)(f:Str):PySem.W.plainGet K C f=true:=c.pg
def Zbs(K:PySem.W.Frag)(C:Addr)(f:Str):Prop:=PySem.W.findIn K (.ref C) f=some none
theorem Zbs.taker{K:PySem.W.Frag}{C:Addr}{f:Str}(n:Zbs K C f):PySem.W.takerIn K C f=some none:=by
 unfold PySem.W.takerIn;rw[show PySem.W.findIn K (.ref C) f=some none from n];rfl
structure Meth(K:PySem.W.Frag)(C:Addr)(m:Str)(f:Addr):Prop where
 at_:PySem.W.findIn K (.ref C) m=some (some (.ref f))
 fn:PySem.W.isFn K (.ref f)=true
 kp:PySem.W.keepIn K (.ref f)=true
section
variable{X:Cx}{pins:List (Addr×Obj)}{σ : St}{H:Hp}{s:Shared}{a C dx:Addr}{fs:List (Str×V)}{f:Str}{v:V}{A:Around}{E:Value->Shared->Prop}
theorem ZgR{b:Bool}{Q:Value->Shared->Prop}(I:Inv X pins σ H s)(e:H a=some (.ins C dx fs))(c:Cls X.K C)(n:Zbs X.K C f)(l:fs.lookup f=some v)
  (h:∀u s',Inv X pins σ H s'->RelV v u->Q u s'):wpAny (model X.prog X.w) A (getAttr (.ref a) f b) Q E s:=by
 obtain⟨mA,O,r,_,_,_⟩:=ZbS I.hok e;obtain⟨u,hu,ru⟩:=Zfh.some_of (v:=v) (o:=mA f) (by rw[<- l];exact r f);exact ZjN I.kIn O (c.get f) c.hd n hu (Zhx ru) (h u _ (I.tok _) ru)
theorem ZdK{m:Str}{g:Addr}{pl:Sem Bool}{Q:Value×List Value->Shared->Prop}(I:Inv X pins σ H s)(e:H a=some (.ins C dx fs))(c:Cls X.K C)(k:Meth X.K C m g)(l:fs.lookup m=none)
  (h:Q (.ref g,[.ref a]) s):wpAny (model X.prog X.w) A (getMethod (.ref a) m pl) Q E s:=by
 obtain⟨mA,O,r,_,_,_⟩:=ZbS I.hok e;have hn:mA m=none:=Zfh.none_of (by rw[<- l];exact r m);exact ZiY I.kIn O (c.get m) k.at_ k.fn hn h
theorem ZgM{y:V}{u:Value}{Q:Unit->Shared->Prop}(I:Inv X pins σ H s)(e:H a=some (.ins C dx fs))(c:Cls X.K C)(n:Zbs X.K C f)(hl:fs.length<1000)(ry:RelV y u)
  (h:∀s',Inv X pins σ (upd H a (.ins C dx (ZbM f y fs))) s'->Q () s'):wpAny (model X.prog X.w) A (setAttr (.ref a) f u) Q E s:=by
 obtain⟨mA,O,r,wi,_,ho⟩:=ZbS I.hok e;have hz:(fs.map (·.1)).length<=sizeLine:=by rw[List.length_map,sizeLine_eq];lia
 refine Zj8 I.kIn O c.sa c.po n.taker c.hd wi hz fun h' O' sb=>h _ ?_;have hd:∃o,h'.get? dx=some o:=let ⟨o,_,_,e',_⟩:=O'.ns;⟨o,e'⟩;refine I.write (x:=a) (e:=dx) (by rw[e];exact True.intro) (.inr ho) (fun b q hb z=>(sb.2 b hb).trans z) hd ?_;refine⟨by rw[Zh O.ne];exact ho,?_,O.ne,O'.obj,_,O'.ns,fun g=>?_,fun g hg=>?_⟩
 ·have:=Zdi f y fs;lia
 ·show Zfh ((ZbM f y fs).lookup g) (if g=f then some u else mA g)
  rw[Zde];by_cases q:g=f
  ·rw[if_pos q,if_pos q];exact ry
  ·rw[if_neg q,if_neg q];exact r g
 ·by_cases q:g=f
  ·rw[q];exact(Zdg f y fs).1
  ·refine(Zdg f y fs).2 g (wi g fun z=>hg ?_);show(if g=f then some u else mA g)=none
   rw[if_neg q];exact z
theorem Inv.made(I:Inv X pins σ H s):Inv X pins σ (upd (upd H s.heap.objs.size (.own (s.heap.objs.size+1))) (s.heap.objs.size+1) (.ins C s.heap.objs.size []))
  { s with heap:=(s.heap.push PySem.W.emptyDict).push (PySem.W.instObj C s.heap.objs.size) }:=by
 have e1:(s.heap.push PySem.W.emptyDict).get? s.heap.objs.size=some PySem.W.emptyDict:=Heap.get?_push_size s.heap rfl;have e2:((s.heap.push PySem.W.emptyDict).push (PySem.W.instObj C s.heap.objs.size)).get? (s.heap.objs.size+1)=some (PySem.W.instObj C s.heap.objs.size):=by
  have:=Heap.get?_push_size (s.heap.push PySem.W.emptyDict) (o:=PySem.W.instObj C s.heap.objs.size) rfl
  rwa [Heap.size_push] at this
 have e3:(s.heap.push PySem.W.emptyDict).Ns s.heap.objs.size (fun _=>none):=⟨PySem.W.emptyDict,#[],_,e1,rfl,(fun e he=>absurd he (by simp)),fun _=>rfl⟩;have I1:=I.laid (a:=s.heap.objs.size) (o:=.own (s.heap.objs.size+1)) (h':=s.heap.push PySem.W.emptyDict) (t':=s.toks) (fun b u q=>Heap.get?_push_of_some _ q) (Nat.le_refl _) ⟨_,e1⟩;refine I1.laid (a:=s.heap.objs.size+1) (o:=.ins C s.heap.objs.size []) (t':=s.toks) (fun b u q=>Heap.get?_push_of_some _ q) (Nat.le_of_eq (Heap.size_push _ _)) ?_;have ne:s.heap.objs.size≠s.heap.objs.size+1:=Nat.ne_of_lt (Nat.lt_succ_self _);refine⟨by rw[Zh ne,Za],Nat.zero_le _,ne,e2,fun _=>none,(Heap.Ns1.of_empty e3).at fun o q=>Heap.get?_push_of_some _ q,fun _=>True.intro,fun y hy=>absurd rfl hy⟩
theorem ZjX{prog:Program}{w:World}{env:Env}{e:Expr}{f:Str}{pos:Pos}{s:Shared}{Q:Value->Shared->Prop}(hb:attributeBase e f env (eval e env)=eval e env)
  (h:wpAny (model prog w) A (eval e env) (fun o s₁=>wpAny (model prog w) A (getAttr o f true) Q E s₁) E s):wpAny (model prog w) A (eval (.Attribute e f pos) env) Q E s :=
 Attribute_any_ h (by rw[arm_eval_Attribute,hb])
end
def ZlC(K:PySem.W.Frag)(ta:TE)(f:Str):TE:=fun σ H Q=>ta σ H fun x H1=>∃a C dx fs v,x=.ref a/\H1 a=some (.ins C dx fs)/\Cls K C/\Zbs K C f/\fs.lookup f=some v/\Q v H1
def Zmc(K:PySem.W.Frag)(ta tv:TE)(f:Str):TS:=fun D σ H=>tv σ H fun y H1=>ta σ H1 fun x H2=>∃a C dx fs,x=.ref a/\H2 a=some (.ins C dx fs)/\Cls K C/\Zbs K C f/\fs.length<1000 /\
 D.nx σ (upd H2 a (.ins C dx (ZbM f y fs)))
section
variable{X:Cx}{o e value:Expr}{f:Str}{pos pos' tpos:Pos}{ta tv:TE}
theorem ZaM(he:PE X e ta)(hb:attributeBase e f X.env (eval e X.env)=eval e X.env):PE X (.Attribute e f pos) (ZlC X.K ta f):=by
 intro pins s σ H Q I h;refine ZjX hb (thn (he pins s σ H _ I h) fun u s1 ⟨x,H1,I1,rx,a,C,dx,fs,v,ex,ea,c,n,l,q⟩=>?_);subst ex;obtain rfl:u=Value.ref a:=rx;exact ZgR I1 ea c n l fun u' s2 I2 ru=>⟨v,H1,I2,ru,q⟩
theorem ZeY(ha:PE X o ta)(hv:PE X value tv)(hs:swapsWith value (some (.Attribute o f pos')) pos.line X.env=pure false):PS X (.Assign [.Attribute o f pos'] value pos) (Zmc X.K ta tv f):=by
 intro pins s σ H D I h;refine plainObj_wpAny_Assign_Attribute (thn (hv pins s σ H _ I h) fun u s1 ⟨y,H1,I1,ry,q⟩=>thn (ha pins s1 σ H1 _ I1 q) fun ov s2 ⟨x,H2,I2,rx,a,C,dx,fs,ex,ea,c,n,l,q2⟩=>?_) hs;subst ex;obtain rfl:ov=Value.ref a:=rx;exact ZgM I2 ea c n l ry fun s3 I3=>⟨σ,_,I3,q2⟩
end
section
variable{X:Cx}{pins:List (Addr×Obj)}{σ : St}{H:Hp}{s:Shared}{A:Around}{E:Value->Shared->Prop}{Q:Value->Shared->Prop}{c:Value}{b:Bool}
inductive TyOf(K:PySem.W.Frag)(H:Hp):V->Value->Prop where
 | non:TyOf K H .non (.type "NoneType")
 | bl (x:Bool):TyOf K H (.bl x) (.type "bool")
 | int (i:Int):TyOf K H (.int i) (.type "int")
 | str (x:Str):TyOf K H (.str x) (.type "str")
 | flt (x:UInt64):TyOf K H (.flt x) (.type "float")
 | lst {a:Addr} {xs:List V} (e:H a=some (.lst xs)):TyOf K H (.ref a) (.type "list")
 | frz {a:Addr} {o:Obj} {xs:List V} (e:H a=some (.frz o (.lst xs))):TyOf K H (.ref a) (.type "list")
 | tup {a:Addr} {xs:List V} (e:H a=some (.tup xs)):TyOf K H (.ref a) (.type "tuple")
 | dK {a:Addr} {kvs:List (Key×V)} (e:H a=some (.dK kvs)):TyOf K H (.ref a) (.type "dict")
 | dT {a:Addr} {kvs:List (List Key×V)} (e:H a=some (.dT kvs)):TyOf K H (.ref a) (.type "dict")
 | ins {a C dx:Addr} {fs:List (Str×V)} (e:H a=some (.ins C dx fs)) (cl:Cls K C) (ha:PySem.W.findIn K (.ref C) "__class__" = some (some (.builtin "object.__class__")))
   (hn:PySem.W.specialIn K (.builtin "object.__class__") "__get__" = some (some (.builtin "getset_descriptor.__get__"))) (htk:PySem.W.takesIn K (.builtin "object.__class__")=some true)
   (hm:PySem.W.mroIn K C (.type "object")=some true):TyOf K H (.ref a) (.ref C)
theorem Zhk{x:V}{u t:Value}(I:Inv X pins σ H s)(rx:RelV x u)(ty:TyOf X.K H x t)(e:PySem.W.kitOne X.K t c=some b)(h:∀tk,Q (.bool b) { s with toks:=tk }) :
  wpAny (model X.prog X.w) A (call (.builtin "isinstance") [u,c]) Q E s:=by
 cases ty with
 | non=>cases (show u=Value.none from rx);exact PySem.W.kia_one PySem.W.kitx_none I.kIn True.intro e (fun z=>nomatch z) h
 | bl y=>cases (show u=Value.bool y from rx);exact PySem.W.kia_one PySem.W.kitx_bool I.kIn True.intro e (fun z=>nomatch z) h
 | int i=>obtain⟨t,q⟩:=(show ∃t,u=Value.int i t from rx);cases q;exact PySem.W.kia_one PySem.W.kitx_int I.kIn True.intro e (fun z=>nomatch z) h
 | str y=>obtain⟨t,q⟩:=(show ∃t,u=Value.str y t from rx);cases q;exact PySem.W.kia_one PySem.W.kitx_str I.kIn True.intro e (fun z=>nomatch z) h
 | flt y=>obtain⟨t,q⟩:=(show ∃t,u=Value.float y t from rx);cases q;exact PySem.W.kia_one PySem.W.kitx_float I.kIn True.intro e (fun z=>nomatch z) h
 | @lst a xs ea =>
  cases (show u=Value.ref a from rx);obtain⟨_,_,n,_,h1⟩:=(show Z4 X.prog X.w H s.heap a (.lst xs) from I.hok a _ ea);exact PySem.W.kia_one PySem.W.kitx_list I.kIn ⟨_,h1,rfl⟩ e (fun z=>nomatch z) h
 | @frz a ob xs ea =>
  cases (show u=Value.ref a from rx);obtain⟨_,_,_,n,_,h1⟩:=(show Z4 X.prog X.w H s.heap a (.frz ob (.lst xs)) from I.hok a _ ea);exact PySem.W.kia_one PySem.W.kitx_list I.kIn ⟨_,h1,rfl⟩ e (fun z=>nomatch z) h
 | @tup a xs ea =>
  cases (show u=Value.ref a from rx);obtain⟨_,_,_,p⟩:=(show Z4 X.prog X.w H s.heap a (.tup xs) from I.hok a _ ea);obtain⟨o,h1,h2,_⟩:=p;exact PySem.W.kia_one PySem.W.kitx_tuple I.kIn ⟨o,h1,h2⟩ e (fun z=>nomatch z) h
 | @dK a kvs ea =>
  cases (show u=Value.ref a from rx);obtain⟨_,_,vs,_,p⟩:=(show Z4 X.prog X.w H s.heap a (.dK kvs) from I.hok a _ ea);obtain⟨o,es,ep,h1,h2,_⟩:=p;exact PySem.W.kia_one PySem.W.kitx_dict I.kIn ⟨o,h1,h2.1⟩ e (fun z=>nomatch z) h
 | @dT a kvs ea =>
  cases (show u=Value.ref a from rx);obtain⟨_,_,xs,_,o,es,ep,h1,h2,_⟩:=(show Z4 X.prog X.w H s.heap a (.dT kvs) from I.hok a _ ea);exact PySem.W.kia_one PySem.W.kitx_dict I.kIn ⟨o,h1,h2.1⟩ e (fun z=>nomatch z) h
 | @ins a C dx fs ea cl ha hn htk hm =>
  cases (show u=Value.ref a from rx);obtain⟨mA,O,_⟩:=ZbS I.hok ea;obtain⟨od,J,_⟩:=O.look;exact PySem.W.kia_one (PySem.W.kitx_own (cl.get _) cl.hd ha hn htk hm) I.kIn J e (fun z=>nomatch z) h
end
structure Room(k:Nat)(A:Around):Prop where
 hd:A.handled=none
 dp:A.depth+3*k+5<recursionLimit
 un:A.units+16*k+200<cLine
theorem Room.mono{j k:Nat}{A:Around}(r:Room k A)(h:j<=k):Room j A:=⟨r.hd,by have:=r.dp;lia,by have:=r.un;lia⟩
theorem Room.deeper{k:Nat}{A:Around}(r:Room (k+1) A)(env:Env):Room k (A.deeper env) :=
 ⟨r.hd,by have:=r.dp;show A.depth+1+3*k+5<_;lia,by have:=r.un;show A.units+3+16*k+200<_;lia⟩
theorem Zg1{A:Around}{C:Addr}{us:List Value}{kw:List (Str×Value)}:(A.under (.builtin "type.__call__" ⟨.ref C::us,kw⟩)).depth=A.depth+1:=by
 first|rfl|simp[Around.under,Code.weight,Code.isCreation,Code.isGuard,Code.isCaller,Code.frames,Code.isFrame,guardIds]
theorem ZgN{A:Around}{C:Addr}{us:List Value}{kw:List (Str×Value)}:(A.under (.builtin "type.__call__" ⟨.ref C::us,kw⟩)).units=A.units+1:=by
 first|rfl|simp[Around.under,Code.cUnits,Code.frames,Code.isFrame]
theorem Room.make{k:Nat}{A:Around}(r:Room (k+1) A)(C:Addr)(us:List Value)(kw:List (Str×Value)):Room k (A.under (.builtin "type.__call__" ⟨.ref C::us,kw⟩)) :=
 ⟨r.hd,by have:=r.dp;rw[Zg1];lia,by have:=r.un;rw[ZgN];lia⟩
theorem Room.depth{k:Nat}{A:Around}(r:Room k A):A.depth<recursionLimit:=by have:=r.dp;lia
def Zh7:TA:=fun _ H Q=>Q [] H
def ZdW(ta:TE)(tr:TA):TA:=fun σ H Q=>ta σ H fun x H1=>tr σ H1 fun xs H2=>Q (x::xs) H2
section
variable{X:Cx}{e:Expr}{es:List Expr}{te:TE}{t:TA}{pos:Pos}
theorem Zd:PA X [] Zh7:=fun _ _ _ _ H Q I h=>Calls.spliced_nil ⟨[],H,I,.nil,h⟩
theorem Zb(ha:PE X e te)(hr:PA X es t)(hs:starEach (e::es) X.env=(false,eval e X.env)::starEach es X.env:=by rfl):PA X (e::es) (ZdW te t):=by
 intro pos pins s σ H Q I h;rw[hs];show wpAny _ _ (spliced ((false,eval e X.env)::backTo pos (starEach es X.env))) _ _ s;refine Calls.spliced_cons (thn (ha pins s σ H _ I h) fun u s1 ⟨x,H1,I1,r1,q1⟩=>?_);exact thn (hr pos pins s1 σ H1 _ I1 q1) fun us s2 ⟨xs,H2,I2,r2,q2⟩=>⟨x::xs,H2,I2,.cons r1 r2,q2⟩
def Zkl(t:TA):TE:=fun σ H Q=>t σ H fun xs H1=>xs.length<=sizeLine/\∀p,H1 p=none->Q (.ref p) (upd H1 p (.tup xs))
def ZlF(t:TA):TE:=fun σ H Q=>t σ H fun xs H1=>xs.length<=sizeLine/\∀p,H1 p=none->Q (.ref p) (upd H1 p (.lst xs))
theorem ZaH{x1}(h:PA X es t):PE X (.Tuple es x1 pos) (Zkl t):=by
 intro pins s σ H Q I hq;refine wpAny_Tuple_spliced (thn (h pos pins s σ H _ I hq) fun us s1 ⟨xs,H1,I1,r,z,q⟩=>⟨by rw[<- r.length];exact z,?_⟩);have hf:H1 s1.heap.objs.size=none:=I1.hok.fresh (Nat.le_refl _);refine⟨.ref s1.heap.objs.size,upd H1 s1.heap.objs.size (.tup xs),I1.laid (t':=s1.toks) (fun b u e=>Heap.get?_push_of_some _ e) (Nat.le_refl _) ?_,rfl,q _ hf⟩;exact⟨z,us,r,⟨_,Heap.get?_push_size _ rfl,rfl,_,rfl⟩⟩
theorem ZaQ(h:PA X es t):PE X (.List es pos) (ZlF t):=by
 intro pins s σ H Q I hq;refine wpAny_List_spliced (thn (h pos pins s σ H _ I hq) fun us s1 ⟨xs,H1,I1,r,z,q⟩=>⟨by rw[<- r.length];exact z,?_⟩);have hf:H1 s1.heap.objs.size=none:=I1.hok.fresh (Nat.le_refl _);refine⟨.ref s1.heap.objs.size,upd H1 s1.heap.objs.size (.lst xs),I1.laid (t':=s1.toks) (fun b u e=>Heap.get?_push_of_some _ e) (Nat.le_refl _) ?_,rfl,q _ hf⟩;exact⟨z,us,0,r,Heap.get?_push_size _ rfl⟩
end
abbrev Sp:=List V->Hp->VK->XK->Prop
abbrev CXT:=List Env->Hp->Shared->XK->Value->Shared->Prop
structure Env0(P:Program)(w:World)(K:PySem.W.Frag)(mg:Str->Option Value)(base:Heap)(A:Around)(outer:List Env)(s:Shared)(H:Hp):Prop where
 frames:A.frames=some outer
 mod:Mod K mg base
 bs:∀b o,base.get? b=some o->s.heap.get? b=some o/\H b=none
 bsz:base.objs.size<=s.heap.objs.size
 funs:s.heap.FunFrames base outer
 frf:∀b∈frs outer,H b=none
 hok:HOk P w H s.heap
 bare:AllBare s.gens
def CE(outer:List Env)(P:Program)(w:World)(H:Hp)(s:Shared)(Q:VK)(u:Value)(s':Shared):Prop :=
 ∃v H',s'.os=s.os/\AllBare s'.gens/\Un (frs outer) [] H H' s.heap s'.heap/\HOk P w H' s'.heap/\RelV v u/\Q v H'
def CR(CX:CXT)(outer:List Env)(P:Program)(w:World)(H:Hp)(s:Shared)(Q:VK)(E:XK)(r:Result)(s':Shared):Prop :=
 match r with
 | .ok (.ret u)=>CE outer P w H s Q u s'
 | .ok _=>False
 | .error e=>CX outer H s E e s'
structure FnOk(P:Program)(w:World)(K:PySem.W.Frag)(mg:Str->Option Value)(base:Heap)(CX:CXT)(k:Nat)(f:Addr)(fd:FuncData)(ps:List Str)(sp:Sp):Prop where
 len:∀vs H Q E,sp vs H Q E->vs.length=ps.length
 run:∀(A:Around)(outer:List Env)(s:Shared)(H:Hp)(args:Args)(us:List Value)(vs:List V)(Q:VK)(E:XK),Room k A->Env0 P w K mg base A outer s H->BindsTo s fd args (ps.zip us)->Vals vs us->sp vs H Q E ->
  codeAny (model P w) A (.call (.ref f) args) (CR CX outer P w H s Q E) s
theorem Env0.make{P:Program}{w:World}{K:PySem.W.Frag}{mg:Str->Option Value}{base:Heap}{A:Around}{outer:List Env}{s:Shared}{H:Hp}(e:Env0 P w K mg base A outer s H)(C:Addr)(us:List Value)(kw:List (Str×Value)) :
  Env0 P w K mg base (A.under (.builtin "type.__call__" ⟨.ref C::us,kw⟩)) outer s H:=⟨by first|exact e.frames|(simpa[Around.under,Code.envs,Code.isFrame,pushEnvs] using e.frames),e.mod,e.bs,e.bsz,e.funs,e.frf,e.hok,e.bare⟩
section
variable{X:Cx}{pins:List (Addr×Obj)}{σ : St}{H:Hp}{s s':Shared}
theorem Inv.env0(I:Inv X pins σ H s):Env0 X.prog X.w X.K X.mg X.base X.A X.stack s H :=
 ⟨I.ok.frames,I.ok.mod,I.bs,Nat.le_trans I.ok.bsz I.sz,I.stack,I.stkFree,I.hok,I.bare⟩
theorem Inv.after{Q:VK}{u:Value}(I:Inv X pins σ H s)(h:CE X.stack X.prog X.w H s Q u s'):EP X pins σ Q u s':=by
 obtain⟨v,H',os,bare,un,hok,r,q⟩:=h;obtain⟨hh,g,d,t,os'⟩:=s';obtain rfl:os'=s.os:=os;exact⟨v,H',I.call (h':=hh) (g':=g) (d':=d) (t':=t) (ch:=[]) un hok bare (fun b z=>absurd z (by simp)),r,q⟩
end
def ZkP(sp:Sp)(dvs:List V)(E:XK)(t:TA):TE:=fun σ H Q=>t σ H fun vs H1=>sp (vs++dvs) H1 Q E
def Zi7(C:Addr)(m:Str)(sp:Sp)(dvs:List V)(E:XK)(ta:TE)(t:TA):TE:=fun σ H Q=>ta σ H fun x H1=>∃a dx fs,x=.ref a/\H1 a=some (.ins C dx fs)/\fs.lookup m=none /\
 t σ H1 fun vs H2=>sp (x::(vs++dvs)) H2 Q E
def Zkf(C:Addr)(sp:Sp)(dvs:List V)(E:XK)(t:TA):TE:=fun σ H Q=>t σ H fun vs H1=>∀x dx,H1 x=none->H1 dx=none->dx≠x ->
 sp (.ref x::(vs++dvs)) (upd (upd H1 dx (.own x)) x (.ins C dx [])) (fun v H2=>v=.non/\Q (.ref x) H2) E
def Binds(K:PySem.W.Frag)(fd:FuncData)(ps:List Str)(ds:List Value):Prop :=
 ∀(s:Shared)(us:List Value),K.In s.heap->(us++ds).length=ps.length->BindsTo s fd ⟨us,[]⟩ (ps.zip (us++ds))
theorem Binds.all{K:PySem.W.Frag}{fd:FuncData}{ps:List Str}(h:∀us:List Value,us.length=ps.length->bindArgs fd ⟨us,[]⟩=pure (ps.zip us)):Binds K fd ps []:=fun s us _ hl=>by
 rw[List.append_nil] at hl ⊢;exact .of_eq (h us hl)
def Zc3(CX:CXT)(X:Cx)(E:XK):Prop := ∀(pins:List (Addr×Obj))(σ : St)(H:Hp)(s:Shared)(e:Value)(s':Shared),Inv X pins σ H s->CX X.stack H s E e s'->X.xe e s'
section
variable{X:Cx}{CX:CXT}{k:Nat}{f C:Addr}{fd:FuncData}{ps:List Str}{sp:Sp}{dvs:List V}{ds:List Value}{E:XK}{x m:Str}{p pos apos:Pos}{e o:Expr}{es:List Expr}{ta:TE}{t:TA}
theorem Zg8{pins:List (Addr×Obj)}{σ : St}{H:Hp}{s:Shared}{Q:VK}{us:List Value}{vs:List V}(F:FnOk X.prog X.w X.K X.mg X.base CX k f fd ps sp)(hr:Room k X.A)(hb:Binds X.K fd ps ds)(hd:Vals dvs ds)(hx:Zc3 CX X E)
  (I:Inv X pins σ H s) (r:Vals vs us) (h:sp (vs++dvs) H Q E):wpAny (model X.prog X.w) X.A (call (.ref f) us) (EP X pins σ Q) X.xe s:=by
 have r2:Vals (vs++dvs) (us++ds):=r.append hd;have hl:(us++ds).length=ps.length:=by rw[<- r2.length];exact F.len _ _ _ _ h
 refine wpAny_call (codeAny_mono (F.run X.A X.stack s H ⟨us,[]⟩ (us++ds) (vs++dvs) Q E hr I.env0 (hb s us I.kIn hl) r2 h) fun r s' hq=>?_);cases r with
 | error e=>exact hx pins σ H s e s' I hq
 | ok fl =>
  cases fl with
  | ret u=>exact I.after hq
  | next=>exact False.elim hq
  | brk=>exact False.elim hq
  | cont=>exact False.elim hq
theorem ZjO(F:FnOk X.prog X.w X.K X.mg X.base CX k f fd ps sp)(hr:Room k X.A)(hg:Gl X x)(hm:X.mg x=some (.ref f))(hk:PySem.W.keepIn X.K (.ref f)=true)(hb:Binds X.K fd ps ds)(hd:Vals dvs ds)(hx:Zc3 CX X E)
  (ha:PA X (e::es) t) (hdb:(x == ("__debug__" : Str))=false:=by decide) (he:starEach (e::es) X.env=(false,eval e X.env)::starEach es X.env:=by rfl) (hpl:(backTo pos (starEach es X.env)).any (·.1)=false:=by rfl) :
  PE X (.Call (.Name x p) (e::es) [] pos) (ZkP sp dvs E t):=by
 intro pins s σ H Q I h;refine wpAny_Call_Name_kw (ZhW I hg hm ?_ hdb);refine PySem.W.callWith_K (h₀ := X.base) I.ok.mod.kin hk (thn (ha pos pins s σ H _ I h) fun us s1 ⟨vs,H1,I1,r,q⟩=>⟨I1.kIn,?_⟩) he hpl;exact Zg8 F hr hb hd hx I1 r q
theorem ZjF{pl:Sem Bool}(he:PE X o ta)(c:Cls X.K C)(hm:Meth X.K C m f)(F:FnOk X.prog X.w X.K X.mg X.base CX k f fd ps sp)(hr:Room k X.A)(hb:Binds X.K fd ps ds)(hd:Vals dvs ds)(hx:Zc3 CX X E)(ha:PA X (e::es) t)
  (hst:starEach (e::es) X.env=(false,eval e X.env)::starEach es X.env:=by rfl) (hpl:(backTo pos (starEach es X.env)).any (·.1)=false:=by rfl)
  (ht:eval (.Call (.Attribute o m apos) (e::es) [] pos) X.env=(do
   let ov <- eval o X.env
   standAt apos.atName
   let (f,first) <- holding [ov] (getMethod ov m pl)
   callWith pos f first (backTo pos (starEach (e::es) X.env)) (backToKw pos (keywordEach [] X.env))):=by rfl) :
  PE X (.Call (.Attribute o m apos) (e::es) [] pos) (Zi7 C m sp dvs E ta t):=by
 intro pins s σ H Q I h;refine PySem.W.methodCall_KW (pl:=pl) (thn (he pins s σ H _ I h) fun u s1 ⟨x,H1,I1,rx,a,dx,fs,ex,ea,l,q⟩=>?_) ht;subst ex;obtain rfl:u=Value.ref a:=rx;refine ZdK I1 ea c hm l ?_;refine PySem.W.callWith_K (first:=[.ref a]) (h₀ := X.base) I.ok.mod.kin hm.kp (thn (ha pos pins s1 σ H1 _ I1 q) fun us s2 ⟨vs,H2,I2,r,q2⟩=>⟨I2.kIn,?_⟩) hst hpl
 exact Zg8 (us:=.ref a::us) (vs:=.ref a::vs) F hr hb hd hx I2 (.cons rfl r) q2
theorem Zi0{pl:Sem Bool}(he:PE X o ta)(c:Cls X.K C)(hm:Meth X.K C m f)(F:FnOk X.prog X.w X.K X.mg X.base CX k f fd ps sp)(hr:Room k X.A)(hb:Binds X.K fd ps ds)(hd:Vals dvs ds)(hx:Zc3 CX X E)
  (ht:eval (.Call (.Attribute o m apos) [] [] pos) X.env=(do
   let ov <- eval o X.env
   standAt apos.atName
   let (f,first) <- holding [ov] (getMethod ov m pl)
   callWith pos f first (backTo pos (starEach [] X.env)) (backToKw pos (keywordEach [] X.env))):=by rfl) :
  PE X (.Call (.Attribute o m apos) [] [] pos) (Zi7 C m sp dvs E ta Zh7):=by
 intro pins s σ H Q I h;refine PySem.W.methodCall_KW (pl:=pl) (thn (he pins s σ H _ I h) fun u s1 ⟨x,H1,I1,rx,a,dx,fs,ex,ea,l,q⟩=>?_) ht;subst ex;obtain rfl:u=Value.ref a:=rx;refine ZdK I1 ea c hm l ?_;exact PySem.W.callWith_K0 (first:=[.ref a]) I1.kIn hm.kp (Zg8 (us:=[.ref a]) (vs:=[.ref a]) F hr hb hd hx I1 (.cons rfl .nil) q)
structure Mk(K:PySem.W.Frag)(C f:Addr):Prop where
 makes:PySem.W.makesIn K C=true
 init:PySem.W.findIn K (.ref C) "__init__" = some (some (.ref f))
 fn:PySem.W.isFn K (.ref f)=true
 kp:PySem.W.keepIn K (.ref C)=true
theorem ZiV{pins:List (Addr×Obj)}{σ : St}{H:Hp}{s:Shared}{Q:VK}{us:List Value}{vs:List V}(M:Mk X.K C f)(F:FnOk X.prog X.w X.K X.mg X.base CX k f fd ps sp)(hr:Room (k+1) X.A)(hb:Binds X.K fd ps ds)(hd:Vals dvs ds)
  (hx:Zc3 CX X E) (I:Inv X pins σ H s) (r:Vals vs us)
  (h:∀x dx,H x=none->H dx=none->dx≠x->sp (.ref x::(vs++dvs)) (upd (upd H dx (.own x)) x (.ins C dx [])) (fun v H2=>v=.non/\Q (.ref x) H2) E) :
  wpAny (model X.prog X.w) X.A (call (.ref C) us) (EP X pins σ Q) X.xe s:=by
 have hq:=h (s.heap.objs.size+1) s.heap.objs.size (I.hok.fresh (Nat.le_succ _)) (I.hok.fresh (Nat.le_refl _)) (Nat.ne_of_lt (Nat.lt_succ_self _));have I2:=Inv.made (C:=C) I;have r2:Vals (V.ref (s.heap.objs.size+1)::(vs++dvs)) (Value.ref (s.heap.objs.size+1)::(us++ds)):=.cons rfl (r.append hd);have hl:(Value.ref (s.heap.objs.size+1)::us++ds).length=ps.length:=by
  have e:=r2.length;rw[F.len _ _ _ _ hq] at e;exact e.symm
 refine wpAny_call (Zi3 (f:=f) I.kIn M.makes M.init (beq_iff_eq.mp M.fn) (codeAny_mono (F.run _ X.stack _ _ ⟨Value.ref (s.heap.objs.size+1)::us,[]⟩ (Value.ref (s.heap.objs.size+1)::(us++ds)) _ _ E (hr.make C us [])
  (I2.env0.make C us []) (hb _ (Value.ref (s.heap.objs.size+1)::us) I2.kIn hl) r2 hq) fun r s' hq'=>?_))
 cases r with
 | error e=>exact hx pins σ _ _ e s' I2 hq'
 | ok fl =>
  cases fl with
  | ret u =>
   obtain⟨v,H',I3,rv,ev,q3⟩:=I2.after hq';subst ev;exact⟨rv,⟨V.ref (s.heap.objs.size+1),H',I3,rfl,q3⟩⟩
  | next=>exact False.elim hq'
  | brk=>exact False.elim hq'
  | cont=>exact False.elim hq'
theorem ZjS(M:Mk X.K C f)(F:FnOk X.prog X.w X.K X.mg X.base CX k f fd ps sp)(hr:Room (k+1) X.A)(hg:Gl X x)(hm:X.mg x=some (.ref C))(hb:Binds X.K fd ps ds)(hd:Vals dvs ds)(hx:Zc3 CX X E)
  (ha:PA X (e::es) t) (hdb:(x == ("__debug__" : Str))=false:=by decide) (he:starEach (e::es) X.env=(false,eval e X.env)::starEach es X.env:=by rfl) (hpl:(backTo pos (starEach es X.env)).any (·.1)=false:=by rfl) :
  PE X (.Call (.Name x p) (e::es) [] pos) (Zkf C sp dvs E t):=by
 intro pins s σ H Q I h;refine wpAny_Call_Name_kw (ZhW I hg hm ?_ hdb);refine PySem.W.callWith_K (h₀ := X.base) I.ok.mod.kin M.kp (thn (ha pos pins s σ H _ I h) fun us s1 ⟨vs,H1,I1,r,q⟩=>⟨I1.kIn,?_⟩) he hpl;exact ZiV M F hr hb hd hx I1 r q
end
structure FnScope(N P:List Str)(sc:Scope):Prop where
 kind:sc.kind=.function
 co:sc.isCoroutine=false
 gen:sc.isGenerator=false
 nd:N.Nodup
 pre:N.take P.length=P
 par:∀x∈P,sc.names.lookup x=some .local\/sc.names.lookup x=some .cell
 Zdc:∀y∈sc.names,y.2 ≠ .free
theorem Zfb{kindOf:Str->Option NameKind}{x:Str}:∀{binds:List (Str×Value)}{m:Str->Option Value},(∀v,(x,v)∉binds)->bindL kindOf binds m x=m x
 | [],_,_=>rfl
 | (n,v)::r,m,h=>by
  unfold bindL;rw[Zfb fun w hw=>h w (List.mem_cons_of_mem _ hw)]
  split
  ·have:x≠n:=by rintro rfl;exact h v List.mem_cons_self
   simp[this]
  ·rfl
theorem ZeU{kindOf:Str->Option NameKind}{x:Str}:∀{binds:List (Str×Value)}{m:Str->Option Value},(∀v,(x,v)∉binds)->bindC kindOf binds m x=m x
 | [],_,_=>rfl
 | (n,v)::r,m,h=>by
  unfold bindC;rw[ZeU fun w hw=>h w (List.mem_cons_of_mem _ hw)]
  split
  ·rfl
  ·have:x≠n:=by rintro rfl;exact h v List.mem_cons_self
   simp[this]
theorem ZeK{kindOf:Str->Option NameKind}{x:Str}{v:Value}:∀{P:List Str}{vs:List Value}{i:Nat}{m:Str->Option Value},P.Nodup->P[i]?= some x->vs[i]?= some v->kindOf x=some .local ->
  bindL kindOf (P.zip vs) m x=some v
 | [],_,_,_,_,h,_,_=>by simp at h
 | _::_,[],_,_,_,_,h,_=>by simp at h
 | p::P,w::vs,0,m,nd,h1,h2,hk=>by
  simp at h1 h2;subst h1;subst h2;show bindL kindOf ((p,w)::P.zip vs) m p=_;unfold bindL;rw[Zfb fun v hv=>(List.nodup_cons.mp nd).1 (List.of_mem_zip hv).1,if_pos hk];simp
 | p::P,w::vs,i+1,m,nd,h1,h2,hk=>by
  show bindL kindOf ((p,w)::P.zip vs) m x=_;unfold bindL;exact ZeK (i:=i) (List.nodup_cons.mp nd).2 (by simpa using h1) (by simpa using h2) hk
theorem ZeE{kindOf:Str->Option NameKind}{x:Str}{v:Value}:∀{P:List Str}{vs:List Value}{i:Nat}{m:Str->Option Value},P.Nodup->P[i]?= some x->vs[i]?= some v->kindOf x≠some .local ->
  bindC kindOf (P.zip vs) m x=some v
 | [],_,_,_,_,h,_,_=>by simp at h
 | _::_,[],_,_,_,_,h,_=>by simp at h
 | p::P,w::vs,0,m,nd,h1,h2,hk=>by
  simp at h1 h2;subst h1;subst h2;show bindC kindOf ((p,w)::P.zip vs) m p=_;unfold bindC;rw[ZeU fun v hv=>(List.nodup_cons.mp nd).1 (List.of_mem_zip hv).1,if_neg hk];simp
 | p::P,w::vs,i+1,m,nd,h1,h2,hk=>by
  show bindC kindOf ((p,w)::P.zip vs) m x=_;unfold bindC;exact ZeE (i:=i) (List.nodup_cons.mp nd).2 (by simpa using h1) (by simpa using h2) hk
def start(N:List Str)(vs:List V):St:=vs.map some++List.replicate (N.length-vs.length) none
def Zj9(CX:CXT)(P:Program)(w:World)(K:PySem.W.Frag)(mg:Str->Option Value)(base:Heap)(N:List Str)(qual:Str)(scope:Scope)(f:Addr)(cd:Value)(A:Around)(outer:List Env)(s:Shared)(H:Hp)(E:XK):Cx where
 prog:=P
 w:=w
 K:=K
 mg:=mg
 base:=base
 A:=A.deeper (envOfC qual scope s.heap.objs.size f cd)
 N:=N
 s₀ := s
 H₀ := H
 env:=envOfC qual scope s.heap.objs.size f cd
 outer:=outer
 stack:=envOfC qual scope s.heap.objs.size f cd::outer
 ex:=[]
 calm:=true
 fn:=fun _=>true
 pn:=[]
 xe:=fun e s'=>wpAny (model P w) (A.deeper (envOfC qual scope s.heap.objs.size f cd)) (leaving (envOfC qual scope s.heap.objs.size f cd) e) (fun _ s''=>CX outer H s E e s'') (fun e' s''=>CX outer H s E e' s'') s'
theorem Zf5{sc:Scope}{n:Nat}{x:Str}(h:sc.names.lookup x=some .cell):∃c,(cellsFrom n sc.names []).lookup x=some c:=by
 have q:=PySem.W.cellsFrom_some sc.names n [] (.inl h);exact Option.isSome_iff_exists.mp q
theorem Zg6{CX:CXT}{P:Program}{w:World}{K:PySem.W.Frag}{mg:Str->Option Value}{base:Heap}{N ps:List Str}{qual:Str}{scope:Scope}{f:Addr}{cd:Value}{A:Around}{outer:List Env}{s s1:Shared}{H:Hp}{E:XK}{us:List Value}{vs:List V}
  (S:FnScope N ps scope) (hd:A.handled=none) (e0:Env0 P w K mg base A outer s H) (hl:vs.length=ps.length) (r:Vals vs us)
  (x:InCallC s s.heap.objs.size (bindL (envOfC qual scope s.heap.objs.size f cd).kindOf (ps.zip us) fun _=>none) (cellsFrom (s.heap.objs.size+1) scope.names []) (bindC (envOfC qual scope s.heap.objs.size f cd).kindOf (ps.zip us) fun _=>none) s1) :
  Inv (Zj9 CX P w K mg base N qual scope f cd A outer s H E) [] (start N vs) H s1:=by
 have hpl:ps.length<=N.length:=by have:=congrArg List.length S.pre;rw[List.length_take] at this;lia
 obtain⟨h1,tk,rfl,hk⟩:=x.done;have noA:∀b:Addr,b∉(Zj9 CX P w K mg base N qual scope f cd A outer s H E).ex:=fun b z=>absurd (show b∈([]:List Addr) from z) (by simp);refine⟨⟨e0.mod,S.kind,rfl,rfl,Nat.le_refl _,fun y z c h1 h2=>?_,fun y hy=>?_,fun y c _ h=>?_,fun _=>hd,Around.frames_deeper e0.frames,.inr ⟨rfl,rfl⟩,fun b z=>absurd z (noA b),e0.bs,e0.bsz,fun b _ _=>noA b,fun b z=>absurd z (noA b),e0.funs,e0.frf⟩,
  rfl,e0.bare,Un.kept hk,⟨_,x.toInCall.ns,fun i y v h1 h2 h3=>?_⟩,fun y c h=>⟨_,x.cell y c h⟩,e0.hok.fresh (Nat.le_refl _),fun y c h=>?_,fun p hp=>absurd (show p∈([]:List (Addr×Obj)) from hp) (by simp),e0.hok.kept hk,?_⟩
 ·exact name_of_addr x.apart (PySem.mem_of_lookup h1) (PySem.mem_of_lookup h2)
 ·have hy:scope.names.lookup y=some .cell\/scope.names.lookup y=some .free:=hy;rcases hy with hy|hy
  ·exact Zf5 hy
  ·exact absurd rfl (S.Zdc _ (PySem.mem_of_lookup hy))
 ·exact Nat.le_of_lt (x.above y c (PySem.mem_of_lookup h))
 ·have hi:i<vs.length:=by
   unfold start at h2;by_cases hi:i<vs.length
   ·exact hi
   ·rw[List.getElem?_append_right (by simpa using hi)] at h2;rw[List.getElem?_replicate] at h2
    split at h2 <;> cases h2
  have ha:vs[i]?= some v:=by
   unfold start at h2;rw[List.getElem?_append_left (by simpa using hi),List.getElem?_map] at h2;cases e:vs[i]? with
   | none=>rw[e] at h2;cases h2
   | some a=>rw[e] at h2;cases h2;rfl
  obtain⟨u,hu,rv⟩:=r.get ha;have hp:ps[i]?= some y:=by
   rw[<- S.pre,List.getElem?_take_of_lt (by lia)];exact h1
  have ndP:ps.Nodup:=by rw[<- S.pre];exact S.nd.sublist (List.take_sublist _ _)
  refine⟨u,rv,?_⟩;rcases S.par y (List.mem_of_getElem? hp) with k|k
  ·exact .inl ⟨k,ZeK ndP hp hu k⟩
  ·obtain⟨c,e⟩:=Zf5 (n:=s.heap.objs.size+1) k;refine .inr ⟨.inl k,c,e,?_⟩;have q:=x.cell y c e;rw[ZeE ndP hp hu (by show scope.names.lookup y≠_;rw[k];decide)] at q;exact q
 ·exact e0.hok.fresh (Nat.le_of_lt (x.above y c (PySem.mem_of_lookup h)))
 ·unfold start;show _=N.length;rw[List.length_append,List.length_map,List.length_replicate];lia
theorem Zk7{CX:CXT}{P:Program}{w:World}{K:PySem.W.Frag}{mg:Str->Option Value}{base:Heap}{k:Nat}{f:Addr}{name qual:Str}{params:Arguments}{body:List Stmt}{scope:Scope}{dV kV doc pm cdv ct oc:Value}{an od:Option Addr}
  {osl:Array (Option Value)} {N ps:List Str} {sp:Sp} (lk:K.lookup f=some ⟨oc,od,.func (PySem.W.fnOf name qual params body scope dV kV doc pm an cdv ct),osl⟩) (hcd:PySem.W.codeIn K cdv qual=true) (S:FnScope N ps scope)
  (len:∀vs H Q E,sp vs H Q E->vs.length=ps.length)
  (hbody:∀(A:Around)(outer:List Env)(s:Shared)(H:Hp)(vs:List V)(Q:VK)(E:XK),Room k (A.deeper (envOfC qual scope s.heap.objs.size f cdv))->sp vs H Q E ->
   ∃t,PSs (Zj9 CX P w K mg base N qual scope f cdv A outer s H E) body t/\t { nx:=fun _ H'=>Q .non H',rt:=Q } (start N vs) H) :
  FnOk P w K mg base CX (k+1) f (PySem.W.fnOf name qual params body scope dV kV doc pm an cdv ct) ps sp:=by
 refine⟨len,fun A outer s H args us vs Q E hr e0 hb r hsp=>?_⟩;have hl:=len _ _ _ _ hsp;have KX:K.In s.heap:=e0.mod.kin.keeps fun b o e=>(e0.bs b o e).1;have lim:s.heap.NoLimit:=e0.mod.nolimit.keeps fun b o e=>(e0.bs b o e).1;have hkind:∀y∈ps.zip us,scope.names.lookup y.1=some .local\/(scope.names.lookup y.1=some .cell/\((cellsFrom (s.heap.objs.size+1) scope.names []).lookup y.1).isSome=true):=fun⟨n,v⟩ hy=>by
  rcases S.par n (List.of_mem_zip hy).1 with q|q
  ·exact .inl q
  ·exact .inr ⟨q,PySem.W.cellsFrom_some _ _ _ (.inl q)⟩
 refine codeAny_call_function hr.depth (KX _ _ lk) rfl S.co S.gen rfl (PySem.W.codeRec_of KX hcd) (hb _ _ _ _ ?_);refine wpAny_newFunctionEnv_cells S.kind hkind fun env he s1 x=>?_;subst he;refine⟨lim.keeps x.toInCall.keep,codeAny_func ?_⟩;obtain⟨t,ht,hq⟩:=hbody A outer s H vs Q E (hr.deeper _) hsp;have I:Inv (Zj9 CX P w K mg base N qual scope f cdv A outer s H E) [] (start N vs) H s1:=Zg6 S hr.hd e0 hl r x;refine wpAny_mono (ht [] s1 (start N vs) H _ I hq) (fun fl s' hs=>?_) fun e s' hs=>hs;have fin:∀{σ':St}{H':Hp}{v:V}{u:Value},Inv (Zj9 CX P w K mg base N qual scope f cdv A outer s H E) [] σ' H' s'->RelV v u->Q v H'->CE outer P w H s Q u s' :=
  fun{σ' H' v u} J rv q=>⟨v,H',J.os,J.bare,J.base,J.hok,rv,q⟩
 cases fl with
 | ret u =>
  obtain⟨v,σ',H',J,rv,q⟩:=hs;exact fin J rv q
 | next =>
  obtain⟨σ',H',J,q⟩:=hs;exact fin (v:=V.non) (u:=Value.none) J rfl q
 | brk =>
  obtain⟨_,_,_,q⟩:=hs;exact False.elim q
 | cont =>
  obtain⟨_,_,_,q⟩:=hs;exact False.elim q
section
variable{X:Cx}{x:Str}{p pos:Pos}{e:Expr}{es:List Expr}{t:TA}{id T:String}{r:List V->Hp->VK->Prop}
def tCB(r:List V->Hp->VK->Prop)(t:TA):TE:=fun σ H Q=>t σ H fun vs H1=>r vs H1 Q
theorem Zx(hc:Zb2 X (.builtin id) r)(hg:Gl X x)(hm:X.mg x=none)(hv:bootBuiltins x=some (.builtin id))(ha:PA X (e::es) t)(hn:x ≠ "__name__" := by decide) (hdb:(x == ("__debug__" : Str))=false:=by decide)
  (he:starEach (e::es) X.env=(false,eval e X.env)::starEach es X.env:=by rfl) (hpl:(backTo pos (starEach es X.env)).any (·.1)=false:=by rfl):PE X (.Call (.Name x p) (e::es) [] pos) (tCB r t):=by
 intro pins s σ H Q I h;refine wpAny_Call_Name_kw (Zbp I hg hm hv ?_ hn hdb);exact PyProof.Rows.callWith_builtin1 (thn (ha pos pins s σ H _ I h) fun us s1 ⟨vs,H1,I1,r1,q1⟩=>hc pins s1 σ H1 vs us Q I1 r1 q1) he hpl
theorem ZaJ(hc:Zb2 X (.type T) r)(hg:Gl X x)(hm:X.mg x=none)(hv:bootBuiltins x=some (.type T))(ha:PA X (e::es) t)(hn:x ≠ "__name__" := by decide) (hdb:(x == ("__debug__" : Str))=false:=by decide)
  (he:starEach (e::es) X.env=(false,eval e X.env)::starEach es X.env:=by rfl) (hpl:(backTo pos (starEach es X.env)).any (·.1)=false:=by rfl):PE X (.Call (.Name x p) (e::es) [] pos) (tCB r t):=by
 intro pins s σ H Q I h;refine wpAny_Call_Name_kw (Zbp I hg hm hv ?_ hn hdb);exact PyProof.Rows.callWith_type1 (thn (ha pos pins s σ H _ I h) fun us s1 ⟨vs,H1,I1,r1,q1⟩=>hc pins s1 σ H1 vs us Q I1 r1 q1) he hpl
end
end L2
namespace HT
open PySem PyProof.Rows
section
open PySem.SeqAt
open PySem.AutoSeq1 (wpAny_loadPart')
open PySem.MeetsSeq PySem.MeetsSeq2 PySem.MeetsSeq3
end
section
variable{prog:Program}{w:World}{A:Around}{E:Value->Shared->Prop}{s:Shared}
def sIx(n d:Nat):Option Int->Nat
 | none=>d
 | some v=>if v<0 then(v+(n:Int)).toNat else min v.toNat n
theorem ZiL(n d:Nat):sIx n d none=d:=rfl
theorem ZjA(n d k:Nat):sIx n d (some (k:Int))=min k n:=by
 show(if(k:Int)<0 then((k:Int)+(n:Int)).toNat else min (k:Int).toNat n)=min k n
 rw[if_neg (by lia),Int.toNat_natCast]
end
end HT
namespace L2
open PySem PySem.Spec PyProof.Rows
abbrev TO:=St->Hp->(Option Int->Hp->Prop)->Prop
def PO(X:Cx)(e:Option Expr)(t:TO):Prop :=
 ∀(pins:List (Addr×Obj))(s:Shared)(σ : St)(H:Hp)(Q:Option Int->Hp->Prop),Inv X pins σ H s->t σ H Q ->
  wpAny (model X.prog X.w) X.A (evalPart e X.env) (fun u s'=>∃o H',Inv X pins σ H' s'/\IsPart u o/\Q o H') X.xe s
def ZjB:TO:=fun _ H Q=>Q none H
def ZlA(t:TE):TO:=fun σ H Q=>t σ H fun x H1=>∃i,x=.int i/\Q (some i) H1
section
variable{X:Cx}{e:Expr}{te:TE}{lo hi:Option Expr}{tl th:TO}{pos p2:Pos}
theorem ZjI:PO X none ZjB:=by
 intro pins s σ H Q I h;rw[evalPart_none];exact wpAny_pure ⟨none,H,I,.none,h⟩
theorem ZjQ(h:PE X e te):PO X (some e) (ZlA te):=by
 intro pins s σ H Q I hw;rw[evalPart_some];refine thn (h pins s σ H _ I hw) fun u s1 ⟨x,H1,I1,r1,q1⟩=>?_;obtain⟨i,rfl,q⟩:=q1;obtain⟨t,rfl⟩:=r1;exact⟨some i,H1,I1,.int i t,q⟩
def SlR(X:Cx)(r:V->Option Int->Option Int->Hp->VK->Prop):Prop :=
 ∀(pins:List (Addr×Obj))(s:Shared)(σ : St)(H:Hp)(x:V)(v vl vu:Value)(lo hi:Option Int)(sl:Addr)(Q:VK),Inv X pins σ H s->RelV x v->s.heap.IsSliceOf sl vl vu .none->IsPart vl lo->IsPart vu hi->r x lo hi H Q ->
  ∃T id,typeLookup (.type T) "__getitem__" = pure (some (.builtin id))/\s.TypeIs v T/\wpAny (model X.prog X.w) X.A (getItem v (.ref sl)) (EP X pins σ Q) X.xe s
def tSl(r:V->Option Int->Option Int->Hp->VK->Prop)(te:TE)(tl th:TO):TE:=fun σ H Q=>te σ H fun x H1=>tl σ H1 fun l H2=>th σ H2 fun u H3=>r x l u H3 Q
theorem ZiD{r:V->Option Int->Option Int->Hp->VK->Prop}(hr:SlR X r)(he:PE X e te)(hl:PO X lo tl)(hu:PO X hi th):PE X (.Subscript e (.Slice lo hi none p2) pos) (tSl r te tl th):=by
 intro pins s σ H Q I h;refine Subscript_ (thn (he pins s σ H _ I h) fun v s1 ⟨x,H1,I1,r1,q1⟩=>?_);refine wpAny_Slice (thn (hl pins s1 σ H1 _ I1 q1) fun vl s2 ⟨l,H2,I2,pl,q2⟩=>thn (hu pins s2 σ H2 _ I2 q2) fun vu s3 ⟨u,H3,I3,pu,q3⟩=>?_);rw[evalPart_none];refine wpAny_pure ?_;have I4:Inv X pins σ H3 { s3 with heap:=s3.heap.push { cls:=.type "slice",data:=.fields #[vl,vu,.none] } }:=I3.kept (t':=s3.toks) fun b ob q=>Heap.get?_push_of_some _ q;obtain⟨T,id,hT,ht,hg⟩:=hr pins { s3 with heap:=s3.heap.push { cls:=.type "slice",data:=.fields #[vl,vu,.none] } } σ H3 x v vl vu l u s3.heap.objs.size Q I4 r1 (Heap.IsSliceOf.new ..) pl pu q3;show wpAny (model X.prog X.w) X.A (subscriptTail e (.Slice lo hi none p2) v (.ref s3.heap.objs.size)) (EP X pins σ Q) X.xe { s3 with heap:=s3.heap.push { cls:=.type "slice",data:=.fields #[vl,vu,.none] } };exact tail_any (ops:=[.ref s3.heap.objs.size,v]) ht hT hg (by with_unfolding_all rfl)
def ZjL(xs:List V)(lo hi:Option Int):List V:=(xs.drop (HT.sIx xs.length 0 lo)).take (HT.sIx xs.length xs.length hi-HT.sIx xs.length 0 lo)
theorem Zfw(xs:List V)(lo hi:Option Int):(ZjL xs lo hi).length<=xs.length:=by
 unfold ZjL;rw[List.length_take,List.length_drop];lia
end
def ixN(n:Nat)(i:Int):Option Nat:=if 0<=i then(if i<n then some i.toNat else none) else if -(n:Int)<=i then some (i+n).toNat else none
def atI{α : Type}(xs:List α)(i:Int):Option α := (ixN xs.length i).bind fun j=>xs[j]?
theorem ZhI{n:Nat}{i:Int}{j:Nat}(h:ixN n i=some j):seqIndex? i n=some j/\j<n /\ -(n:Int)<=i/\i<n:=by
 unfold ixN at h;by_cases h0:0<=i
 ·rw[if_pos h0] at h;by_cases h1:i<n
  ·rw[if_pos h1] at h;have e:i.toNat=j:=Option.some.inj h;exact⟨by rw[seqIndex_of h0 h1,e],by lia,by lia,h1⟩
  ·rw[if_neg h1] at h;cases h
 ·rw[if_neg h0] at h;by_cases h1 : -(n:Int)<=i
  ·rw[if_pos h1] at h;have e:(i+n).toNat=j:=Option.some.inj h;exact⟨by rw[seqIndex_neg (by lia) h1,e],by lia,h1,by lia⟩
  ·rw[if_neg h1] at h;cases h
theorem Zfy{α : Type}{xs:List α}{i:Int}{v : α}(h:atI xs i=some v):∃j,seqIndex? i xs.length=some j/\xs[j]?= some v/\j<xs.length /\ -(xs.length:Int)<=i/\i<xs.length:=by
 unfold atI at h;cases e:ixN xs.length i with
 | none=>rw[e] at h;cases h
 | some j =>
  rw[e] at h;obtain⟨h1,h2,h3,h4⟩:=ZhI e;exact⟨j,h1,h,h2,h3,h4⟩
theorem Zbj{α : Type}{xs:List α}{j:Nat}{v : α}(h:xs[j]?= some v):atI xs (j:Int)=some v:=by
 have hj:j<xs.length:=(List.getElem?_eq_some_iff.mp h).1;have e:ixN xs.length (j:Int)=some j:=by
  unfold ixN;rw[if_pos (by lia),if_pos (by lia)];simp
 unfold atI;rw[e];exact h
theorem ZcI{α : Type}(xs:List α)(v : α):atI (xs ++ [v]) (-1)=some v:=by
 have hl:(xs ++ [v]).length=xs.length+1:=by simp
 have e:ixN (xs ++ [v]).length (-1)=some xs.length:=by
  unfold ixN;rw[hl,if_neg (by decide),if_pos (by lia)]
  congr 1
  lia
 unfold atI;rw[e];show(xs ++ [v])[xs.length]?= some v;simp
def ZhP(b:Expr):Prop := ∀o i,subscripted b false o i=operate [o,i] (getItem o i)
def IxR(X:Cx)(r:R2):Prop :=
 ∀(value slice:Expr)(pins:List (Addr×Obj))(s:Shared)(σ : St)(H:Hp)(x y:V)(v u:Value)(Q:VK),Inv X pins σ H s->RelV x v->RelV y u->r x y H Q ->
  subscripted slice false v u=operate [v,u] (getItem v u)->wpAny (model X.prog X.w) X.A (subscriptTail value slice v u) (EP X pins σ Q) X.xe s
def MtR(X:Cx)(id:String)(r:V->List V->Hp->VK->Prop):Prop :=
 ∀(pins:List (Addr×Obj))(s:Shared)(σ : St)(H:Hp)(x:V)(xs:List V)(v:Value)(us:List Value)(Q:VK),Inv X pins σ H s->RelV x v->Vals xs us->r x xs H Q ->
  wpAny (model X.prog X.w) X.A (call (.builtin id) (v::us)) (EP X pins σ Q) X.xe s
section
variable{X:Cx}{a b:Expr}{ta tb:TE}{pos:Pos}
theorem ZX{r:R2}(hr:IxR X r)(ha:PE X a ta)(hb:PE X b tb)(hs:ZhP b):PE X (.Subscript a b pos) (tOp r ta tb):=by
 intro pins s σ H Q I h;exact Subscript_ (Zla ha hb I h fun v u s2 x y H2 I2 rx ry q=>hr a b pins s2 σ H2 x y v u Q I2 rx ry q (hs _ _))
def Zk8(K:PySem.W.Frag):R2:=fun x y H Q=>∃p xs i v,x=.ref p/\y=.int i/\SqL K H p xs/\atI xs i=some v/\Q v H
def ZlJ(K:PySem.W.Frag):R2:=fun x y H Q=>∃p xs i v,x=.ref p/\y=.int i/\SqT K H p xs/\atI xs i=some v/\Q v H
def Zmb:R2:=fun x y H Q=>∃z i c,x=.str z/\y=.int i/\z.length<=sizeLine/\atI z.cps.toList i=some c/\Q (.str ⟨#[c]⟩) H
theorem Zaj:IxR X (Zk8 X.K):=by
 intro value slice pins s σ H x y v u Q I rx ry h hs;obtain⟨p,xs,i,z,rfl,rfl,hq,he,q⟩:=h;cases rx;obtain⟨t,rfl⟩:=ry;obtain⟨its,r,pl,hz⟩:=I.list hq;obtain⟨j,h1,h2,h3,h4,h5⟩:=Zfy he;obtain⟨w,ew,rw'⟩:=r.get h2;have hl:=r.length;have hn:=ZdI;have fin:EP X pins σ Q w s:=⟨z,H,I,rw',q⟩;by_cases h0:0<=i
 ·have hj:i.toNat=j:=by
   rw[seqIndex_of h0 h5] at h1;exact Option.some.inj h1
  exact item_listR pl.isList h0 (by lia) (by rw[hj];simpa using ew) fin hs
 ·have hj:(i+(its.toArray.size:Int)).toNat=j:=by
   rw[seqIndex_neg (by lia) h4] at h1;rw[List.size_toArray,<- hl];exact Option.some.inj h1
  exact subscriptTail_builtinR (x:=w) pl.isList.typeIs slot_list_getitem.lookup
   (wpAny_getItem_list_neg (Q:=fun r s'=>r=w/\EP X pins σ Q r s') pl.isList (by lia) (by rw[List.size_toArray] <;> lia) (by lia) (by rw[hj];simpa using ew) ⟨rfl,fin⟩) hs
theorem ZaO:IxR X (ZlJ X.K):=by
 intro value slice pins s σ H x y v u Q I rx ry h hs;obtain⟨p,xs,i,z,rfl,rfl,hq,he,q⟩:=h;cases rx;obtain⟨t,rfl⟩:=ry;obtain⟨its,r,pl,hz⟩:=I.tuple hq;obtain⟨j,h1,h2,h3,h4,h5⟩:=Zfy he;obtain⟨w,ew,rw'⟩:=r.get h2;have hl:=r.length;have hn:=ZdI;have fin:EP X pins σ Q w s:=⟨z,H,I,rw',q⟩;exact subscriptTail_builtinR (x:=w) pl.typeIs slot_tuple_getitem.lookup
  (getItem_tuple (j:=j) (Q:=fun r s'=>r=w/\EP X pins σ Q r s') pl (by lia) (by lia) (by rw[List.size_toArray,<- hl];exact h1) (by simpa using ew) ⟨rfl,fin⟩) hs
theorem Zh6:IxR X Zmb:=by
 intro value slice pins s σ H x y v u Q I rx ry h hs;obtain⟨z,i,c,rfl,rfl,hz,he,q⟩:=h;obtain⟨t,rfl⟩:=rx;obtain⟨t',rfl⟩:=ry;obtain⟨j,h1,h2,h3,h4,h5⟩:=Zfy he;have hl:z.cps.toList.length=z.length:=by simp[Str.length]
 rw[hl] at h1 h4 h5;have hn:=ZdI;exact tail_any (typeIs_str s z t) slot_str_getitem.lookup (getItem_str (c:=c) (by
  have e1:decide (i < -(2 ^ 63:Int))=false:=decide_eq_false (by lia);have e2:decide (i>=2 ^ 63)=false:=decide_eq_false (by lia);rw[e1,e2,Bool.or_false]) (by rw[h1];simpa using h2) ⟨.str ⟨#[c]⟩,H,I.tok _,⟨_,rfl⟩,q⟩) hs
theorem Zg2(its:List Value)(n j:Nat)(u:Value):Obj.mapSeq (·.setIfInBounds j u) { cls:=.type "list",data:=.seq its.toArray n }= { cls:=.type "list",data:=.seq (its.set j u).toArray n }:=by
 simp[Obj.mapSeq]
theorem Inv.lst{pins:List (Addr×Obj)}{σ : St}{H:Hp}{s:Shared}{p:Addr}{xs:List V}(I:Inv X pins σ H s)(h:H p=some (.lst xs)) :
  ∃(its:List Value)(n:Nat),Vals xs its/\s.heap.get? p=some { cls:=.type "list",data:=.seq its.toArray n }/\xs.length<=sizeLine:=by
 obtain⟨z,its,n,r,e⟩:=I.hok p _ h;exact⟨its,n,r,e,z⟩
theorem Inv.lstUpd{pins:List (Addr×Obj)}{σ : St}{H:Hp}{s:Shared}{p:Addr}{xs ys:List V}{its its':List Value}{n n':Nat}{f:Obj->Obj}(I:Inv X pins σ H s)(h:H p=some (.lst xs))
  (ho:s.heap.get? p=some { cls:=.type "list",data:=.seq its.toArray n }) (hf:f { cls:=.type "list",data:=.seq its.toArray n }= { cls:=.type "list",data:=.seq its'.toArray n' }) (r:Vals ys its') (hz:ys.length<=sizeLine) (t:Nat) :
  Inv X pins σ (upd H p (.lst ys)) { s with heap:=s.heap.update p f,toks:=t }:=by
 have e:(s.heap.update p f).get? p=some { cls:=.type "list",data:=.seq its'.toArray n' }:=by
  rw[Heap.get?_update_self f ho (by rw[hf] <;> rfl),hf]
 refine I.write (x:=p) (e:=p) (by rw[h];trivial) (.inl rfl) (fun b u hb q=>(Heap.get?_update_other _ _ (Ne.symm hb)).trans q) ⟨_,e⟩ ?_;exact⟨hz,its',n',r,e⟩
def Zlb:V->V->V->Hp->(Hp->Prop)->Prop:=fun o i v H Q=>∃p xs k j,o=.ref p/\i=.int k/\H p=some (.lst xs)/\ixN xs.length k=some j/\Q (upd H p (.lst (xs.set j v)))
theorem set_list:ZlB X Zlb:=by
 intro pins s σ H o i v ov iv u Q I ro ri rv h;obtain⟨p,xs,k,j,rfl,rfl,hp,hj,q⟩:=h;cases ro;obtain⟨t,rfl⟩:=ri;obtain⟨its,n,r,ho,hz⟩:=I.lst hp;obtain⟨h1,h2,h3,h4⟩:=ZhI hj;have hl:=r.length;have hn:=ZdI;have I':Inv X pins σ (upd H p (.lst (xs.set j v))) { s with heap:=s.heap.update p (Obj.mapSeq (·.setIfInBounds j u)) } :=
  I.lstUpd hp ho (Zg2 its n j u) (r.set rv j) (by rw[List.length_set];exact hz) s.toks
 by_cases h0:0<=k
 ·have hk:k.toNat=j:=by
   rw[seqIndex_of h0 h4] at h1;exact Option.some.inj h1
  exact PySem.W.ki_setAt ho h0 (by lia) (by rw[List.size_toArray,<- hl];exact h4) (by rw[hk];exact⟨_,I',q⟩)
 ·have hk:(k+(its.toArray.size:Int)).toNat=j:=by
   rw[seqIndex_neg (by lia) h3] at h1;rw[List.size_toArray,<- hl];exact Option.some.inj h1
  exact PySem.W.ki_setBack ho (by lia) (by rw[List.size_toArray,<- hl];exact h3) (by lia) (by rw[hk];exact⟨_,I',q⟩)
theorem Zfe(lo hi:Option Int)(n:Nat):(sliceBounds lo hi none n).1=((HT.sIx n 0 lo:Nat):Int)/\(sliceBounds lo hi none n).2.1=((HT.sIx n n hi:Nat):Int)/\(sliceBounds lo hi none n).2.2=1:=by
 refine⟨?_,?_,rfl⟩
 ·cases lo with
  | none=>simp[sliceBounds,HT.sIx]
  | some i =>
   simp only[sliceBounds,HT.sIx,Option.getD_none,show(1:Int) > 0 by decide,if_true];by_cases h:i<0
   ·simp only[h,if_true] <;> lia
   ·simp only[h,if_false] <;> lia
 ·cases hi with
  | none=>simp[sliceBounds,HT.sIx]
  | some i =>
   simp only[sliceBounds,HT.sIx,Option.getD_none,show(1:Int) > 0 by decide,if_true];by_cases h:i<0
   ·simp only[h,if_true] <;> lia
   ·simp only[h,if_false] <;> lia
theorem Zd1(its:List Value)(lo hi:Option Int):slicePick its.toArray lo hi none=((its.drop (HT.sIx its.length 0 lo)).take (HT.sIx its.length its.length hi-HT.sIx its.length 0 lo)).toArray:=by
 obtain⟨h1,h2,h3⟩:=Zfe lo hi its.toArray.size;unfold slicePick;rw[h1,h2,h3];simp only[sliceRange_one,pick_run,List.size_toArray] <;> rfl
def Zl9(K:PySem.W.Frag):V->Option Int->Option Int->Hp->VK->Prop:=fun x lo hi H Q=>∃a xs,x=.ref a/\SqL K H a xs/\∀p,H p=none->Q (.ref p) (upd H p (.lst (ZjL xs lo hi)))
theorem Zj2:SlR X (Zl9 X.K):=by
 intro pins s σ H x v vl vu lo hi sl Q I rx hs pl pu h;obtain⟨a,xs,rfl,hx,q⟩:=h;cases rx;obtain⟨its,r,ht,hz⟩:=I.list hx;have hlen:=r.length;refine⟨"list",_,slot_list_getitem.lookup,ht.isList.typeIs,?_⟩;refine wpAny_getItem_list_slice ht.isList hs pl pu .none (by simp) ?_ (by rw[List.size_toArray] <;> lia)
 rw[Zd1,<- hlen];refine⟨.ref s.heap.objs.size,_,I.laid (t':=s.toks) (o:=.lst (ZjL xs lo hi)) (fun b ob q=>Heap.get?_push_of_some _ q) (Nat.le_refl _) ?_,rfl,q _ (I.hok.fresh (Nat.le_refl _))⟩;exact⟨Nat.le_trans (Zfw xs lo hi) hz,_,0,(r.drop (HT.sIx xs.length 0 lo)).take (HT.sIx xs.length xs.length hi-HT.sIx xs.length 0 lo),Heap.get?_push_size _ rfl⟩
theorem ZJ:Zb2 X (.builtin "len") (fun xs H Q=>∃p ys,xs=[.ref p]/\(SqL X.K H p ys\/SqT X.K H p ys)/\Q (.int ys.length) H):=by
 intro pins s σ H xs us Q I r h;obtain⟨p,ys,rfl,hq,q⟩:=h;obtain⟨u,rfl,rx⟩:=vals1 r;cases rx;have hn:=ZdI;rcases hq with hq|hq
 ·obtain⟨its,r',pl,hz⟩:=I.list hq;have hlen:=r'.length;exact Calls.call_len_list pl.isList (by simp only[List.size_toArray] <;> lia) ⟨.int ys.length,H,I.tok _,⟨s.toks+1,by rw[List.size_toArray,hlen]⟩,q⟩
 ·obtain⟨its,r',pl,hz⟩:=I.tuple hq;have hlen:=r'.length;exact len_tuple pl (by simp only[List.size_toArray] <;> lia) ⟨.int ys.length,H,I.tok _,⟨s.toks+1,by rw[List.size_toArray,hlen]⟩,q⟩
theorem Ze1:Zb2 X (.type "list") (fun xs H Q=>∃p ys,xs=[.ref p]/\(SqL X.K H p ys\/SqT X.K H p ys)/\∀l,H l=none->Q (.ref l) (upd H l (.lst ys))):=by
 intro pins s σ H xs us Q I r h;obtain⟨p,ys,rfl,hq,q⟩:=h;obtain⟨u,rfl,rx⟩:=vals1 r;cases rx;have fin:∀(its:List Value),Vals ys its->ys.length<=sizeLine->∀(h':Heap)(c':Nat),(∀b o',s.heap.get? b=some o'->h'.get? b=some o') ->
   h'.get? s.heap.objs.size=some { cls:=.type "list",dict:=none,data:=.seq its.toArray c',slots :=#[] }->EP X pins σ Q (.ref s.heap.objs.size) { s with heap:=h' }:=fun its r' hz h' c' kp e =>
  ⟨.ref s.heap.objs.size,_,I.laid (t':=s.toks) kp (Nat.le_refl _) (show Z4 X.prog X.w _ h' _ (.lst ys) from⟨hz,its,c',r',e⟩),rfl,q _ (I.hok.fresh (Nat.le_refl _))⟩
 rcases hq with hq|hq
 ·obtain⟨its,r',pl,hz⟩:=I.list hq;have hlen:=r'.length;obtain⟨o,ho,hc,n,hd⟩:=pl.isList;exact call_list_seq p (.inl rfl) ho hc hd (fun h' c' kp e=>fin its r' hz h' c' kp e) (by simp only[List.size_toArray] <;> lia)
 ·obtain⟨its,r',pl,hz⟩:=I.tuple hq;have hlen:=r'.length;obtain⟨o,ho,hc,n,hd⟩:=pl;exact call_list_seq p (.inr rfl) ho hc hd (fun h' c' kp e=>fin its r' hz h' c' kp e) (by simp only[List.size_toArray] <;> lia)
theorem Zbn:Zb2 X (.type "tuple") (fun xs H Q=>∃p ys,xs=[.ref p]/\((SqL X.K H p ys/\∀l,H l=none->Q (.ref l) (upd H l (.tup ys)))\/(SqT X.K H p ys/\Q (.ref p) H))):=by
 intro pins s σ H xs us Q I r h;obtain⟨p,ys,rfl,h⟩:=h;obtain⟨u,rfl,rx⟩:=vals1 r;cases rx;rcases h with⟨hq,q⟩|⟨hq,q⟩
 ·obtain⟨its,r',pl,hz⟩:=I.list hq;have hlen:=r'.length;refine call_tuple_list pl.isList (fun h' kp=>?_) (by simp only[List.size_toArray] <;> lia)
  have I1:Inv X pins σ H { s with heap:=h' }:=I.kept (t':=s.toks) kp;have I2:Inv X pins σ (upd H h'.objs.size (.tup ys)) { s with heap:=h'.push { cls:=.type "tuple",data:=.seq its.toArray } } :=
   I1.laid (t':=s.toks) (fun b o e=>Heap.get?_push_of_some _ e) (Nat.le_refl _) (show Z4 X.prog X.w _ _ _ (.tup ys) from⟨hz,its,r',IsTup.new _ _⟩)
  exact⟨.ref h'.objs.size,_,I2,rfl,q _ (I1.hok.fresh (Nat.le_refl _))⟩
 ·obtain⟨its,r',pl,hz⟩:=I.tuple hq;exact call_tuple_same pl ⟨.ref p,H,I,rfl,q⟩
def tyV(K:PySem.W.Frag)(T:String)(x:V)(H:Hp):Prop:=match x with
 | .str _=>T= "str"
 | .int _=>T= "int"
 | .ref p=>(T= "list" /\ ∃xs,SqL K H p xs)\/(T= "tuple" /\ ∃o,K.lookup p=some o/\o.cls=.type "tuple" /\ o.dict=none) \/
   (T= "dict" /\ ((∃kvs,H p=some (.dK kvs))\/∃kvs,H p=some (.dT kvs)))\/(T= "set" /\ ∃S n,H p=some (.set S n))
 | _=>False
theorem Zjn{pins:List (Addr×Obj)}{σ : St}{H:Hp}{s:Shared}{T:String}{x:V}{v:Value}(I:Inv X pins σ H s)(r:RelV x v)(ty:tyV X.K T x H) :
  s.TypeIs v T/\∀a,v=.ref a->∃ob,s.heap.get? a=some ob/\ob.dict=none:=by
 cases x with
 | str z =>
  obtain⟨t,rfl⟩:=r;cases (show T= "str" from ty);exact⟨typeIs_str s z t,fun _ e=>nomatch e⟩
 | int i =>
  obtain⟨t,rfl⟩:=r;cases (show T= "int" from ty);exact⟨typeIs_int s i t,fun _ e=>nomatch e⟩
 | ref p =>
  cases r;rcases ty with⟨rfl,xs,hq⟩|⟨rfl,o,hk,hc,hd⟩|⟨rfl,hk⟩|⟨rfl,S,n,hk⟩
  ·obtain⟨its,_,pl,_⟩:=I.list hq;refine⟨pl.isList.typeIs,fun a e=>?_⟩;cases e;obtain⟨o,n,e,c,hd,_⟩:=pl;exact⟨o,e,hd⟩
  ·refine⟨⟨o,I.kIn p o hk,hc⟩,fun a e=>?_⟩;cases e;exact⟨o,I.kIn _ o hk,hd⟩
  ·have z:∃o,s.heap.get? p=some o/\o.ExactDict:=by
    rcases hk with⟨kvs,hk⟩|⟨kvs,hk⟩
    ·obtain⟨_,_,_,_,o,_,_,e,ex,_⟩:=I.hok p _ hk;exact⟨o,e,ex⟩
    ·obtain⟨_,_,_,_,o,_,_,e,ex,_⟩:=I.hok p _ hk;exact⟨o,e,ex⟩
   obtain⟨o,e,ex⟩:=z;refine⟨⟨o,e,ex.1⟩,fun a e2=>?_⟩;cases e2;exact⟨o,e,ex.2.1⟩
  ·obtain⟨o,_,_,_,e,ex,_⟩:=I.hok p _ hk;refine⟨⟨o,e,ex.1⟩,fun a e2=>?_⟩;cases e2;exact⟨o,e,ex.2.1⟩
 | _=>exact False.elim ty
def ZlR(K:PySem.W.Frag)(T:String)(r:V->List V->Hp->VK->Prop)(to:TE):TE:=fun σ H Q=>to σ H fun x H1=>tyV K T x H1/\r x [] H1 Q
def tBM(K:PySem.W.Frag)(T:String)(r:V->List V->Hp->VK->Prop)(to:TE)(t:TA):TE:=fun σ H Q=>to σ H fun x H1=>tyV K T x H1/\t σ H1 fun xs H2=>r x xs H2 Q
variable{o e:Expr}{es:List Expr}{to:TE}{t:TA}{name:Str}{apos cpos:Pos}{T id:String}{r:V->List V->Hp->VK->Prop}
theorem Zjx(pa:PlainAttrs T)(slot:Slot T name id)(hty:typeOf (.builtin id)=pure (.type "method_descriptor")) (hm:MtR X id r) (ho:PE X o to)
  (hbase:attributeBase o name X.env (eval o X.env)=eval o X.env:=by rfl) (hline:(apos.endLine == cpos.line)=true:=by rfl):PE X (.Call (.Attribute o name apos) [] [] cpos) (ZlR X.K T r to):=by
 intro pins s σ H Q I h;refine wpAny_Call_method0_late hbase hline (thn (ho pins s σ H _ I h) fun v s1 ⟨x,H1,I1,r1,ty,q1⟩=>?_);obtain⟨h1,h2⟩:=Zjn I1 r1 ty;exact⟨T,id,pa,slot,hty,h1,h2,Calls.callWith_builtin rfl (PySem.evalArgs_none (hm pins s1 σ H1 x [] v [] Q I1 r1 .nil q1))⟩
theorem Ze8(pa:PlainAttrs T)(slot:Slot T name id)(hty:typeOf (.builtin id)=pure (.type "method_descriptor")) (hm:MtR X id r) (ho:PE X o to) (ha:PA X (e::es) t)
  (hbase:attributeBase o name X.env (eval o X.env)=eval o X.env:=by rfl)
  (hfew:((backTo cpos (starEach (e::es) X.env)).all (fun x=>!x.1)&&(backToKw cpos (keywordEach [] X.env)).all (fun x=>x.1.isSome)
   && decide ((e::es).length+([]:List Keyword).length+(if([]:List Keyword).isEmpty then 0 else 1)<30))=true:=by rfl)
  (hline:(apos.endLine == cpos.line)=true:=by rfl) (hs:starEach (e::es) X.env=(false,eval e X.env)::starEach es X.env:=by rfl) (hplain:(backTo cpos (starEach es X.env)).any (·.1)=false:=by rfl) :
  PE X (.Call (.Attribute o name apos) (e::es) [] cpos) (tBM X.K T r to t):=by
 intro pins s σ H Q I h;refine wpAny_Call_method_late hbase hfew hline rfl (thn (ho pins s σ H _ I h) fun v s1 ⟨x,H1,I1,r1,ty,q1⟩=>?_);obtain⟨h1,h2⟩:=Zjn I1 r1 ty;refine⟨T,id,pa,slot,hty,h1,h2,?_⟩;have hA:=ha cpos pins s1 σ H1 _ I1 q1;rw[hs] at hA ⊢;refine Calls.callWith_builtin (by show(false || (backTo cpos (starEach es X.env)).any (·.1))=false;rw[hplain] <;> rfl) (Calls.evalArgs_plain ?_)
 exact thn hA fun us s2 ⟨vs,H2,I2,r2,q2⟩=>hm pins s2 σ H2 x vs v us Q I2 r1 r2 q2
/- xs.append(e),list.index on a module's tuple .. are MtR facts of 06m -/
end
def MtM(X:Cx)(id:String)(r:V->List V->Hp->VK->Prop):Prop :=
 ∀(pins:List (Addr×Obj))(s:Shared)(σ : St)(H:Hp)(x:V)(xs:List V)(v:Value)(us:List Value)(Q:VK),Inv X pins σ H s->RelV x v->Vals xs us->r x xs H Q ->
  wpAny (model X.prog X.w) X.A (call (.builtin id) (v::us)) (EP X pins σ Q) X.xe s
theorem Vals.one:∀{x:V}{us:List Value},Vals [x] us->∃u,us=[u]/\RelV x u
 | _,_,.cons r .nil=>⟨_,rfl,r⟩
theorem Vals.two:∀{x y:V}{us:List Value},Vals [x,y] us->∃u v,us=[u,v]/\RelV x u/\RelV y v
 | _,_,_,.cons r (.cons q .nil)=>⟨_,_,rfl,r,q⟩
theorem Vals.zero:∀{us:List Value},Vals [] us->us=[]
 | _,.nil=>rfl
theorem Vals.dropLast{xs:List V}{us:List Value}(h:Vals xs us):Vals xs.dropLast us.dropLast:=by
 induction h with
 | nil=>exact .nil
 | cons r t ih =>
  cases t with
  | nil=>exact .nil
  | cons q t'=>exact .cons r ih
theorem ZgO{α : Type}(l:List α):l.eraseIdx (l.length-1)=l.dropLast:=by
 induction l with
 | nil=>rfl
 | cons a r ih =>
  cases r with
  | nil=>rfl
  | cons b r =>
   have e:(a::b::r).length-1=((b::r).length-1)+1:=by
    have h1:(a::b::r).length=r.length+2:=rfl;have h2:(b::r).length=r.length+1:=rfl;lia
   rw[e,List.eraseIdx_cons_succ,ih]
   all_goals rfl
section
variable{X:Cx}{pins:List (Addr×Obj)}{σ : St}{H:Hp}{s:Shared}{l b:Addr}{xs ys zs:List V}
theorem Inv.lset{its its':List Value}{n:Nat}{f:Array Value->Array Value}{t':Nat}(I:Inv X pins σ H s)(hH:H l=some (.lst xs))
  (e:s.heap.get? l=some { cls:=.type "list",data:=.seq its.toArray n }) (hf:f its.toArray=its'.toArray) (hv:Vals ys its') (hz:ys.length<=sizeLine) :
  Inv X pins σ (upd H l (.lst ys)) { s with heap:=s.heap.update l (Obj.mapSeq f),toks:=t' }:=by
 have q:=PySem.IsL.update e f;rw[hf] at q;refine I.write (x:=l) (e:=l) (by rw[hH];exact trivial) (.inl rfl) (fun b' u hb hu=>(Heap.get?_update_other s.heap (Obj.mapSeq f) (Ne.symm hb)).trans hu) ⟨_,q⟩ ?_;exact⟨hz,its',_,hv,q⟩
theorem Inv.lnew{its:List Value}{t':Nat}(I:Inv X pins σ H s)(hv:Vals ys its)(hz:ys.length<=sizeLine) :
  Inv X pins σ (upd H s.heap.objs.size (.lst ys)) { s with heap:=s.heap.push { cls:=.type "list",data:=.seq its.toArray },toks:=t' } :=
 I.laid (fun _ _ q=>Heap.get?_push_of_some _ q) (Nat.le_refl _) ⟨hz,its,0,hv,Heap.get?_push_size _ rfl⟩
theorem Inv.fresh(I:Inv X pins σ H s):H s.heap.objs.size=none:=I.hok.fresh (Nat.le_refl _)
theorem Inv.lstM(I:Inv X pins σ H s)(hH:H l=some (.lst xs)):xs.length<=sizeLine/\∃(its:List Value)(n:Nat),Vals xs its/\xs.length=its.length/\s.heap.get? l=some { cls:=.type "list",data:=.seq its.toArray n }:=by
 obtain⟨z,its,n,r,e⟩:=I.hok l _ hH;exact⟨z,its,n,r,r.length,e⟩
end
section
variable{X:Cx}
def ZjP:V->List V->Hp->VK->Prop:=fun x vs H Q=>∃l xs y,x=.ref l/\vs=[y]/\H l=some (.lst xs)/\xs.length<sizeLine/\Q .non (upd H l (.lst (xs ++ [y])))
theorem Zaw:MtM X "list.append" ZjP:=by
 intro pins s σ H x vs v us Q I rx rv h;obtain⟨l,xs,y,rfl,rfl,hH,hz,q⟩:=h;cases rx;obtain⟨u,rfl,ru⟩:=rv.one;obtain⟨z,its,n,r,hl,e⟩:=I.lstM hH;refine call_meets F.slot_list_append ⟨_,e,rfl⟩ F.entry_list_append (F.args_list_append_2 _ _) (PySem.list_append l its.toArray n u (by rw[List.size_toArray];lia)) ⟨e,?_⟩;refine⟨.non,_,I.lset (its':=its ++ [u]) hH e (by simp) (r.append (.cons ru .nil)) ?_,rfl,q⟩;rw[List.length_append,List.length_singleton];lia
def Zma:V->List V->Hp->VK->Prop:=fun x vs H Q=>∃l xs y,x=.ref l/\vs=[]/\H l=some (.lst xs)/\xs[xs.length-1]?= some y/\Q y (upd H l (.lst xs.dropLast))
theorem Zjd:MtM X "list.pop" Zma:=by
 intro pins s σ H x vs v us Q I rx rv h;obtain⟨l,xs,y,rfl,rfl,hH,hy,q⟩:=h;cases rx;have hus:=rv.zero;subst hus;obtain⟨z,its,n,r,hl,e⟩:=I.lstM hH;obtain⟨u,hu,ru⟩:=r.get hy;have hy':its.toArray[its.toArray.size-1]?= some u:=by
  show its.toArray[its.length-1]?= some u;rw[<- Array.getElem?_toList,<- hl];exact hu
 refine call_meets F.slot_list_pop ⟨_,e,rfl⟩ F.entry_list_pop (F.args_list_pop_1 _) (MeetsSeq.list_pop_last l its.toArray n u hy' (by rw[List.size_toArray];lia)) ⟨e,?_⟩;refine⟨y,_,I.lset (its':=its.dropLast) hH e ?_ r.dropLast ?_,ru,q⟩
 ·show its.toArray.eraseIdxIfInBounds (its.toArray.size-1)=its.dropLast.toArray;rw[List.size_toArray,List.eraseIdxIfInBounds_toArray,ZgO]
 ·rw[List.length_dropLast];lia
end
end L2
namespace Att
open PySem PySem.W PySem.Calls PyProof.Rows
theorem Zc5{P:Params}{h:Heap}:∀(ns:List Int)(vs:List Value),WellAll P h vs (ns.map WData.int)->IntsAre vs ns:=by
 intro ns
 induction ns with
 | nil =>
  intro vs w;rw[List.map_nil] at w;cases w;exact .nil
 | cons n ns ih =>
  intro vs w;rw[List.map_cons] at w;cases w with
  | cons a b =>
   cases a;exact .cons _ _ (ih _ b)
theorem Zg7{l:OpenLaw}{n:Nat}(hn:l.most=some n){P:Params}{h:Heap}{args:List WData}{vals:List Value}
  (hpre:l.row.toRowW.claim.pre args=true) (hwl:WellAll P h vals args) :
  ∃a vs ns,vals=[Value.ref a]/\args=[WData.list (ns.map WData.int)]/\h.get? a=some { cls:=.type "list",data:=.seq vs.toArray }/\IntsAre vs ns/\ns.length<=n:=by
 have hsh:WShape.hasAll [] args [.list .int]=true:=(pre_splitW hpre).1;have hc:l.pre.holds [] { args:=args }=true:=(pre_splitW hpre).2;obtain⟨d,r,rfl,h1,h2⟩:=hasAllW_cons hsh;obtain rfl:=hasAllW_nil h2;obtain⟨xs,rfl,h3⟩:=hasW_list h1;obtain⟨ns,rfl⟩:=items_int h3;have hlen:ns.length<=n:=by
  unfold OpenLaw.pre at hc;have h4:(WTm.not (.lt (.lit (.int (n:Int))) (.len (.arg 0)))).holds [] { args:=[.list (ns.map .int)] }=true:=by
   have h4:=(holds_andW hc).1;rw[hn] at h4;exact h4
  have h5:=condW_of h4 (w_not (w_lt w_lit (w_len_list (w_arg rfl))));rw[List.length_map] at h5;refine Nat.le_of_not_lt fun q=>?_;have q':(n:Int)<((ns.length:Nat):Int):=by lia
  first
   | (rw[decide_eq_true q'] at h5;exact absurd h5 (by decide))
   | (simp at h5;lia)
 cases hwl with
 | cons w1 w2 =>
  cases w2;cases w1 with
  | list ho hall=>exact⟨_,_,ns,rfl,rfl,ho,Zc5 ns _ hall,hlen⟩
theorem Zio(l:OpenLaw)(args:List WData):l.row.toRowW.claim.post args (.bool true) args=true :=
 postW_of (r:=l.row.toRowW) (X:=(true == true))
  (show WShape.has [] (.bool true) .bool=true by first|rfl|decide|simp[WShape.has,WShape.arms,WShape.armsAll])
  (show(WTm.eq .res (.lit (.bool true))).value [] { args:=args,res:=some (.bool true),after:=args }=some (.bool (true == true)) from w_eq_bool (w_res rfl) w_lit) rfl
theorem ZfG{l:OpenLaw}{n:Nat}{q:Program}{loose:List Str}{XP:(Str->Option Value)->Heap->Prop}{YP:World->Heap->Prop}{d:DefRec}
  (hn:l.most=some n) (hdf:d.params.defaults=[])
  (call:∀(w:World)(s₀ s₁ : Shared)(mg mb:Str->Option Value)(fa:Addr)(o:Obj)(pm cd doc:Value)(a:Addr)(vs:List Value)(ns:List Int),
   Ground q loose [] XP w s₀ mg mb s₁.heap->YP w s₁.heap ->
   s₁.heap.get? fa=some o->o.data=.func (docDef d.name d.params d.body d.scope pm cd doc)->s₁.heap.CodeRec cd d.name->mg d.name=some (.ref fa) ->
   s₁.heap.get? a=some { cls:=.type "list",data:=.seq vs.toArray }->IntsAre vs ns->ns.length<=n->s₁.gens=#[] ->
   codeAny (model l.prog w) callerA (.call (.ref fa) ⟨[.ref a],[]⟩) (fun r s'=>r=.ok (.ret (.bool true))/\OldK s₁.heap s'.heap/\s'.os=s₁.os/\AllBare s'.gens) s₁) :
  WalkO q loose XP YP l.row.toRowW d [] (fun f vs=>PySem.call f vs):=by
 intro w s₀ s₁ mg mb G Y fa o pm cd doc dV kV ho hd hcd hD hmg hg args vals as hpre hlay hrd hwl hlo;obtain rfl:dV=.none:=Dflts.none hD hdf;obtain rfl:kV=.none:=Dflts.noKw hD;obtain⟨a,vs,ns,rfl,rfl,hobj,hints,hlen⟩:=Zg7 hn hpre hwl;refine enter_call (codeAny_mono (call w s₀ s₁ mg mb fa o pm cd doc a vs ns G Y ho (fd_plain hd) hcd hmg hobj hints hlen hg) fun r s' hq=>?_);obtain⟨rfl,h2,h3,h4⟩:=hq;exact⟨.inl ⟨.bool true,.bool true,[],rfl,fun _=>rfl,.bool true,Zio l _,fun _=>⟨List.Pairwise.nil,fun _ hm=>(nomatch hm)⟩⟩,h2,h3,h4⟩
end Att
namespace L2
open PySem PySem.Spec PyProof.Rows
theorem Zer:∀{vs:List Value}{ns:List Int},IntsAre vs ns->Vals (ns.map V.int) vs
 | _,_,.nil=>.nil
 | _,_,.cons n t h=>.cons ⟨t,rfl⟩ (Zer h)
def Only(H:Hp):Prop := ∀b,H b=none\/∃o xs,H b=some (.frz o (.lst xs))
theorem Ziz{P:Program}{w:World}{K:PySem.W.Frag}{mg mb:Str->Option Value}{CX:CXT}{k:Nat}{fa a:Addr}{fd:FuncData}{x:Str}{sp:Sp}{s₁ : Shared}{vs:List Value}{ns:List Int}
  (KX:K.In s₁.heap) (hns:s₁.heap.Ns mainGlobals mg) (hb:s₁.heap.Ns builtinsNs mb) (hbb:∀x:Str,x ≠ "__name__" -> mb x=bootBuiltins x) (hlim:s₁.heap.NoLimit) (hg:s₁.gens=#[])
  (ha:s₁.heap.get? a=some { cls:=.type "list",data:=.seq vs.toArray }) (hi:IntsAre vs ns) (hl:ns.length<=sizeLine) (hr:Room k callerA)
  (F:∀base:Heap,K.In base->base.Ns mainGlobals mg->FnOk P w K mg base CX k fa fd [x] sp) (hbind:∀(s:Shared)(u:Value),BindsTo s fd ⟨[u],[]⟩ [(x,u)])
  (hsp:∀H:Hp,Only H->SqL K H a (ns.map V.int)->sp [.ref a] H (fun v _=>v=.bl true) fun _ _ _=>False)
  (hCX:∀H e s',CX [] H s₁ (fun _ _ _=>False) e s'->False) :
  codeAny (model P w) callerA (.call (.ref fa) ⟨[.ref a],[]⟩) (fun r s'=>r=.ok (.ret (.bool true))/\OldK s₁.heap s'.heap/\s'.os=s₁.os/\AllBare s'.gens) s₁ := by
 have rv:=Zer hi;have lenV:=hi.length;have core:∀H:Hp,Only H->SqL K H a (ns.map V.int)->HOk P w H s₁.heap->(∀b,H b≠none->b=a)->(H a≠none->K.lookup a=none) ->
   codeAny (model P w) callerA (.call (.ref fa) ⟨[.ref a],[]⟩) (fun r s'=>r=.ok (.ret (.bool true))/\OldK s₁.heap s'.heap/\s'.os=s₁.os/\AllBare s'.gens) s₁ := by
  intro H hO hS hok hA hK;have base_of:∀{b:Addr}{o:Obj},s₁.heap.get? b=some o->H b=none->(ZiR s₁.heap H).get? b=some o:=fun e n=>Zja e n;have noA:∀{b:Addr}{o:Obj}{es:Array DictEntry}{ep:Nat},s₁.heap.get? b=some o->o.data=.dict es ep->H b=none:=fun{b o es ep} e d=>by
   cases q:H b with
   | none=>rfl
   | some u =>
    have e':b=a:=hA b (by rw[q];simp);subst e';rw[ha] at e;cases e;have d':Data.seq vs.toArray _=Data.dict es ep:=d;cases d'
  have nsK:∀{b:Addr}{m:Str->Option Value},s₁.heap.Ns b m->(ZiR s₁.heap H).Ns b m:=fun{b m} ⟨o,es,ep,e,d,r⟩=>⟨o,es,ep,base_of e (noA e d),d,r⟩;have hKb:K.In (ZiR s₁.heap H):=fun b o e=>base_of (KX b o e) (by
   cases q:H b with
   | none=>rfl
   | some u =>
    have e':b=a:=hA b (by rw[q];simp);subst e';rw[hK (by rw[q];simp)] at e;cases e)
  have hM:Mod K mg (ZiR s₁.heap H):=⟨hKb,nsK hns,⟨mb,nsK hb,hbb⟩,let ⟨mc,h1,h2⟩:=hlim;⟨mc,nsK h1,h2⟩⟩;have e0:Env0 P w K mg (ZiR s₁.heap H) callerA [] s₁ H:=⟨rfl,hM,fun b o e=>ZjG e,Nat.le_of_eq (Zig _ _),trivial,fun b hb=>absurd (show b∈([]:List Addr) from hb) (by simp),hok,.of_eq hg⟩;refine codeAny_mono ((F _ hKb (nsK hns)).run callerA [] s₁ H ⟨[.ref a],[]⟩ [.ref a] [.ref a] _ _ hr e0 (hbind s₁ (.ref a)) (.cons rfl .nil) (hsp H hO hS)) fun r s' h=>?_;cases r with
  | error e=>exact(hCX H e s' h).elim
  | ok fl =>
   cases fl with
   | next=>exact False.elim h
   | brk=>exact False.elim h
   | cont=>exact False.elim h
   | ret u =>
    obtain⟨v,H',os,bare,un,hok',r',q⟩:=h;have q':v=.bl true:=q;subst q';obtain rfl:u=Value.bool true:=r';refine⟨rfl,OldK.of_keep fun b o e=>?_,os,bare⟩;cases q:H b with
    | none=>exact un.keep b o e q (by intro z;exact absurd (show b∈([]:List Addr) from z) (by simp)) (by simp)
    | some u =>
     rcases hO b with z|⟨ob,xs,z⟩
     ·rw[q] at z;cases z
     ·have z2:=un.frzs b ob _ z;obtain⟨e1,_⟩:=hok b _ z;obtain⟨e2,_⟩:=hok' b _ z2;rw[e] at e1;cases e1;exact e2
 cases hk:K.lookup a with
 | some o =>
  have e:=KX a o hk;rw[ha] at e;cases e;refine core (fun _=>none) (fun _=>.inl rfl) (.inr ⟨_,vs.toArray,_,hk,rfl,rfl,rfl,by rw[List.size_toArray,lenV];exact hl,by simpa using rv⟩) (fun b u z=>by have z':(none:Option HO)=some u:=z;cases z') (fun b z=>absurd rfl z) fun z=>absurd rfl z
 | none =>
  refine core (fun b=>if b=a then some (.frz { cls:=.type "list",data:=.seq vs.toArray } (.lst (ns.map V.int))) else none) (fun b=>?_) (.inl (.inr ⟨{ cls:=.type "list",data:=.seq vs.toArray },if_pos rfl⟩)) (fun b u z=>?_) (fun b z=>?_) fun _=>hk
  ·by_cases hb:b=a
   ·exact .inr ⟨_,_,if_pos hb⟩
   ·exact .inl (if_neg hb)
  ·by_cases hb:b=a
   ·have z':=(if_pos hb).symm.trans z;cases z';subst hb;exact⟨ha,by rw[List.length_map];exact hl,vs,_,rv,ha⟩
   ·have z':=(if_neg hb).symm.trans z;cases z'
  ·by_cases hb:b=a
   ·exact hb
   ·exact absurd (if_neg hb) z
theorem Zh0{l:PySem.W.OpenLaw}{n k:Nat}{q:Program}{loose:List Str}{XP:(Str->Option Value)->Heap->Prop}{YP:World->Heap->Prop}{d:DefRec}{K:Params->PySem.W.Frag}{CX:World->CXT}{sp:World->Sp}{x:Str}
  (hn:l.most=some n) (hn2:n<=sizeLine) (hdf:d.params.defaults=[]) (hr:Room k callerA)
  (hY:∀(w:World)(h:Heap),YP w h->(K w.params).In h)
  (F:∀(w:World)(mg:Str->Option Value)(fa:Addr)(h:Heap),(K w.params).In h->h.Ns mainGlobals mg->mg d.name=some (.ref fa) ->
   ∃fd:FuncData,(∀(s:Shared)(u:Value),BindsTo s fd ⟨[u],[]⟩ [(x,u)]) /\
    ∀base:Heap,(K w.params).In base->base.Ns mainGlobals mg->FnOk l.prog w (K w.params) mg base (CX w) k fa fd [x] (sp w))
  (hsp:∀(w:World)(H:Hp)(a:Addr)(ns:List Int),ns.length<=n->Only H->SqL (K w.params) H a (ns.map V.int)->sp w [.ref a] H (fun v _=>v=.bl true) fun _ _ _=>False)
  (hCX:∀(w:World)(H:Hp)(s:Shared)(e:Value)(s':Shared),CX w [] H s (fun _ _ _=>False) e s'->False) :
  PySem.W.WalkO q loose XP YP l.row.toRowW d [] (fun f vs=>PySem.call f vs):=by
 refine Att.ZfG hn hdf fun w s₀ s₁ mg mb fa o pm cd doc a vs ns G Y ho hd hcd hmg hobj hints hlen hg=>?_;have KX:=hY w _ Y;obtain⟨fd,hb,hF⟩:=F w mg fa _ KX G.T.g hmg;exact Ziz KX G.T.g G.T.b G.T.builtins G.T.nolimit hg hobj hints (Nat.le_trans hlen hn2) hr hF hb (fun H hO hS=>hsp w H a ns hlen hO hS) fun H e s'=>hCX w H s₁ e s'
end L2
/- THE LAST THEOREM (shape;LID,My.* are yours):
   My.Adr: a structure of the addresses that your layer names (classes,functions);My.Txt K t: a structure (Prop) of the equations over K;
   My.txt_mk:{K} {implicit addresses ..} (e1:nsIn K mainGlobals "law" = some (some (.ref f))) (e2:K.lookup f=some ⟨oc,od,.func (fnOf "law" "law" params body scope dV kV doc pm an cdv ct),sl⟩) (e3:codeIn K cdv "law" = true) .. : ∃t,My.Txt K t
set_option maxRecDepth 100000 in
set_option maxHeartbeats 0 in
theorem PySem.Challenge.cw_LID_holds : PySem.Challenge.rw_LID.Holds := by
 w_on;o_law;k_head;(case hw=>w_witness2)
 k_fill
 refine L2.Zh0 (l:=PySem.Challenge.rw_LID) (n:=63) (k:=40) (x := "script") (CX:=fun w=>..) (sp:=fun _=>My.sp_law) rfl (by decide) rfl ⟨rfl,by decide,by decide⟩ (fun w h Y=>PySem.W.kIn_of Y) ?F ?S ?C
 case F =>
  intro w mg fa h KX G hmg;have T:∃t,My.Txt (L2.KOf KX) t:=by
   dsimp only[L2.KOf]                          -- K must stand as «<heap const> w.params» for k_is
   refine' My.txt_mk ?e1 ?e2 ?e3 ..
   (case e1=>PySem.W.k_is)                    -- in the order: a name->its address->its object->its parts
   (case e2=>PySem.W.k_is)
   ..
  obtain⟨t,T⟩:=T;have e0:=hmg.symm.trans (PySem.W.mg_of KX G T.law);cases e0                                       -- fa is the law's own address
  exact⟨_,fun s u=>.of_eq rfl,fun base kb nb=>My.law_fn T kb nb⟩     -- if «.of_eq rfl» comes too early: refine' ⟨_,?b,fun base kb nb=>My.law_fn T kb nb⟩;exact fun s u=>.of_eq rfl
 case S=>exact fun w H a ns hl hO hS=>..
 case C=>exact ..
(the tactic k_is has no namespace: write k_is) -/
namespace L2
open PySem PySem.Spec PyProof.Rows
def inClass(s:Stmt)(j:Nat):Stmt:=match s with
 | .ClassDef _ _ _ body _ _ _ _ _ _ _=>body.getD j (.Pass ⟨0,0,0,0⟩)
 | _=>.Pass ⟨0,0,0,0⟩
def ZC(s:Stmt):Arguments:=match s with
 | .FunctionDef _ a _ _ _ _ _ _ _ _=>a
 | _=>{ posonlyargs:=[],args:=[],vararg:=none,kwonlyargs:=[],kw_defaults:=[],kwarg:=none,defaults:=[] }
def Zm(s:Stmt):List Stmt:=match s with
 | .FunctionDef _ _ b _ _ _ _ _ _ _=>b
 | _=>[]
def Ze(s:Stmt):Scope:=match s with
 | .FunctionDef _ _ _ _ _ _ sc _ _ _=>sc
 | _=>{ kind:=.function,names:=[],isGenerator:=false,isCoroutine:=false }
abbrev CX0:CXT:=fun _ _ _ _ _ _=>False
abbrev E0:XK:=fun _ _ _=>False
theorem ZiW{X:Cx}:Zc3 CX0 X E0:=fun _ _ _ _ _ _ _ h=>h.elim
structure Fun(K:PySem.W.Frag)(x qual:Str)(st:Stmt)(f:Addr)(fd:FuncData):Prop where
 ex:∃(oc:Value)(od:Option Addr)(kV doc pm:Value)(an:Option Addr)(cdv ct:Value)(osl:Array (Option Value)),
  fd=PySem.W.fnOf x qual (ZC st) (Zm st) (Ze st) .none kV doc pm an cdv ct/\K.lookup f=some ⟨oc,od,.func fd,osl⟩/\PySem.W.codeIn K cdv qual=true
 kp:PySem.W.keepIn K (.ref f)=true
section
variable{P:Program}{w:World}{K:PySem.W.Frag}{mg:Str->Option Value}{base:Heap}
theorem Fun.ok{x qual:Str}{st:Stmt}{f:Addr}{fd:FuncData}{N ps:List Str}{k:Nat}{sp:Sp}(F:Fun K x qual st f fd)(S:FnScope N ps (Ze st))(len:∀vs H Q E,sp vs H Q E->vs.length=ps.length)
  (hbody:∀(cdv:Value)(A:Around)(outer:List Env)(s:Shared)(H:Hp)(vs:List V)(Q:VK)(E:XK),Room k (A.deeper (envOfC qual (Ze st) s.heap.objs.size f cdv))->sp vs H Q E ->
   ∃t,PSs (Zj9 CX0 P w K mg base N qual (Ze st) f cdv A outer s H E).nox (Zm st) t/\t { nx:=fun _ H'=>Q .non H',rt:=Q } (start N vs) H):FnOk P w K mg base CX0 (k+1) f fd ps sp:=by
 obtain⟨oc,od,kV,doc,pm,an,cdv,ct,osl,rfl,lk,hcd⟩:=F.ex;refine Zk7 lk hcd S len fun A outer s H vs Q E hr hsp=>?_;obtain⟨t,h,q⟩:=hbody cdv A outer s H vs Q E hr hsp;exact⟨t,h.nox,q⟩
theorem Fun.binds{x qual:Str}{st:Stmt}{f:Addr}{fd:FuncData}{ps:List Str}(F:Fun K x qual st f fd)
  (h:∀(kV doc pm:Value)(an:Option Addr)(cdv ct:Value)(us:List Value),us.length=ps.length->bindArgs (PySem.W.fnOf x qual (ZC st) (Zm st) (Ze st) .none kV doc pm an cdv ct) ⟨us,[]⟩=pure (ps.zip us)):Binds K fd ps []:=by
 obtain⟨oc,od,kV,doc,pm,an,cdv,ct,osl,rfl,lk,hcd⟩:=F.ex;exact .all (h kV doc pm an cdv ct)
theorem Zai{x qual:Str}{st:Stmt}{f:Addr}{oc:Value}{od an:Option Addr}{osl:Array (Option Value)}{kV doc pm cdv ct:Value}(l:K.lookup f=some ⟨oc,od,.func (PySem.W.fnOf x qual (ZC st) (Zm st) (Ze st) .none kV doc pm an cdv ct),osl⟩)
  (c:PySem.W.codeIn K cdv qual=true) (k:PySem.W.keepIn K (.ref f)=true):Fun K x qual st f (PySem.W.fnOf x qual (ZC st) (Zm st) (Ze st) .none kV doc pm an cdv ct):=⟨⟨oc,od,kV,doc,pm,an,cdv,ct,osl,rfl,l,c⟩,k⟩
end
section
variable{X:Cx}
theorem pv(i:Nat){x:Str}{pos:Pos}(hN:X.N[i]?= some x:=by rfl)(hv:Vis X.env.scope x:=by first|exact Or.inl rfl|exact Or.inr (Or.inl rfl)|exact Or.inr (Or.inr rfl))(hd:(x == ("__debug__" : Str))=false:=by decide)
  (hcd:(x == ("__classdict__" : Str))=false:=by decide):PE X (.Name x pos) (ZlE i):=ZkK hN hv hd hcd
end
theorem Za5{A B:Prop}(h:B):if false=true then A else B:=by
 rw[if_neg Bool.false_ne_true];exact h
theorem Zej{A B:Prop}(h:A):if true=true then A else B:=by
 rw[if_pos rfl];exact h
theorem ZdP{c A B:Prop}[Decidable c](h1:c->A)(h2 : ¬ c->B):if c then A else B:=by
 by_cases h:c
 ·rw[if_pos h];exact h1 h
 ·rw[if_neg h];exact h2 h
def Zj(H H':Hp):Prop := ∀b o,H b=some o->H' b=some o
theorem Zj.refl(H:Hp):Zj H H:=fun _ _ h=>h
theorem Zj.trans{H H1 H2:Hp}(a:Zj H H1)(b:Zj H1 H2):Zj H H2:=fun c o h=>b c o (a c o h)
theorem Zj.free{H H':Hp}(e:Zj H H'){l:Addr}(h:H' l=Option.none):H l=Option.none:=by
 cases q:H l with
 | none=>rfl
 | some o =>
  rw[e l o q] at h;cases h
theorem Zj.seq{K:PySem.W.Frag}{H H':Hp}{a:Addr}{xs:List V}(e:Zj H H')(h:SqL K H a xs):SqL K H' a xs:=by
 rcases h with(h|⟨o,h⟩)|h
 ·exact .inl (.inl (e _ _ h))
 ·exact .inl (.inr ⟨o,e _ _ h⟩)
 ·exact .inr h
end L2
namespace FgM
end FgM
namespace L2
open PySem PySem.Spec PyProof.Rows
theorem Zdb:bootBuiltins "list" = some (.type "list"):=by decide +kernel
theorem ZcJ:bootBuiltins "tuple" = some (.type "tuple"):=by decide +kernel
theorem Zkx:bootBuiltins "str" = some (.type "str"):=by decide +kernel
theorem ZkA:bootBuiltins "int" = some (.type "int"):=by decide +kernel
theorem Zij:bootBuiltins "bool" = some (.type "bool"):=by decide +kernel
theorem Zft:bootBuiltins "dict" = some (.type "dict"):=by decide +kernel
theorem ZkH:bootBuiltins "max" = some (.builtin "max"):=by decide +kernel
theorem Z1:bootBuiltins "isinstance" = some (.builtin "isinstance"):=by decide +kernel
section
variable{X:Cx}
theorem ZeO{x:Str}{n:String}{pos:Pos}(hg:Gl X x)(hm:X.mg x=none)(hv:bootBuiltins x=some (.type n))(hn:x ≠ "__name__" := by decide) (hd:(x == ("__debug__" : Str))=false:=by decide):PE X (.Name x pos) (tC (.ty n)) :=
 Zj7 (v:=.ty n) hg hm hv rfl hn hd
theorem Zae:Zb2 X (.builtin "isinstance") (fun xs H Q=>∃x n t b,xs=[x,.ty n]/\TyOf X.K H x t/\PySem.W.kitOne X.K t (.type n)=some b/\Q (.bl b) H):=by
 intro pins s σ H xs us Q I r h;obtain⟨x,n,t,b,rfl,ty,e,q⟩:=h;obtain⟨u,v,rfl,rx,ry⟩:=Vals.two r;obtain rfl:v=Value.type n:=ry;exact Zhk I rx ty e fun tk=>⟨.bl b,H,I.tok tk,rfl,q⟩
end
structure Has(P:Program)(w:World)(K:PySem.W.Frag)(mg:Str->Option Value)(base:Heap)(x:Str)(ps:List Str)(k:Nat)(sp:Sp):Prop where
 ex:∃(f:Addr)(fd:FuncData),FnOk P w K mg base CX0 k f fd ps sp/\Binds K fd ps []/\PySem.W.keepIn K (.ref f)=true/\mg x=some (.ref f)
section
variable{X:Cx}{x:Str}{ps:List Str}{j k:Nat}{sp:Sp}{e:Expr}{es:List Expr}{t:TA}{p pos:Pos}
theorem FnOk.room{P:Program}{w:World}{K:PySem.W.Frag}{mg:Str->Option Value}{base:Heap}{CX:CXT}{f:Addr}{fd:FuncData}(F:FnOk P w K mg base CX j f fd ps sp)(h:j<=k):FnOk P w K mg base CX k f fd ps sp :=
 ⟨F.len,fun A outer s H args us vs Q E hr=>F.run A outer s H args us vs Q E (hr.mono h)⟩
theorem Zav(G:Has X.prog X.w X.K X.mg X.base x ps j sp)(hr:Room k X.A)(hg:Gl X x)(ha:PA X (e::es) t)(hk:j<=k:=by decide)(hdb:(x == ("__debug__" : Str))=false:=by decide)
  (he:starEach (e::es) X.env=(false,eval e X.env)::starEach es X.env:=by rfl) (hpl:(backTo pos (starEach es X.env)).any (·.1)=false:=by rfl) :
  PE X (.Call (.Name x p) (e::es) [] pos) (ZkP sp [] E0 t):=by
 obtain⟨f,fd,F,b,kp,m⟩:=G.ex;exact ZjO (F.room hk) hr hg m kp b .nil ZiW ha hdb he hpl
end
mutual
inductive Dp(K:PySem.W.Frag)(H:Hp):V->PyData->Prop
 | non:Dp K H .non .none
 | bl (b:Bool):Dp K H (.bl b) (.bool b)
 | int (i:Int):Dp K H (.int i) (.int i)
 | str (x:Str):Dp K H (.str x) (.str x)
 | lst {a:Addr} {xs:List V} {ds:List PyData}:SqL K H a xs->DpAll K H xs ds->Dp K H (.ref a) (.list ds)
 | tup {a:Addr} {xs:List V} {ds:List PyData}:SqT K H a xs->DpAll K H xs ds->Dp K H (.ref a) (.tuple ds)
inductive DpAll(K:PySem.W.Frag)(H:Hp):List V->List PyData->Prop
 | nil:DpAll K H [] []
 | cons {v:V} {vs:List V} {d:PyData} {ds:List PyData}:Dp K H v d->DpAll K H vs ds->DpAll K H (v::vs) (d::ds)
end
section
variable{X:Cx}{pins:List (Addr×Obj)}{σ : St}{H:Hp}{s:Shared}
mutual
theorem Dp.reads(I:Inv X pins σ H s):∀{v:V}{d:PyData}{u:Value},Dp X.K H v d->RelV v u->∃as,Reads s.heap u d as
 | _,_,u,.non,r=>by
  obtain rfl:u=Value.none:=r;exact⟨_,.none⟩
 | _,_,u,.bl b,r=>by
  obtain rfl:u=Value.bool b:=r;exact⟨_,.bool b⟩
 | _,_,_,.int i,⟨t,e⟩=>by
  subst e;exact⟨_,.int i t⟩
 | _,_,_,.str x,⟨t,e⟩=>by
  subst e;exact⟨_,.str x t⟩
 | _,_,u,@Dp.lst _ _ a xs ds hq hall,r=>by
  obtain rfl:u=Value.ref a:=r;obtain⟨its,rv,⟨o,n,e,hc,_,hd⟩,_⟩:=I.list hq;obtain⟨as,ha⟩:=DpAll.reads I hall rv;exact⟨_,.list e hc hd (by simpa using ha)⟩
 | _,_,u,@Dp.tup _ _ a xs ds hq hall,r=>by
  obtain rfl:u=Value.ref a:=r;obtain⟨its,rv,⟨o,e,hc,n,hd⟩,_⟩:=I.tuple hq;obtain⟨as,ha⟩:=DpAll.reads I hall rv;exact⟨_,.tuple e hc hd (by simpa using ha)⟩
theorem DpAll.reads(I:Inv X pins σ H s):∀{vs:List V}{ds:List PyData}{us:List Value},DpAll X.K H vs ds->Vals vs us->∃as,ReadsAll s.heap us ds as
 | _,_,_,.nil,.nil=>⟨_,.nil⟩
 | _,_,_,.cons h t,.cons r rs=>by
  obtain⟨as,ha⟩:=Dp.reads I h r;obtain⟨bs,hb⟩:=DpAll.reads I t rs;exact⟨_,.cons ha hb⟩
end
end
section
variable{X:Cx}
def Zls(K:PySem.W.Frag)(neg:Bool):R2:=fun x y H Q=>∃d e,Dp K H x d/\Dp K H y e/\d.canLay0=true/\e.canLay0=true/\min d.depth e.depth<=200/\Q (.bl (if neg then !PyData.eqv d e else PyData.eqv d e)) H
theorem ZkU(hu:X.A.units+200<cLine):OpR X (compareOp .Eq) (Zls X.K false):=by
 intro pins s σ H x y v u Q I rx ry h;obtain⟨d,e,hx,hy,h1,h2,hd,q⟩:=h;obtain⟨as,ra⟩:=hx.reads I rx;obtain⟨bs,rb⟩:=hy.reads I ry;exact PySem.SeqAt.compareEq_reads ra rb h1 h2 (by lia) ⟨.bl _,H,I,rfl,q⟩
theorem Zjm(hu:X.A.units+200<cLine):OpR X (compareOp .NotEq) (Zls X.K true):=by
 intro pins s σ H x y v u Q I rx ry h;obtain⟨d,e,hx,hy,h1,h2,hd,q⟩:=h;obtain⟨as,ra⟩:=hx.reads I rx;obtain⟨bs,rb⟩:=hy.reads I ry;exact PySem.SeqAt.compareNe_reads ra rb h1 h2 (by lia) ⟨.bl _,H,I,rfl,q⟩
theorem Zcj{A:Around}{k:Nat}(hr:Room k A):A.units+200<cLine:=by
 have:=hr.un;lia
end
theorem Zj.new{H:Hp}{p:Addr}{o:HO}(h:H p=none):Zj H (upd H p o):=fun b u q=>by
 rw[Zh (Zi q h)];exact q
theorem Zj.upd_new{H H':Hp}{p:Addr}{o:HO}(h:Zj H H')(hp:H p=none):Zj H (upd H' p o):=fun b u q=>by
 rw[Zh (Zi q hp)];exact h b u q
theorem cut{X:Cx}{body:List Stmt}{D:Ends}{σ : St}{H:Hp}(n:Nat)(R:St->Hp->Prop)(h2:∃u,PSs X (body.drop n) u/\∀ σ' H',R σ' H'->u D σ' H')
  (h1:∀u,PSs X (body.drop n) u->(∀ σ' H',R σ' H'->u D σ' H')->∃t,PSs X body t/\t D σ H):∃t,PSs X body t/\t D σ H :=
 let ⟨u,a,b⟩:=h2
 h1 u a b
theorem Ze0{α : Type}(l:List α)(a : α):(l ++ [a])[(l ++ [a]).length-1]?= some a:=by
 simp
end L2
namespace Fg
open PySem L2 FgM
abbrev SL:Str := "/"
def ZhH(t:Str):Prop:=t.cps.toList ≠ []/\∀c∈t.cps.toList,97<=c/\c<=122
def ZiU(t:Str):Prop := ∀c∈t.cps.toList,97<=c/\c<=122
theorem ZfI(x y:Str):(x++y).cps.toList=x.cps.toList++y.cps.toList:=by
 show(x.cps++y.cps).toList=_;simp
theorem Zed{x y:Str}(hx:ZiU x)(hy:ZiU y):ZiU (x++y):=fun c hc=>by
 rw[ZfI] at hc;exact(List.mem_append.mp hc).elim (hx c) (hy c)
theorem ZhH.let0{t:Str}(h:ZhH t):ZiU t:=h.2
theorem ZkV{x y:Str}(hx:ZhH x)(hy:ZiU y):ZhH (x++y):=⟨by rw[ZfI];intro z;exact hx.1 (List.append_eq_nil_iff.mp z).1,Zed hx.2 hy⟩
theorem ZkZ{x y:Str}(hx:ZiU x)(hy:ZhH y):ZhH (x++y):=⟨by rw[ZfI];intro z;exact hy.1 (List.append_eq_nil_iff.mp z).2,Zed hx hy.2⟩
theorem ZdY{c:Nat}(h1:97<=c)(h2:c<=122):ZhH ⟨#[c]⟩:=⟨by simp,fun d hd=>by simp at hd;lia⟩
theorem ZiU.ok{t:Str}(h:ZiU t):PyData.strOk t=true:=by
 unfold PyData.strOk;rw[Array.all_eq_true_iff_forall_mem];intro c hc;have:=h c (by simpa using hc);exact decide_eq_true (by lia)
def ABC:Str := "abcdefghijklmnopqrstuvwxyz"
theorem ZjM:∀n:_root_.Fin 26,97<=ABC.cps.toList.getD n.val 0/\ABC.cps.toList.getD n.val 0<=122/\n.val<ABC.cps.toList.length:=by decide
theorem ZhA{i:Int}(h0:0<=i)(h1:i<26):∃c,atI ABC.cps.toList i=some c/\97<=c/\c<=122:=by
 obtain⟨n,rfl⟩:=Int.eq_ofNat_of_zero_le h0;obtain⟨a,b,c⟩:=ZjM ⟨n,by lia⟩;refine⟨_,Zbj (List.getElem?_eq_getElem c),?_,?_⟩
 ·rw[List.getD_eq_getElem?_getD,List.getElem?_eq_getElem c] at a;exact a
 ·rw[List.getD_eq_getElem?_getD,List.getElem?_eq_getElem c] at b;exact b
theorem ZjC{ns:List Int}{k:Int}(h0:0<=k)(h:k<(ns.length:Int)):∃v:Int,atI (ns.map V.int) k=some (.int v):=by
 obtain⟨n,rfl⟩:=Int.eq_ofNat_of_zero_le h0;have hn:n<ns.length:=by lia
 exact⟨ns[n],Zbj (by rw[List.getElem?_map,List.getElem?_eq_getElem hn];rfl)⟩
theorem Zfk{ws:List Str}{n:Nat}(h:n<ws.length):atI (ws.map V.str) ((n:Nat):Int)=some (.str ws[n]):=Zbj (by rw[List.getElem?_map,List.getElem?_eq_getElem h];rfl)
def Zfc(K:PySem.W.Frag):Sp:=fun vs H Q _=>∃(a:Addr)(ns:List Int)(k:Int),vs=[.ref a,.int k]/\SqL K H a (ns.map V.int)/\ns.length<=63/\0<=k/\∀v:Int,Q (.int v) H
def ZiO(K:PySem.W.Frag):Sp:=fun vs H Q _=>∃(a:Addr)(ns:List Int),vs=[.ref a]/\SqL K H a (ns.map V.int)/\ns.length<=63/\∀H',Q (.bl true) H'
theorem Zd3{n:Nat}(h:n<=100000):n<=sizeLine:=Nat.le_trans h (by decide)
theorem Zq{n:Nat}(h:n<=100000):n<sizeLine:=Nat.lt_of_le_of_lt h (by decide)
theorem ZfC(x y:Str):(x++y).length=x.length+y.length:=by
 show(x.cps++y.cps).size=_;rw[Array.size_append];rfl
theorem Zhy(j:Int):(0:Int)<if j > 1 then j else 1:=by
 split
 ·rename_i h
  exact Int.lt_trans (by decide) h
 ·decide
theorem Ziy(xs:List V)(n:Nat):ZjL xs (some (n:Int)) none=xs.drop n:=by
 unfold ZjL;rw[HT.ZjA,HT.ZiL];rw[List.take_of_length_le (by rw[List.length_drop];exact Nat.le_refl _)];by_cases h:n<=xs.length
 ·rw[Nat.min_eq_left h]
 ·rw[Nat.min_eq_right (by lia),List.drop_length,List.drop_eq_nil_of_le (by lia)]
theorem ZfD{K:PySem.W.Frag}{H:Hp}:∀ws:List Str,DpAll K H (ws.map V.str) (ws.map PyData.str)
 | []=>.nil
 | w::ws=>.cons (.str w) (ZfD ws)
theorem Zf7:∀{ws:List Str},(∀w∈ws,PyData.strOk w=true)->PyData.canLayAll0 (ws.map PyData.str)=true
 | [],_=>rfl
 | w::ws,h=>by
  show(PyData.strOk w&&PyData.canLayAll0 (ws.map PyData.str))=true;rw[h w (List.mem_cons_self ..),Zf7 fun x hx=>h x (List.mem_cons_of_mem _ hx)];rfl
theorem ZdD:∀ws:List Str,PyData.depthAll (ws.map PyData.str)=0
 | []=>rfl
 | w::ws=>by
  show max (PyData.depth (.str w)) (PyData.depthAll (ws.map PyData.str))=0;rw[ZdD ws];rfl
end Fg
namespace L2
open PySem PySem.Spec PyProof.Rows
section
variable{X:Cx}
theorem ZcO(hu:X.A.units+200<cLine):OpR X (compareOp .NotEq) (fun x y H Q=>∃a b xs,x=.ref a/\y=.ref b/\SqL X.K H a xs/\SqL X.K H b []/\Q (.bl (!xs.isEmpty)) H):=by
 intro pins s σ H x y v u Q I rx ry h;obtain⟨a,b,xs,rfl,rfl,ha,hb,q⟩:=h;cases xs with
 | nil=>exact Zjm hu pins s σ H _ _ v u Q I rx ry ⟨.list [],.list [],.lst ha .nil,.lst hb .nil,rfl,rfl,by decide,q⟩
 | cons x xs =>
  cases rx;cases ry;obtain⟨its,r,pl,_⟩:=I.list ha;obtain⟨its2,r2,pl2,_⟩:=I.list hb;have l1:=r.length;have l2:=r2.length;refine PySem.SeqAt.RcNeAt.lists_lengths pl.isList pl2.isList ?_ (by lia) X.prog X.w X.xe _ ⟨.bl _,H,I,rfl,q⟩;rw[List.size_toArray,List.size_toArray,<- l1,<- l2];rfl
end
section
variable{prog:Program}{w:World}{A:Around}{s:Shared}{R:Result->Shared->Prop}
abbrev no0:Value->Shared->Prop:=fun _ _=>False
theorem Zgv{elt target iter:Expr}{scope:Scope}{pos:Pos}{it acc:Value}{env:Env}(I:Nat->Shared->Prop)
  (turn:∀n s,I n s->wpAny (model prog w) A (pyNext it) (fun r s1=>match r with
   | none=>R (.ok .next) s1
   | some v=>wpAny (model prog w) A (letOwnedTupleGo target it v) (fun _ s2=>wpAny (model prog w) A (assign target env v) (fun _ s3=>wpAny (model prog w) A (eval elt env) (fun x s4 =>
     wpAny (model prog w) A (call (.builtin "list.append") [acc,x]) (fun _ s5=>∃m,m<n/\I m s5) no0 s4) no0 s3) no0 s2) no0 s1) no0 s)
  (n:Nat) (h:I n s):codeAny (model prog w) A (.compLoop (.ListComp elt [⟨target,iter,[],0⟩] scope pos) 0 it acc env) R s:=by
 refine codeAny_loop rfl I (fun n s hI=>?_) n h;show wpAny _ _ ((compTurn (.ListComp elt [⟨target,iter,[],0⟩] scope pos) 0 it acc env).onRaise (fun x=>do noteFrame x env;theTreesLotGoes x)) _ _ s;refine wpAny_noted ?_;rw[compTurn_list1];refine wpAny_bind (wpAny_standAt (wpAny_bind (wpAny_mono (turn n s hI) (fun r s1 h1=>?_) fun _ _ h'=>h'.elim)));cases r with
 | none=>exact wpAny_pure h1
 | some v =>
  refine wpAny_bind (wpAny_mono h1 (fun _ s2 h2=>?_) fun _ _ h'=>h'.elim);refine wpAny_bind (wpAny_mono h2 (fun _ s3 h3=>?_) fun _ _ h'=>h'.elim);refine wpAny_bind (wpAny_bind (wpAny_mono h3 (fun x s4 h4=>?_) fun _ _ h'=>h'.elim));exact wpAny_bind (wpAny_mono h4 (fun _ s5 h5=>wpAny_pure (wpAny_pure ⟨rfl,h5⟩)) fun _ _ h'=>h'.elim)
end
def Z9(X:Cx)(N:List Str)(scope:Scope)(cl:List (Str×Addr))(C:Addr)(fp:List Addr)(s:Shared)(H:Hp):Cx where
 prog:=X.prog
 w:=X.w
 K:=X.K
 mg:=X.mg
 base:=X.base
 A:=X.A
 N:=N
 s₀ := s
 H₀ := H
 env:=compEnvC scope cl C X.env
 outer:=X.stack
 stack:=X.stack
 ex:=fp
 fn:=fun _=>false
 calm:=X.calm
 pn:=[]
 xe:=no0
section
variable{X:Cx}{pins:List (Addr×Obj)}{σ : St}{H:Hp}{s:Shared}
theorem Zip{N:List Str}{scope:Scope}{cl:List (Str×Addr)}{C:Addr}{fp:List Addr}(I:Inv X pins σ H s)(hk:scope.kind=.function)(hC:s.heap.objs.size<=C)(hcl:∀x c,cl.lookup x=some c->X.env.cells.lookup x=some c)
  (hhas:∀x,((compEnvC scope cl C X.env).kindOf x=some .cell\/(compEnvC scope cl C X.env).kindOf x=some .free)->∃c,cl.lookup x=some c)
  (hf:∀b∈fp,ZeH X pins H b) (hlt:∀b∈fp,b<s.heap.objs.size):(Z9 X N scope cl C fp s H).Ok where
 mod:=I.ok.mod
 kind:=hk
 glob:=I.ok.glob
 blt:=I.ok.blt
 above:=hC
 inj:=fun x y c e1 e2=>I.ok.inj x y c (hcl x c e1) (hcl y c e2)
 has:=hhas
 cab:=fun x c e=>by cases e
 hd:=I.ok.hd
 frames:=I.ok.frames
 stk:=.inl rfl
 exf:=fun b hb=>⟨fun z=>absurd (Nat.lt_of_lt_of_le (hlt b hb) hC) (by rw[show b=C from z];exact Nat.lt_irrefl _),fun x c e=>(hf b hb).2.2.2.2.1 x c (hcl x c e)⟩
 bs:=fun b o e=>⟨(I.bs b o e).1,(I.bs b o e).2⟩
 bsz:=Nat.le_trans I.ok.bsz I.sz
 noex:=fun b o e hb=>by
  rcases(hf b hb).2.2.2.1 with z|z
  ·exact I.ok.noex b o e z
  ·exact absurd (Nat.lt_of_lt_of_le (Heap.lt_size e) (Nat.le_trans I.ok.bsz z)) (Nat.lt_irrefl _)
 exfs:=fun b hb hm=>by
  rcases List.mem_cons.mp (I.stkSub b hm) with z|z
  ·exact(hf b hb).2.1 z
  ·exact(hf b hb).2.2.1 z
 funs:=I.stack
 frf:=I.stkFree
def capσ(σ : St)(k:Nat)(cap:List (Str×Nat)):St:=List.replicate k none++cap.map fun p=>(σ[p.2]?).getD none
theorem Zco{scope:Scope}{cl:List (Str×Addr)}{fp:List Addr}{tn:List Str}{cap:List (Str×Nat)}{h1:Heap}(I:Inv X pins σ H s)(hk:scope.kind=.function)(hcl:∀x c,cl.lookup x=some c->X.env.cells.lookup x=some c)
  (hhas:∀x,((compEnvC scope cl s.heap.objs.size X.env).kindOf x=some .cell\/(compEnvC scope cl s.heap.objs.size X.env).kindOf x=some .free)->∃c,cl.lookup x=some c)
  (hf:∀b∈fp,ZeH X pins H b) (hlt:∀b∈fp,b<s.heap.objs.size)
  (hcap:∀p∈cap,X.N[p.2]?= some p.1/\X.env.scope.names.lookup p.1=some .cell/\((compEnvC scope cl s.heap.objs.size X.env).kindOf p.1=some .cell\/(compEnvC scope cl s.heap.objs.size X.env).kindOf p.1=some .free))
  (hns:h1.Ns s.heap.objs.size (fun _=>none)) (hkp:∀b o,s.heap.get? b=some o->h1.get? b=some o) :
  Inv (Z9 X (tn++cap.map (·.1)) scope cl s.heap.objs.size fp s H) [] (capσ σ tn.length cap) H { s with heap:=h1 } where
 ok:=Zip I hk (Nat.le_refl _) hcl hhas hf hlt
 os:=rfl
 bare:=I.bare
 base:=Un.kept hkp
 loc:=by
  refine⟨fun _=>none,hns,fun i x v e1 e2 hv=>?_⟩;unfold capσ at e2;by_cases hi:i<tn.length
  ·rw[List.getElem?_append_left (by rw[List.length_replicate];exact hi),List.getElem?_replicate,if_pos hi] at e2;cases e2
  ·have hN:(cap.map (·.1))[i-tn.length]?= some x:=by
    have:(tn++cap.map (·.1))[i]?= some x:=e1;rw[List.getElem?_append_right (by lia)] at this;exact this
   rw[List.getElem?_append_right (by rw[List.length_replicate];lia),List.length_replicate,List.getElem?_map] at e2;rw[List.getElem?_map] at hN;cases hp:cap[i-tn.length]? with
   | none=>rw[hp] at hN;cases hN
   | some p =>
    rw[hp] at hN e2;have hx:p.1=x:=Option.some.inj hN;have he:(σ[p.2]?).getD none=some v:=Option.some.inj e2;obtain⟨c1,c2,c3⟩:=hcap p (List.mem_of_getElem? hp);subst hx;have hs : σ[p.2]?= some (some v):=by
     cases q : σ[p.2]? with
     | none=>rw[q] at he;cases he
     | some z=>rw[q] at he;rw[show z=some v from he]
    obtain⟨m,hn,hl⟩:=I.loc;obtain⟨u,r,l⟩:=hl p.2 p.1 v c1 hs (.inr (.inl c2));refine⟨u,r,.inr ⟨c3,?_⟩⟩;obtain⟨c,hc⟩:=hhas p.1 c3;refine⟨c,hc,?_⟩;rcases l with⟨l1,_⟩|⟨_,c',l2,o,ho,hd⟩
    ·have:X.env.kindOf p.1=some .cell:=c2;rw[this] at l1;cases l1
    ·have:c=c':=Option.some.inj ((hcl p.1 c hc).symm.trans l2);subst this;exact⟨o,hkp _ _ ho,hd⟩
 cell:=fun x c e=>by
  obtain⟨v,o,ho,hd⟩:=I.cell x c (hcl x c e);exact⟨v,o,hkp _ _ ho,hd⟩
 free:=I.hok.fresh (Nat.le_refl _)
 freeC:=fun x c e=>I.freeC x c (hcl x c e)
 pin:=fun p hp=>by cases hp
 hok:=I.hok.kept hkp
 len:=by
  unfold capσ;show _=(tn++cap.map (·.1)).length;rw[List.length_append,List.length_append,List.length_replicate,List.length_map,List.length_map]
end
def Zld(wi:TI)(k:Nat)(cap:List (Str×Nat))(g:TG)(te:TE):TE:=fun σ H Q=>wi σ H fun J H1=>∀p,H1 p=none->∃W:Nat->Nat->List V->St->Hp->Prop,(∃m,W 0 m [] (capσ σ k cap) (upd H1 p (.lst []))) /\
 ∀i m ys σc H2,W i m ys σc H2->H2 p=some (.lst ys)/\((J.stop i H2/\Q (.ref p) H2)\/(J.go i H2/\∀x H3,J.yld i H2 x H3->g x σc H3 fun σ3 H4=>te σ3 H4 fun v H5 =>
  H5 p=some (.lst ys)/\ys.length<sizeLine/\∃m',m'<m/\W (i+1) m' (ys ++ [v]) σ3 (upd H5 p (.lst (ys ++ [v])))))
section
variable{X:Cx}{elt iter tg:Expr}{scope:Scope}{pos:Pos}{wi:TI}{g:TG}{te:TE}{cl:List (Str×Addr)}
theorem ZgY{pins:List (Addr×Obj)}{σ : St}{H2:Hp}{s2:Shared}{it:Addr}{fp:List Addr}{tnn:Nat->Heap->Prop}{J:It}{R:Addr->Hp->Prop}{use:Option (Value->Sem Unit)}{Qp:Value->Shared->Prop}(tn:List Str)(cap:List (Str×Nat))(hg:∀C fp s H,PG (Z9 X (tn++cap.map (·.1)) scope cl C fp s H) tg g)(he:∀C fp s H,PE (Z9 X (tn++cap.map (·.1)) scope cl C fp s H) elt te)(hc:X.calm=true)(hcell:∀y∈scope.names,y.2 ≠ .cell)(hk:scope.kind=.function)(hcl:∀x c,cl.lookup x=some c->X.env.cells.lookup x=some c)(hhas:∀C x,((compEnvC scope cl C X.env).kindOf x=some .cell\/(compEnvC scope cl C X.env).kindOf x=some .free)->∃c,cl.lookup x=some c)(hcap:∀C,∀p∈cap,X.N[p.2]?= some p.1/\X.env.scope.names.lookup p.1=some .cell/\((compEnvC scope cl C X.env).kindOf p.1=some .cell\/(compEnvC scope cl C X.env).kindOf p.1=some .free))
  (I2:Inv X pins σ H2 s2) (T:Turn X.prog X.w X.K tg J fp it tnn) (st2:tnn 0 s2.heap) (f2:∀b∈fp,ZeH X pins H2 b) (q2:∀p,H2 p=none->∃W:Nat->Nat->List V->St->Hp->Prop,(∃m,W 0 m [] (capσ σ tn.length cap) (upd H2 p (.lst []))) /\
 ∀i m ys σc H2,W i m ys σc H2->H2 p=some (.lst ys)/\((J.stop i H2/\R p H2)\/(J.go i H2/\∀x H3,J.yld i H2 x H3->g x σc H3 fun σ3 H4=>te σ3 H4 fun v H5=>H5 p=some (.lst ys)/\ys.length<sizeLine/\∃m',m'<m/\W (i+1) m' (ys ++ [v]) σ3 (upd H5 p (.lst (ys ++ [v]))))))
  (hfin:∀(s3:Shared)(H3:Hp),Inv X pins σ H3 s3->(∀b∈fp,ZeH X pins H3 b)->∀(acc:Addr)(σ6:St)(H6:Hp)(s6:Shared),Inv (Z9 X (tn++cap.map (·.1)) scope cl s3.heap.objs.size fp s3 H3) [] σ6 H6 s6->R acc H6->compPost (model X.prog X.w) X.A X.xe use Qp (.ref acc) s3.heap.objs.size (.ok .next) s6) :
  wpAny (model X.prog X.w) X.A (newList []) (fun acc s₃=>wpAny (model X.prog X.w) X.A (newFunctionEnv scope X.env.globals cl [] X.env.qual none Value.none (some X.env)) (fun cenv s₄=>codeAny (model X.prog X.w) X.A (Code.compStart (.ListComp elt [⟨tg,iter,[],0⟩] scope pos) 0 (Value.ref it) acc { cenv with scope:=relabel scope X.env }) (compPost (model X.prog X.w) X.A X.xe use Qp acc cenv.locals) s₄) X.xe s₃) X.xe s2:=by
 have fresh:H2 s2.heap.objs.size=none:=I2.fresh;obtain⟨W,⟨m0,w0⟩,turn⟩:=q2 s2.heap.objs.size fresh;have lt2:∀b∈fp,b<s2.heap.objs.size:=fun b hb=>by
  obtain⟨o,ho,_⟩:=T.obj _ _ st2 b hb;exact Heap.lt_size ho
 have I3:Inv X pins σ (upd H2 s2.heap.objs.size (.lst [])) { s2 with heap:=s2.heap.push { cls:=.type "list",data:=.seq ([]:List Value).toArray } }:=I2.lnew (its:=[]) (t':=s2.toks) .nil (Nat.zero_le _);refine wpAny_newObj_type (wpAny_newFunctionEnv hcell (by intro y hy;simp at hy) (fun h1 hns1 hsb1=>?_) hk);dsimp only at hns1 hsb1 ⊢;generalize hS3:({ s2 with heap:=s2.heap.push { cls:=.type "list",dict:=none,data:=.seq ([]:List Value).toArray } }:Shared)=s3 at I3;have hh3:s2.heap.push { cls:=.type "list",dict:=none,data:=.seq ([]:List Value).toArray }=s3.heap:=by rw[<- hS3]
 rw[hh3] at hns1 hsb1 ⊢;have sz3:s3.heap.objs.size=s2.heap.objs.size+1:=by rw[<- hh3,Heap.size_push]
 have lt3:∀b∈fp,b<s3.heap.objs.size:=fun b hb=>Nat.lt_of_lt_of_le (lt2 b hb) (by rw[sz3];exact Nat.le_succ _);have f3:∀b∈fp,ZeH X pins (upd H2 s2.heap.objs.size (.lst [])) b:=fun b hb=>⟨by rw[Zh (Nat.ne_of_lt (lt2 b hb))];exact(f2 b hb).1,(f2 b hb).2⟩;have keep3:∀b o,s3.heap.get? b=some o->h1.get? b=some o:=fun b o q=>hsb1.extBut b o (Nat.ne_of_lt (Heap.lt_size q)) (Heap.get?_push_of_some _ q);have st3:tnn 0 h1:=T.keep _ _ _ st2 fun b hb o q=>keep3 b o (by rw[<- hh3];exact Heap.get?_push_of_some _ q);have I4:=(Zco (tn:=tn) I3 hk hcl (hhas _) f3 lt3 (hcap _) hns1 keep3).tok (s2.toks+([]:List (Str×Value)).length);have loop:codeAny (model X.prog X.w) X.A (.compLoop (.ListComp elt [⟨tg,iter,[],0⟩] scope pos) 0 (.ref it) (.ref s2.heap.objs.size) (compEnvC scope cl s3.heap.objs.size X.env))
   (compPost (model X.prog X.w) X.A X.xe use Qp (.ref s2.heap.objs.size) s3.heap.objs.size) { s3 with heap:=h1,toks:=s2.toks+([]:List (Str×Value)).length }:=by
  refine Zgv (fun n s'=>∃i ys σ' H',Inv (Z9 X (tn++cap.map (·.1)) scope cl s3.heap.objs.size fp s3 (upd H2 s2.heap.objs.size (.lst []))) [] σ' H' s'/\tnn i s'.heap/\(∀b∈fp,H' b=none)/\W i n ys σ' H') ?_ m0
   ⟨0,[],_,_,I4,st3,fun b hb=>(f3 b hb).1,w0⟩
  rintro n s5 ⟨i,ys,σ5,H5,I5,st5,fr5,w5⟩;obtain⟨hD,alt⟩:=turn i n ys σ5 H5 w5;have stat:∀{H':Hp},(∀b∈fp,H' b=none)->∀b∈fp,ZeH (Z9 X (tn++cap.map (·.1)) scope cl s3.heap.objs.size fp s3 (upd H2 s2.heap.objs.size (.lst []))) [] H' b :=
   fun hn b hb=>⟨hn b hb,(I4.ok.exf b hb).1,I4.ok.exfs b hb,.inl hb,(I4.ok.exf b hb).2,fun p hp=>by cases hp⟩
  rcases alt with⟨stop,qn⟩|⟨go,step⟩
  ·refine thn (T.done (Z9 X (tn++cap.map (·.1)) scope cl s3.heap.objs.size fp s3 (upd H2 s2.heap.objs.size (.lst []))) rfl rfl rfl hc i [] s5 σ5 H5 no0 I5 (stat fr5) st5 stop) fun r s6 ⟨hr,I6⟩=>?_;subst hr;exact hfin s3 _ I3 f3 _ σ5 H5 s6 I6 qn
  ·refine thn (T.item (Z9 X (tn++cap.map (·.1)) scope cl s3.heap.objs.size fp s3 (upd H2 s2.heap.objs.size (.lst []))) rfl rfl rfl hc i [] s5 σ5 H5 no0 I5 (stat fr5) st5 go) fun r s6 ⟨u,hr,h6⟩=>?_;subst hr;refine thn h6 fun _ s7 ⟨x,H7,I7,r7,y7,st7,fr7⟩=>?_;have I7':=I7.pinned (stat fr7) (T.obj _ _ st7);refine thn (hg _ _ _ _ _ s7 σ5 H7 x u _ I7' r7 (step x H7 y7)) fun _ s8 ⟨σ8,H8,I8,q8⟩=>?_;refine thn (he _ _ _ _ _ s8 σ8 H8 _ I8 q8) fun xv s9 ⟨v9,H9,I9,r9,q9⟩=>?_;obtain⟨hD9,hl9,m',hm',w9⟩:=q9;refine thn (Zaw _ s9 σ8 H9 (.ref s2.heap.objs.size) [v9] (.ref s2.heap.objs.size) [xv] (fun z H'=>z=.non/\H'=upd H9 s2.heap.objs.size (.lst (ys ++ [v9]))) I9 rfl (.cons r9 .nil)
    ⟨s2.heap.objs.size,ys,v9,rfl,rfl,hD9,hl9,rfl,rfl⟩) fun z s10 ⟨zv,H10,I10,_,_,eH⟩=>?_
   subst eH;refine⟨m',hm',i+1,ys ++ [v9],σ8,_,I10.unpinned,T.keep _ _ _ st7 fun b hb o q=>(I10.pin (b,o) (List.mem_append_right _ (List.mem_append_right _ (Zas hb q)))).1,fun b hb=>?_,w9⟩;obtain⟨o,q,d⟩:=T.obj _ _ st7 b hb;exact(I10.pin (b,o) (List.mem_append_right _ (List.mem_append_right _ (Zas hb q)))).2.1
 subst hS3;exact codeAny_compStart_list loop (T.self X.A 0 _ _ _ st3 loop)
theorem ZdS(tn:List Str)(cap:List (Str×Nat))(hi:PI X tg iter wi)(hg:∀C fp s H,PG (Z9 X (tn++cap.map (·.1)) scope cl C fp s H) tg g)(he:∀C fp s H,PE (Z9 X (tn++cap.map (·.1)) scope cl C fp s H) elt te)
  (hc:X.calm=true) (hclos:closureFor scope X.env=pure cl) (hcell:∀y∈scope.names,y.2 ≠ .cell) (hk:scope.kind=.function) (hnames:∀y∈scope.names,y.2=.local->scope.names.lookup y.1=some .local)
  (hcl:∀x c,cl.lookup x=some c->X.env.cells.lookup x=some c)
  (hhas:∀C x,((compEnvC scope cl C X.env).kindOf x=some .cell\/(compEnvC scope cl C X.env).kindOf x=some .free)->∃c,cl.lookup x=some c)
  (hcap:∀C,∀p∈cap,X.N[p.2]?= some p.1/\X.env.scope.names.lookup p.1=some .cell/\((compEnvC scope cl C X.env).kindOf p.1=some .cell\/(compEnvC scope cl C X.env).kindOf p.1=some .free))
  (hs:∀v,foldedSetIterable iter X.env v=pure v):PE X (.ListComp elt [⟨tg,iter,[],0⟩] scope pos) (Zld wi tn.length cap g te):=by
 intro pins s σ H Q I h;rw[eval_ListComp];refine wpAny_comprehension_free (use:=none) rfl hs hclos hk hnames (thn (hi pins s σ H _ I h) fun v s1 h1=>thn h1 fun itv s2 h2=>?_);obtain⟨it,fp,tnn,J,H2,e,I2,T,st2,f2,q2⟩:=h2;subst e;refine ZgY (R:=fun p H6=>Q (.ref p) H6) tn cap hg he hc hcell hk hcl hhas hcap I2 T st2 f2 q2 fun s3 H3 I3 f3 acc σ6 H6 s6 I6 q6=>?_;obtain⟨m,hn,_⟩:=I6.loc;refine⟨m,hn,fun h' sb=>?_⟩;have nC:∀b o,s3.heap.get? b=some o->b≠s3.heap.objs.size:=fun b o q=>Nat.ne_of_lt (Heap.lt_size q);have u:Un (frs X.stack) fp H3 H6 s3.heap h':=by
  have u0:=I6.base;refine⟨fun b o q n hb hx=>(sb.2 b (nC b o q)).trans (u0.keep b o q n hb hx),fun b o q n hb hx=>?_,u0.free,fun b o q hx=>?_,u0.tups,u0.frzs,u0.tbls⟩
  ·obtain⟨sl,e⟩:=u0.slot b o q n hb hx;exact⟨sl,(sb.2 b (nC b o q)).trans e⟩
  ·obtain⟨o',e⟩:=u0.there b o q hx;exact⟨o',(sb.2 b (nC b o q)).trans e⟩
 have free6:H6 s3.heap.objs.size=none:=I6.free;have ok6:HOk X.prog X.w H6 h':=fun b o q=>(I6.hok b o q).stay (fun c v hcv r=>(sb.2 c (by
  rcases hcv with z|z
  ·rw[z];exact Zi q free6
  ·exact Zi z free6)).trans r) (fun _ q=>q) fun _ _ q=>q
 have I':=I3.call (g':=s6.gens) (d':=s6.drawn) (t':=s6.toks) (ch:=fp) u ok6 I6.bare fun b hb=>⟨(f3 b hb).2.2.2.1,(f3 b hb).2.1,(f3 b hb).2.2.2.2.1,(f3 b hb).2.2.2.2.2⟩;have e:({ s6 with heap:=h' }:Shared)= { s3 with heap:=h',gens:=s6.gens,drawn:=s6.drawn,toks:=s6.toks }:=by
  have ho:s6.os=s3.os:=I6.os;obtain⟨a1,a2,a3,a4,a5⟩:=s6;obtain⟨b1,b2,b3,b4,b5⟩:=s3;simp only at ho;subst ho;rfl
 rw[e];exact⟨.ref _,H6,I',rfl,q6⟩
end
section
variable{prog:Program}{w:World}{A:Around}{s:Shared}{R:Result->Shared->Prop}
theorem Zgy{elt ct target iter:Expr}{scope:Scope}{pos:Pos}{it acc:Value}{env:Env}(I:Nat->Shared->Prop)
  (turn:∀n s,I n s->wpAny (model prog w) A (pyNext it) (fun r s1=>match r with
   | none=>R (.ok .next) s1
   | some v=>wpAny (model prog w) A (letOwnedTupleGo target it v) (fun _ s2=>wpAny (model prog w) A (assign target env v) (fun _ s3=>wpAny (model prog w) A (isTrue ct env (eval ct env)) (fun ok s3' =>
     if ok=true then wpAny (model prog w) A (eval elt env) (fun x s4 =>
     wpAny (model prog w) A (call (.builtin "list.append") [acc,x]) (fun _ s5=>∃m,m<n/\I m s5) no0 s4) no0 s3' else ∃m,m<n/\I m s3') no0 s3) no0 s2) no0 s1) no0 s)
  (n:Nat) (h:I n s):codeAny (model prog w) A (.compLoop (.ListComp elt [⟨target,iter,[ct],0⟩] scope pos) 0 it acc env) R s:=by
 refine codeAny_loop rfl I (fun n s hI=>?_) n h;show wpAny _ _ ((compTurn (.ListComp elt [⟨target,iter,[ct],0⟩] scope pos) 0 it acc env).onRaise (fun x=>do noteFrame x env;theTreesLotGoes x)) _ _ s;refine wpAny_noted ?_;rw[compTurn_list];refine wpAny_bind (wpAny_standAt (wpAny_bind (wpAny_mono (turn n s hI) (fun r s1 h1=>?_) fun _ _ h'=>h'.elim)));cases r with
 | none=>exact wpAny_pure h1
 | some v =>
  refine wpAny_bind (wpAny_mono h1 (fun _ s2 h2=>?_) fun _ _ h'=>h'.elim);refine wpAny_bind (wpAny_mono h2 (fun _ s3 h3=>?_) fun _ _ h'=>h'.elim);refine wpAny_bind (wpAny_tests_one (wpAny_mono h3 (fun ok s3' h3'=>?_) fun _ _ h'=>h'.elim));cases ok with
  | true =>
   simp only[if_true] at h3' ⊢;refine wpAny_bind (wpAny_bind (wpAny_mono h3' (fun x s4 h4=>?_) fun _ _ h'=>h'.elim));exact wpAny_bind (wpAny_mono h4 (fun _ s5 h5=>wpAny_pure (wpAny_pure ⟨rfl,h5⟩)) fun _ _ h'=>h'.elim)
  | false =>
   simp only[Bool.false_eq_true,if_false] at h3' ⊢;exact wpAny_pure ⟨rfl,h3'⟩
end
def Zjv(wi:TI)(k:Nat)(cap:List (Str×Nat))(g:TG)(tt:TT)(te:TE):TE:=fun σ H Q=>wi σ H fun J H1=>∀p,H1 p=none->∃W:Nat->Nat->List V->St->Hp->Prop,(∃m,W 0 m [] (capσ σ k cap) (upd H1 p (.lst []))) /\
 ∀i m ys σc H2,W i m ys σc H2->H2 p=some (.lst ys)/\((J.stop i H2/\Q (.ref p) H2)\/(J.go i H2/\∀x H3,J.yld i H2 x H3->g x σc H3 fun σ3 H4=>tt σ3 H4 fun b H4'=>if b=true then te σ3 H4' fun v H5 =>
  H5 p=some (.lst ys)/\ys.length<sizeLine/\∃m',m'<m/\W (i+1) m' (ys ++ [v]) σ3 (upd H5 p (.lst (ys ++ [v])))
  else ∃m',m'<m/\W (i+1) m' ys σ3 H4'))
section
variable{X:Cx}{elt ct iter tg:Expr}{scope:Scope}{pos:Pos}{wi:TI}{g:TG}{tt:TT}{te:TE}{cl:List (Str×Addr)}
theorem ZdH{pins:List (Addr×Obj)}{σ : St}{H2:Hp}{s2:Shared}{it:Addr}{fp:List Addr}{tnn:Nat->Heap->Prop}{J:It}{R:Addr->Hp->Prop}{use:Option (Value->Sem Unit)}{Qp:Value->Shared->Prop}(tn:List Str)(cap:List (Str×Nat))(hg:∀C fp s H,PG (Z9 X (tn++cap.map (·.1)) scope cl C fp s H) tg g)(ht:∀C fp s H,PT (Z9 X (tn++cap.map (·.1)) scope cl C fp s H) ct tt)(he:∀C fp s H,PE (Z9 X (tn++cap.map (·.1)) scope cl C fp s H) elt te)(hc:X.calm=true)(hcell:∀y∈scope.names,y.2 ≠ .cell)(hk:scope.kind=.function)(hcl:∀x c,cl.lookup x=some c->X.env.cells.lookup x=some c)(hhas:∀C x,((compEnvC scope cl C X.env).kindOf x=some .cell\/(compEnvC scope cl C X.env).kindOf x=some .free)->∃c,cl.lookup x=some c)(hcap:∀C,∀p∈cap,X.N[p.2]?= some p.1/\X.env.scope.names.lookup p.1=some .cell/\((compEnvC scope cl C X.env).kindOf p.1=some .cell\/(compEnvC scope cl C X.env).kindOf p.1=some .free))
  (I2:Inv X pins σ H2 s2) (T:Turn X.prog X.w X.K tg J fp it tnn) (st2:tnn 0 s2.heap) (f2:∀b∈fp,ZeH X pins H2 b) (q2:∀p,H2 p=none->∃W:Nat->Nat->List V->St->Hp->Prop,(∃m,W 0 m [] (capσ σ tn.length cap) (upd H2 p (.lst []))) /\
 ∀i m ys σc H2,W i m ys σc H2->H2 p=some (.lst ys)/\((J.stop i H2/\R p H2)\/(J.go i H2/\∀x H3,J.yld i H2 x H3->g x σc H3 fun σ3 H4=>tt σ3 H4 fun b H4'=>if b=true then te σ3 H4' fun v H5=>H5 p=some (.lst ys)/\ys.length<sizeLine/\∃m',m'<m/\W (i+1) m' (ys ++ [v]) σ3 (upd H5 p (.lst (ys ++ [v]))) else ∃m',m'<m/\W (i+1) m' ys σ3 H4')))
  (hfin:∀(s3:Shared)(H3:Hp),Inv X pins σ H3 s3->(∀b∈fp,ZeH X pins H3 b)->∀(acc:Addr)(σ6:St)(H6:Hp)(s6:Shared),Inv (Z9 X (tn++cap.map (·.1)) scope cl s3.heap.objs.size fp s3 H3) [] σ6 H6 s6->R acc H6->compPost (model X.prog X.w) X.A X.xe use Qp (.ref acc) s3.heap.objs.size (.ok .next) s6) :
  wpAny (model X.prog X.w) X.A (newList []) (fun acc s₃=>wpAny (model X.prog X.w) X.A (newFunctionEnv scope X.env.globals cl [] X.env.qual none Value.none (some X.env)) (fun cenv s₄=>codeAny (model X.prog X.w) X.A (Code.compStart (.ListComp elt [⟨tg,iter,[ct],0⟩] scope pos) 0 (Value.ref it) acc { cenv with scope:=relabel scope X.env }) (compPost (model X.prog X.w) X.A X.xe use Qp acc cenv.locals) s₄) X.xe s₃) X.xe s2:=by
 have fresh:H2 s2.heap.objs.size=none:=I2.fresh;obtain⟨W,⟨m0,w0⟩,turn⟩:=q2 s2.heap.objs.size fresh;have lt2:∀b∈fp,b<s2.heap.objs.size:=fun b hb=>by
  obtain⟨o,ho,_⟩:=T.obj _ _ st2 b hb;exact Heap.lt_size ho
 have I3:Inv X pins σ (upd H2 s2.heap.objs.size (.lst [])) { s2 with heap:=s2.heap.push { cls:=.type "list",data:=.seq ([]:List Value).toArray } }:=I2.lnew (its:=[]) (t':=s2.toks) .nil (Nat.zero_le _);refine wpAny_newObj_type (wpAny_newFunctionEnv hcell (by intro y hy;simp at hy) (fun h1 hns1 hsb1=>?_) hk);dsimp only at hns1 hsb1 ⊢;generalize hS3:({ s2 with heap:=s2.heap.push { cls:=.type "list",dict:=none,data:=.seq ([]:List Value).toArray } }:Shared)=s3 at I3;have hh3:s2.heap.push { cls:=.type "list",dict:=none,data:=.seq ([]:List Value).toArray }=s3.heap:=by rw[<- hS3]
 rw[hh3] at hns1 hsb1 ⊢;have sz3:s3.heap.objs.size=s2.heap.objs.size+1:=by rw[<- hh3,Heap.size_push]
 have lt3:∀b∈fp,b<s3.heap.objs.size:=fun b hb=>Nat.lt_of_lt_of_le (lt2 b hb) (by rw[sz3];exact Nat.le_succ _);have f3:∀b∈fp,ZeH X pins (upd H2 s2.heap.objs.size (.lst [])) b:=fun b hb=>⟨by rw[Zh (Nat.ne_of_lt (lt2 b hb))];exact(f2 b hb).1,(f2 b hb).2⟩;have keep3:∀b o,s3.heap.get? b=some o->h1.get? b=some o:=fun b o q=>hsb1.extBut b o (Nat.ne_of_lt (Heap.lt_size q)) (Heap.get?_push_of_some _ q);have st3:tnn 0 h1:=T.keep _ _ _ st2 fun b hb o q=>keep3 b o (by rw[<- hh3];exact Heap.get?_push_of_some _ q);have I4:=(Zco (tn:=tn) I3 hk hcl (hhas _) f3 lt3 (hcap _) hns1 keep3).tok (s2.toks+([]:List (Str×Value)).length);have loop:codeAny (model X.prog X.w) X.A (.compLoop (.ListComp elt [⟨tg,iter,[ct],0⟩] scope pos) 0 (.ref it) (.ref s2.heap.objs.size) (compEnvC scope cl s3.heap.objs.size X.env))
   (compPost (model X.prog X.w) X.A X.xe use Qp (.ref s2.heap.objs.size) s3.heap.objs.size) { s3 with heap:=h1,toks:=s2.toks+([]:List (Str×Value)).length }:=by
  refine Zgy (fun n s'=>∃i ys σ' H',Inv (Z9 X (tn++cap.map (·.1)) scope cl s3.heap.objs.size fp s3 (upd H2 s2.heap.objs.size (.lst []))) [] σ' H' s'/\tnn i s'.heap/\(∀b∈fp,H' b=none)/\W i n ys σ' H') ?_ m0
   ⟨0,[],_,_,I4,st3,fun b hb=>(f3 b hb).1,w0⟩
  rintro n s5 ⟨i,ys,σ5,H5,I5,st5,fr5,w5⟩;obtain⟨hD,alt⟩:=turn i n ys σ5 H5 w5;have stat:∀{H':Hp},(∀b∈fp,H' b=none)->∀b∈fp,ZeH (Z9 X (tn++cap.map (·.1)) scope cl s3.heap.objs.size fp s3 (upd H2 s2.heap.objs.size (.lst []))) [] H' b :=
   fun hn b hb=>⟨hn b hb,(I4.ok.exf b hb).1,I4.ok.exfs b hb,.inl hb,(I4.ok.exf b hb).2,fun p hp=>by cases hp⟩
  rcases alt with⟨stop,qn⟩|⟨go,step⟩
  ·refine thn (T.done (Z9 X (tn++cap.map (·.1)) scope cl s3.heap.objs.size fp s3 (upd H2 s2.heap.objs.size (.lst []))) rfl rfl rfl hc i [] s5 σ5 H5 no0 I5 (stat fr5) st5 stop) fun r s6 ⟨hr,I6⟩=>?_;subst hr;exact hfin s3 _ I3 f3 _ σ5 H5 s6 I6 qn
  ·refine thn (T.item (Z9 X (tn++cap.map (·.1)) scope cl s3.heap.objs.size fp s3 (upd H2 s2.heap.objs.size (.lst []))) rfl rfl rfl hc i [] s5 σ5 H5 no0 I5 (stat fr5) st5 go) fun r s6 ⟨u,hr,h6⟩=>?_;subst hr;refine thn h6 fun _ s7 ⟨x,H7,I7,r7,y7,st7,fr7⟩=>?_;have I7':=I7.pinned (stat fr7) (T.obj _ _ st7);refine thn (hg _ _ _ _ _ s7 σ5 H7 x u _ I7' r7 (step x H7 y7)) fun _ s8 ⟨σ8,H8,I8,q8⟩=>?_;refine thn (ht _ _ _ _ _ s8 σ8 H8 _ I8 q8) fun ok s8' ⟨H8',I8',q8'⟩=>?_;cases ok with
   | true =>
    simp only[if_true] at q8' ⊢;refine thn (he _ _ _ _ _ s8' σ8 H8' _ I8' q8') fun xv s9 ⟨v9,H9,I9,r9,q9⟩=>?_;obtain⟨hD9,hl9,m',hm',w9⟩:=q9;refine thn (Zaw _ s9 σ8 H9 (.ref s2.heap.objs.size) [v9] (.ref s2.heap.objs.size) [xv] (fun z H'=>z=.non/\H'=upd H9 s2.heap.objs.size (.lst (ys ++ [v9]))) I9 rfl (.cons r9 .nil)
     ⟨s2.heap.objs.size,ys,v9,rfl,rfl,hD9,hl9,rfl,rfl⟩) fun z s10 ⟨zv,H10,I10,_,_,eH⟩=>?_
    subst eH;refine⟨m',hm',i+1,ys ++ [v9],σ8,_,I10.unpinned,T.keep _ _ _ st7 fun b hb o q=>(I10.pin (b,o) (List.mem_append_right _ (List.mem_append_right _ (Zas hb q)))).1,fun b hb=>?_,w9⟩;obtain⟨o,q,d⟩:=T.obj _ _ st7 b hb;exact(I10.pin (b,o) (List.mem_append_right _ (List.mem_append_right _ (Zas hb q)))).2.1
   | false =>
    simp only[Bool.false_eq_true,if_false] at q8' ⊢;obtain⟨m',hm',w9⟩:=q8';refine⟨m',hm',i+1,ys,σ8,_,I8'.unpinned,T.keep _ _ _ st7 fun b hb o q=>(I8'.pin (b,o) (List.mem_append_right _ (List.mem_append_right _ (Zas hb q)))).1,fun b hb=>?_,w9⟩;obtain⟨o,q,d⟩:=T.obj _ _ st7 b hb;exact(I8'.pin (b,o) (List.mem_append_right _ (List.mem_append_right _ (Zas hb q)))).2.1
 subst hS3;exact codeAny_compStart_list loop (T.self X.A 0 _ _ _ st3 loop)
theorem Zbg(tn:List Str)(cap:List (Str×Nat))(hi:PI X tg iter wi)(hg:∀C fp s H,PG (Z9 X (tn++cap.map (·.1)) scope cl C fp s H) tg g)(ht:∀C fp s H,PT (Z9 X (tn++cap.map (·.1)) scope cl C fp s H) ct tt)(he:∀C fp s H,PE (Z9 X (tn++cap.map (·.1)) scope cl C fp s H) elt te)
  (hc:X.calm=true) (hclos:closureFor scope X.env=pure cl) (hcell:∀y∈scope.names,y.2 ≠ .cell) (hk:scope.kind=.function) (hnames:∀y∈scope.names,y.2=.local->scope.names.lookup y.1=some .local)
  (hcl:∀x c,cl.lookup x=some c->X.env.cells.lookup x=some c)
  (hhas:∀C x,((compEnvC scope cl C X.env).kindOf x=some .cell\/(compEnvC scope cl C X.env).kindOf x=some .free)->∃c,cl.lookup x=some c)
  (hcap:∀C,∀p∈cap,X.N[p.2]?= some p.1/\X.env.scope.names.lookup p.1=some .cell/\((compEnvC scope cl C X.env).kindOf p.1=some .cell\/(compEnvC scope cl C X.env).kindOf p.1=some .free))
  (hs:∀v,foldedSetIterable iter X.env v=pure v):PE X (.ListComp elt [⟨tg,iter,[ct],0⟩] scope pos) (Zjv wi tn.length cap g tt te):=by
 intro pins s σ H Q I h;rw[eval_ListComp];refine wpAny_comprehension_free (use:=none) rfl hs hclos hk hnames (thn (hi pins s σ H _ I h) fun v s1 h1=>thn h1 fun itv s2 h2=>?_);obtain⟨it,fp,tnn,J,H2,e,I2,T,st2,f2,q2⟩:=h2;subst e;refine ZdH (R:=fun p H6=>Q (.ref p) H6) tn cap hg ht he hc hcell hk hcl hhas hcap I2 T st2 f2 q2 fun s3 H3 I3 f3 acc σ6 H6 s6 I6 q6=>?_;obtain⟨m,hn,_⟩:=I6.loc;refine⟨m,hn,fun h' sb=>?_⟩;have nC:∀b o,s3.heap.get? b=some o->b≠s3.heap.objs.size:=fun b o q=>Nat.ne_of_lt (Heap.lt_size q);have u:Un (frs X.stack) fp H3 H6 s3.heap h':=by
  have u0:=I6.base;refine⟨fun b o q n hb hx=>(sb.2 b (nC b o q)).trans (u0.keep b o q n hb hx),fun b o q n hb hx=>?_,u0.free,fun b o q hx=>?_,u0.tups,u0.frzs,u0.tbls⟩
  ·obtain⟨sl,e⟩:=u0.slot b o q n hb hx;exact⟨sl,(sb.2 b (nC b o q)).trans e⟩
  ·obtain⟨o',e⟩:=u0.there b o q hx;exact⟨o',(sb.2 b (nC b o q)).trans e⟩
 have free6:H6 s3.heap.objs.size=none:=I6.free;have ok6:HOk X.prog X.w H6 h':=fun b o q=>(I6.hok b o q).stay (fun c v hcv r=>(sb.2 c (by
  rcases hcv with z|z
  ·rw[z];exact Zi q free6
  ·exact Zi z free6)).trans r) (fun _ q=>q) fun _ _ q=>q
 have I':=I3.call (g':=s6.gens) (d':=s6.drawn) (t':=s6.toks) (ch:=fp) u ok6 I6.bare fun b hb=>⟨(f3 b hb).2.2.2.1,(f3 b hb).2.1,(f3 b hb).2.2.2.2.1,(f3 b hb).2.2.2.2.2⟩;have e:({ s6 with heap:=h' }:Shared)= { s3 with heap:=h',gens:=s6.gens,drawn:=s6.drawn,toks:=s6.toks }:=by
  have ho:s6.os=s3.os:=I6.os;obtain⟨a1,a2,a3,a4,a5⟩:=s6;obtain⟨b1,b2,b3,b4,b5⟩:=s3;simp only at ho;subst ho;rfl
 rw[e];exact⟨.ref _,H6,I',rfl,q6⟩
end
end L2
namespace PySem.SeqAt
open AutoSeq1 (wpAny_loadPart')
open MeetsSeq MeetsSeq2 MeetsSeq3 SeqRoads2
end PySem.SeqAt
namespace Fg
open PySem L2 FgM PySem.SeqAt
def OkW(ws:List Str):Prop := ∀x∈ws,PyData.strOk x=true
end Fg
namespace L2
open PySem PySem.Spec PyProof.Rows
def CW(n:Nat)(Pv:Nat->List V->St->Hp->Prop):Nat->Nat->List V->St->Hp->Prop:=fun i m ys σ H=>m=n-i/\i<=n/\Pv i ys σ H
theorem CW.next{n i:Nat}{Pv:Nat->List V->St->Hp->Prop}{ys:List V}{σ : St}{H:Hp}(hi:i<n)(h:Pv (i+1) ys σ H):∃m',m'<n-i/\CW n Pv (i+1) m' ys σ H:=⟨_,by lia,rfl,hi,h⟩
theorem nd1{x:Str}:[x].Nodup:=by simp
theorem Zem{K:PySem.W.Frag}{a p:Addr}{xs:List V}{g:TG}{te:TE}{R:Hp->Prop}{σ0:St}{H0:Hp}(Pv:Nat->List V->St->Hp->Prop)(h0:Pv 0 [] σ0 H0)
  (hl:∀i ys σ H,i<=xs.length->Pv i ys σ H->SqL K H a xs/\H p=some (.lst ys))
  (hs:∀i ys x σ H,i<xs.length->xs[i]?= some x->Pv i ys σ H->g x σ H fun σ3 H4=>te σ3 H4 fun v H5=>H5 p=some (.lst ys)/\ys.length<sizeLine/\∃m',m'<xs.length-i/\CW xs.length Pv (i+1) m' (ys ++ [v]) σ3 (upd H5 p (.lst (ys ++ [v]))))
  (hd:∀ys σ H,Pv xs.length ys σ H->R H) :
  ∃W:Nat->Nat->List V->St->Hp->Prop,(∃m,W 0 m [] σ0 H0)/\∀i m ys σc H2,W i m ys σc H2->H2 p=some (.lst ys)/\(((Itl K a).stop i H2/\R H2)\/((Itl K a).go i H2/\∀x H3,(Itl K a).yld i H2 x H3->g x σc H3 fun σ3 H4=>te σ3 H4 fun v H5 =>
   H5 p=some (.lst ys)/\ys.length<sizeLine/\∃m',m'<m/\W (i+1) m' (ys ++ [v]) σ3 (upd H5 p (.lst (ys ++ [v]))))):=by
 refine⟨CW xs.length Pv,⟨_,rfl,Nat.zero_le _,h0⟩,?_⟩;rintro i m ys σ H ⟨rfl,hi,hp⟩;obtain⟨h1,h2⟩:=hl i ys σ H hi hp;refine⟨h2,?_⟩;by_cases hlt:i<xs.length
 ·refine .inr ⟨⟨xs,xs[i],h1,List.getElem?_eq_getElem hlt⟩,?_⟩;rintro x H3 ⟨rfl,hx⟩;exact hs i ys x σ _ hlt (hx xs h1) hp
 ·refine .inl ⟨⟨xs,h1,by lia⟩,hd ys σ H ?_⟩;have e:i=xs.length:=by lia
  rw[<- e];exact hp
theorem Zdc{scope:Scope}{env:Env}(h:∀y∈scope.names,y.2 ≠ .cell/\y.2 ≠ .free){cl:List (Str×Addr)}:∀(C:Addr)(x:Str),((compEnvC scope cl C env).kindOf x=some .cell\/(compEnvC scope cl C env).kindOf x=some .free)->∃c,cl.lookup x=some c:=by
 have key:∀(l:List (Str×NameKind))(x:Str),(∀y∈l,y.2 ≠ .cell/\y.2 ≠ .free)->∀k,(l.map fun(n,k)=>if(k ==.free&&env.scope.kind ==.function&&env.kindOf n == some .cell) then(n,.cell) else(n,k)).lookup x=some k->k ≠ .cell/\k ≠ .free:=by
  intro l
  induction l with
  | nil=>intro x _ k e;simp at e
  | cons y l ih =>
   intro x hy k e;obtain⟨n,kd⟩:=y;have hk:=hy _ (List.mem_cons_self ..);have e0:(kd == NameKind.free&&env.scope.kind ==.function&&env.kindOf n == some .cell)=false:=by
    have:(kd == NameKind.free)=false:=by
     cases kd <;> first|rfl|exact absurd rfl hk.2
    rw[this];rfl
   simp only[List.map_cons,e0,Bool.false_eq_true,if_false,List.lookup_cons] at e;cases hx:x == n with
   | true =>
    rw[hx] at e;cases e;exact hk
   | false =>
    rw[hx] at e;exact ih x (fun y hm=>hy y (List.mem_cons_of_mem _ hm)) k e
 intro C x hx;rcases hx with e|e
 ·exact absurd rfl (key _ x h _ e).1
 ·exact absurd rfl (key _ x h _ e).2
section
variable{X:Cx}{elt ct iter tg:Expr}{scope:Scope}{pos:Pos}{wi:TI}{g:TG}{tt:TT}{te:TE}{cl:List (Str×Addr)}
theorem ZaG{y:Str}{py spos:Pos}{n0:Nat}(hN:X.N.Nodup)(hi0:X.N[n0]?= some y)(hx:Loc X.env.scope y)(tn:List Str)(cap:List (Str×Nat))(hi:PI X tg iter wi)(hg:∀C fp s H,PG (Z9 X (tn++cap.map (·.1)) scope cl C fp s H) tg g)(ht:∀C fp s H,PT (Z9 X (tn++cap.map (·.1)) scope cl C fp s H) ct tt)(he:∀C fp s H,PE (Z9 X (tn++cap.map (·.1)) scope cl C fp s H) elt te)
  (hc:X.calm=true) (hclos:closureFor scope X.env=pure cl) (hcell:∀y∈scope.names,y.2 ≠ .cell) (hk:scope.kind=.function) (hnames:∀y∈scope.names,y.2=.local->scope.names.lookup y.1=some .local)
  (hcl:∀x c,cl.lookup x=some c->X.env.cells.lookup x=some c)
  (hhas:∀C x,((compEnvC scope cl C X.env).kindOf x=some .cell\/(compEnvC scope cl C X.env).kindOf x=some .free)->∃c,cl.lookup x=some c)
  (hcap:∀C,∀p∈cap,X.N[p.2]?= some p.1/\X.env.scope.names.lookup p.1=some .cell/\((compEnvC scope cl C X.env).kindOf p.1=some .cell\/(compEnvC scope cl C X.env).kindOf p.1=some .free))
  (hs:∀v,foldedSetIterable iter X.env v=pure v) (hsw:swapsWith (.ListComp elt [⟨tg,iter,[ct],0⟩] scope pos) (some (.Name y py)) spos.line X.env=pure true) (hf:X.fn y=true\/X.env.scope.names.lookup y=some .local:=by first|exact .inl rfl|exact .inr rfl|assumption) :
  PS X (.Assign [.Name y py] (.ListComp elt [⟨tg,iter,[ct],0⟩] scope pos) spos) (Zk3 (Zjv wi tn.length cap g tt te) (Zhc n0)):=by
 intro pins s σ H D I h;rw[exec_Assign_Name_used _ _ _ _ hsw];refine wpAny_bind (wpAny_standAt (wpAny_bind ?_));show wpAny _ X.A (do let _ <- comprehension (.ListComp elt [⟨tg,iter,[ct],0⟩] scope pos) scope X.env _ (newList []) false (eval iter X.env) (some (assign (.Name y py) X.env))) _ _ s;refine wpAny_bind (wpAny_mono (wpAny_comprehension_free (use:=some (assign (.Name y py) X.env)) (Q:=fun _ s'=>SP X pins D .next s') rfl hs hclos hk hnames (thn (hi pins s σ H _ I h) fun v s1 h1=>thn h1 fun itv s2 h2=>?_)) (fun _ s' hq=>wpAny_pure (wpAny_pure hq)) fun _ _ e=>e)
 obtain⟨it,fp,tnn,J,H2,e,I2,T,st2,f2,q2⟩:=h2;subst e;refine ZdH (R:=fun p H6=>Zhc n0 (.ref p) σ H6 (fun σ' H'=>D.nx σ' H')) tn cap hg ht he hc hcell hk hcl hhas hcap I2 T st2 f2 q2 fun s3 H3 I3 f3 acc σ6 H6 s6 I6 q6=>?_;obtain⟨m,hn,_⟩:=I6.loc;have I':Inv X pins σ H6 s6:=I3.call' (ch:=fp) I6.os I6.base I6.hok I6.bare fun b hb=>⟨(f3 b hb).2.2.2.1,(f3 b hb).2.1,(f3 b hb).2.2.2.2.1,(f3 b hb).2.2.2.2.2⟩;have fC:ZeH X pins H6 s3.heap.objs.size:=I3.fpOk (Nat.le_refl _) I6.free;show wpAny _ X.A (assign (.Name y py) X.env (.ref acc)) _ _ s6;refine wpAny_assign_Name (Ze3 (v:=.ref acc) I' hN hi0 hx rfl (fun s7 I7 ⟨a,sb,ha⟩=>?_) hf);have nCa:s3.heap.objs.size≠a:=by
  rcases ha with z|z
  ·rw[z];exact fC.2.1
  ·exact(fC.2.2.2.2.1 _ _ z).symm
 exact⟨m,hn.sameBut sb nCa,fun h' sb'=>⟨_,H6,I7.turned (t':=s7.toks) (fun b o hb e=>(sb'.2 b hb).trans e) fC.1 fC.2.1 fC.2.2.2.1 fC.2.2.2.2.1 fC.2.2.2.2.2,q6⟩⟩
end
section
variable{κ : Type}[DecidableEq κ]
def Zbi(kvs:List (κ × V))(k : κ):Option V:=(kvs.find? fun kv=>decide (kv.1=k)).map (·.2)
def putK(kvs:List (κ × V))(k : κ)(v:V):List (κ × V) :=
 if(kvs.any fun kv=>decide (kv.1=k))=true then kvs.map (fun kv=>if kv.1=k then(kv.1,v) else kv) else kvs ++ [(k,v)]
theorem Zax{p : κ × V}{r:List (κ × V)}{k : κ}(e:p.1=k):Zbi (p::r) k=some p.2:=by simp[Zbi,List.find?_cons,e]
theorem Zay{p : κ × V}{r:List (κ × V)}{k : κ}(e : ¬ p.1=k):Zbi (p::r) k=Zbi r k:=by simp[Zbi,List.find?_cons,e]
theorem Zar(k : κ):∀kvs:List (κ × V),(kvs.any fun kv=>decide (kv.1=k))=(Zbi kvs k).isSome
 | []=>rfl
 | p::r=>by
  rw[List.any_cons];by_cases e:p.1=k
  ·simp only[Zax e,decide_eq_true e,Bool.true_or,Option.isSome_some]
  ·rw[Zay e,decide_eq_false e,Bool.false_or];exact Zar k r
theorem Zf3(k j : κ)(y:V):∀kvs:List (κ × V),Zbi (kvs.map fun kv=>if kv.1=k then(kv.1,y) else kv) j=(Zbi kvs j).map fun x=>if j=k then y else x
 | []=>rfl
 | p::r=>by
  have ih:=Zf3 k j y r;rw[List.map_cons];by_cases h:p.1=k
  ·rw[if_pos h];by_cases e:p.1=j
   ·rw[Zax (p:=(p.1,y)) e,Zax e,Option.map_some,if_pos (e.symm.trans h)]
   ·rw[Zay (p:=(p.1,y)) e,Zay e,ih]
  ·rw[if_neg h];by_cases e:p.1=j
   ·rw[Zax (p:=p) e,Zax e,Option.map_some,if_neg (fun z=>h (e.trans z))]
   ·rw[Zay (p:=p) e,Zay e,ih]
theorem ZeZ(k j : κ)(y:V):∀kvs:List (κ × V),Zbi kvs k=none->Zbi (kvs ++ [(k,y)]) j=if j=k then some y else Zbi kvs j
 | [],_=>by
  by_cases e:k=j
  ·rw[if_pos e.symm];exact Zax (p:=(k,y)) e
  ·rw[if_neg (fun z=>e z.symm)];exact Zay (p:=(k,y)) e
 | p::r,hn=>by
  rw[List.cons_append];have hk : ¬ p.1=k:=fun z=>by rw[Zax z] at hn;cases hn
  rw[Zay hk] at hn;have ih:=ZeZ k j y r hn;by_cases e:p.1=j
  ·rw[Zax e,Zax e,if_neg (fun z=>hk (e.trans z))]
  ·rw[Zay e,Zay e,ih]
theorem Zf4(kvs:List (κ × V))(k j : κ)(y:V):Zbi (putK kvs k y) j=if j=k then some y else Zbi kvs j:=by
 unfold putK;by_cases a:(kvs.any fun kv=>decide (kv.1=k))=true
 ·rw[if_pos a,Zf3];rw[Zar] at a;by_cases e:j=k
  ·obtain⟨x,hx⟩:=Option.isSome_iff_exists.mp a;rw[if_pos e,e,hx,Option.map_some,if_pos rfl]
  ·rw[if_neg e];cases Zbi kvs j with
   | none=>rfl
   | some x=>rw[Option.map_some,if_neg e]
 ·rw[if_neg a];refine ZeZ k j y kvs ?_;rw[Zar] at a;cases q:Zbi kvs k with
  | none=>rfl
  | some x=>rw[q] at a;exact(a rfl).elim
theorem ZaZ(kvs:List (κ × V))(k : κ)(v:V):(putK kvs k v).length<=kvs.length+1:=by
 unfold putK
 split
 ·rw[List.length_map];lia
 ·rw[List.length_append,List.length_cons,List.length_nil];lia
theorem ZdQ{kvs:List (κ × V)}{k : κ}(v:V)(h:Zbi kvs k=none):putK kvs k v=kvs ++ [(k,v)]:=by
 unfold putK;rw[Zar,h];exact if_neg (by decide)
theorem Zfh.isSome_eq{o:Option V}{u:Option Value}(r:Zfh o u):o.isSome=u.isSome:=by
 cases o with
 | none=>cases u with
  | none=>rfl
  | some _=>exact(show False from r).elim
 | some _=>cases u with
  | none=>exact(show False from r).elim
  | some _=>rfl
theorem Zfh.getD{o:Option V}{u:Option Value}{d:V}{d':Value}(r:Zfh o u)(rd:RelV d d'):RelV (o.getD d) (u.getD d'):=by
 cases o with
 | none=>cases u with
  | none=>exact rd
  | some _=>exact(show False from r).elim
 | some _=>cases u with
  | none=>exact(show False from r).elim
  | some _=>exact r
theorem KV.val{kvs:List (κ × V)}{vs:List (κ × Value)}(r:KV kvs vs)(k : κ):Zfh (Zbi kvs k) (valueAt vs k):=by
 unfold KV at r
 induction r with
 | nil=>exact True.intro
 | @cons p q ps qs h t ih =>
  obtain⟨h1,h2⟩:=h;by_cases e:p.1=k
  ·have e':q.1=k:=h1.symm.trans e;have b:valueAt (q::qs) k=some q.2:=by simp[valueAt,List.find?_cons,e']
   rw[Zax e,b];exact h2
  ·have e' : ¬ q.1=k:=fun z=>e (h1.trans z);have b:valueAt (q::qs) k=valueAt qs k:=by simp[valueAt,List.find?_cons,e']
   rw[Zay e,b];exact ih
theorem KV.any{kvs:List (κ × V)}{vs:List (κ × Value)}(r:KV kvs vs)(k : κ):(kvs.any fun kv=>decide (kv.1=k))=vs.any fun kv=>decide (kv.1=k):=by
 unfold KV at r
 induction r with
 | nil=>rfl
 | cons h t ih=>rw[List.any_cons,List.any_cons,ih,h.1]
theorem KV.repl{kvs:List (κ × V)}{vs:List (κ × Value)}(r:KV kvs vs)(k : κ){y:V}{u:Value}(ry:RelV y u) :
  KV (kvs.map fun kv=>if kv.1=k then(kv.1,y) else kv) (vs.map fun kv=>if kv.1=k then(kv.1,u) else kv):=by
 unfold KV at r ⊢
 induction r with
 | nil=>exact .nil
 | @cons p q ps qs h t ih =>
  rw[List.map_cons,List.map_cons];refine .cons ?_ ih;obtain⟨h1,h2⟩:=h;by_cases e:p.1=k
  ·rw[if_pos e,if_pos (h1.symm.trans e)];exact⟨h1,ry⟩
  ·rw[if_neg e,if_neg (fun z=>e (h1.trans z))];exact⟨h1,h2⟩
theorem KV.put{kvs:List (κ × V)}{vs:List (κ × Value)}(r:KV kvs vs)(k : κ){y:V}{u:Value}(ry:RelV y u):KV (putK kvs k y) (stored vs k u):=by
 unfold putK stored;rw[r.any k];by_cases e:(vs.any fun kv=>decide (kv.1=k))=true
 ·rw[if_pos e,if_pos e];exact r.repl k ry
 ·rw[if_neg e,if_neg e];exact Paired.snoc r ⟨rfl,ry⟩
theorem KV.length{kvs:List (κ × V)}{vs:List (κ × Value)}(r:KV kvs vs):kvs.length=vs.length:=Paired.length r
end
theorem ZfJ{P:Program}{w:World}{k:Key}{u:Value}(r:RelV (kV k) u):(Zn P w).is k u=true:=by
 cases k with
 | inl i=>obtain⟨t,e⟩:=(show ∃t,u=Value.int i t from r);subst e;exact Zfn P w i t
 | inr x=>obtain⟨t,e⟩:=(show ∃t,u=Value.str x t from r);subst e;exact Zfz P w x t
theorem Zfg{P:Program}{w:World}:∀{ks:List Key}{us:List Value},Vals (ks.map kV) us->ItemsAre (Zn P w) ks us
 | [],_,r=>by rw[List.map_nil] at r;cases r;exact .nil
 | k::ks,_,r=>by
  rw[List.map_cons] at r;cases r with
  | cons h t=>exact .cons (ZfJ h) (Zfg t)
abbrev KT(H:Hp):List (List Key×V)->List (List Key×Addr×Value)->Prop:=Paired fun p q=>p.1=q.1/\H q.2.1=some (.tup (p.1.map kV))/\RelV p.2 q.2.2
theorem KT.val{H:Hp}{kvs:List (List Key×V)}{xs:List (List Key×Addr×Value)}(r:KT H kvs xs)(k:List Key):Zfh (Zbi kvs k) ((atKey xs k).map (·.2)):=by
 induction r with
 | nil=>exact True.intro
 | @cons p q ps qs h t ih =>
  obtain⟨h1,_,h2⟩:=h;by_cases e:p.1=k
  ·have e':q.1=k:=h1.symm.trans e;have b:atKey (q::qs) k=some q.2:=by simp[atKey,List.find?_cons,e']
   rw[Zax e,b];exact h2
  ·have e' : ¬ q.1=k:=fun z=>e (h1.trans z);have b:atKey (q::qs) k=atKey qs k:=by simp[atKey,List.find?_cons,e']
   rw[Zay e,b];exact ih
theorem KT.repl{H:Hp}{kvs:List (List Key×V)}{xs:List (List Key×Addr×Value)}(r:KT H kvs xs)(k:List Key){y:V}{u:Value}(ry:RelV y u) :
  KT H (kvs.map fun kv=>if kv.1=k then(kv.1,y) else kv) (xs.map (putAt k u)):=by
 induction r with
 | nil=>exact .nil
 | @cons p q ps qs h t ih =>
  rw[List.map_cons,List.map_cons];refine .cons ?_ ih;obtain⟨h1,h2,h3⟩:=h;unfold putAt;by_cases e:p.1=k
  ·rw[if_pos e,if_pos (h1.symm.trans e)];exact⟨h1,h2,ry⟩
  ·rw[if_neg e,if_neg (fun z=>e (h1.trans z))];exact⟨h1,h2,h3⟩
theorem KT.put{H:Hp}{kvs:List (List Key×V)}{xs:List (List Key×Addr×Value)}(r:KT H kvs xs)(k:List Key){b:Addr}{y:V}{u:Value}(hb:H b=some (.tup (k.map kV)))(ry:RelV y u) :
  KT H (putK kvs k y) (storedH xs k b u):=by
 have e:(kvs.any fun kv=>decide (kv.1=k))=(atKey xs k).isSome:=by
  rw[Zar,(r.val k).isSome_eq,Option.isSome_map]
 unfold putK storedH;rw[e];by_cases q:(atKey xs k).isSome=true
 ·rw[if_pos q,if_pos q];exact r.repl k ry
 ·rw[if_neg q,if_neg q];exact Paired.snoc r ⟨rfl,hb,ry⟩
theorem KT.keeps{H H':Hp}{kvs:List (List Key×V)}{xs:List (List Key×Addr×Value)}(r:KT H kvs xs)(ht:∀b ys,H b=some (.tup ys)->H' b=some (.tup ys)):KT H' kvs xs :=
 Paired.mapP r fun _ _ z=>⟨z.1,ht _ _ z.2.1,z.2.2⟩
section
variable{P:Program}{w:World}{H:Hp}{h:Heap}{a:Addr}
theorem ZkJ{u:HO}(ok:HOk P w H h)(e:Rd H a u):Z4 P w H h a u:=e.ok ok
theorem Zhf{kvs:List (Key×V)}(ok:HOk P w H h)(e:Rd H a (.dK kvs)):kvs.length<=sizeLine/\(a == sysModules)=false/\∃vs,KV kvs vs/\h.DictOf (Zn P w) a vs :=
 show Z4 P w H h a (.dK kvs) from ZkJ ok e
theorem ZiN{kvs:List (Key×V)}(ok:HOk P w H h)(e:H a=some (.dK kvs)):kvs.length<=sizeLine/\(a == sysModules)=false/\∃vs,KV kvs vs/\h.DictOf (Zn P w) a vs:=Zhf ok (.inl e)
theorem Zdo{ks:List Key}(ok:HOk P w H h)(e:H a=some (.tup (ks.map kV))):(tupleKind (Zn P w)).is h ks a:=by
 obtain⟨_,its,r,o,h1,h2,n,h3⟩:=(show Z4 P w H h a (.tup (ks.map kV)) from ok a _ e);exact⟨o,its.toArray,n,h1,h2,h3,by simpa using Zfg r⟩
theorem Ziq{kvs:List (List Key×V)}(ok:HOk P w H h)(e:Rd H a (.dT kvs)):kvs.length<=sizeLine/\(a == sysModules)=false /\
  ∃xs,KT H kvs xs/\h.DictOfH (tupleKind (Zn P w)) a xs:=by
 obtain⟨z,y,xs,r,o,es,ep,h1,h2,h3,h4,h5⟩:=(show Z4 P w H h a (.dT kvs) from ZkJ ok e);refine⟨z,y,xs,r,o,es,ep,h1,h2,h3,h4,fun x hx=>?_,h5⟩;have all:∀{l:List (List Key×V)}{m:List (List Key×Addr×Value)},KT H l m->∀x∈m,(tupleKind (Zn P w)).is h x.1 x.2.1:=by
  intro l m q
  induction q with
  | nil=>intro x hx;exact nomatch hx
  | @cons p q ps qs hq t ih =>
   intro x hx;rcases List.mem_cons.mp hx with e|hx
   ·subst e;exact Zdo ok (by rw[<- hq.1];exact hq.2.1)
   ·exact ih x hx
 exact all r x hx
theorem Zlo{kvs:List (List Key×V)}(ok:HOk P w H h)(e:H a=some (.dT kvs)):kvs.length<=sizeLine/\(a == sysModules)=false /\
  ∃xs,KT H kvs xs/\h.DictOfH (tupleKind (Zn P w)) a xs:=Ziq ok (.inl e)
end
def Zc1(H:Hp)(a:Addr)(y:V)(r:Option V):Prop :=
 (∃kvs k,Rd H a (.dK kvs)/\y=kV k/\r=Zbi kvs k)\/∃kvs k b,Rd H a (.dT kvs)/\y=.ref b/\H b=some (.tup (k.map kV))/\r=Zbi kvs k
def ZgJ(H:Hp)(a:Addr)(y v:V)(H':Hp):Prop :=
 (∃kvs k,H a=some (.dK kvs)/\y=kV k/\kvs.length<sizeLine/\H'=upd H a (.dK (putK kvs k v))) \/
 ∃kvs k b,H a=some (.dT kvs)/\y=.ref b/\H b=some (.tup (k.map kV))/\kvs.length<sizeLine/\H'=upd H a (.dT (putK kvs k v))
theorem Zc1.k{H:Hp}{a:Addr}{kvs:List (Key×V)}{k:Key}(e:H a=some (.dK kvs)):Zc1 H a (kV k) (Zbi kvs k):=.inl ⟨kvs,k,.inl e,rfl,rfl⟩
theorem ZgJ.k{H:Hp}{a:Addr}{kvs:List (Key×V)}{k:Key}{v:V}(e:H a=some (.dK kvs))(hl:kvs.length<sizeLine):ZgJ H a (kV k) v (upd H a (.dK (putK kvs k v))):=.inl ⟨kvs,k,e,rfl,hl,rfl⟩
theorem ZgJ.t{H:Hp}{a b:Addr}{kvs:List (List Key×V)}{k:List Key}{v:V}(e:H a=some (.dT kvs))(eb:H b=some (.tup (k.map kV)))(hl:kvs.length<sizeLine) :
  ZgJ H a (.ref b) v (upd H a (.dT (putK kvs k v))):=.inr ⟨kvs,k,b,e,rfl,eb,hl,rfl⟩
section
variable{X:Cx}{pins:List (Addr×Obj)}{σ : St}{H:Hp}{s:Shared}{a:Addr}{y v:V}{u r:Value}{o:Option V}{A:Around}{E:Value->Shared->Prop}
theorem Inv.big(I:Inv X pins σ H s):sysModules<s.heap.objs.size:=by
 have h:mainGlobals<s.heap.objs.size:=(I.mod.glob.keeps I.bk).lt;exact Nat.lt_trans (by decide) h
theorem ZlX{Q:Value->Shared->Prop}(hu:A.units+1<cLine)(I:Inv X pins σ H s)(g:Zc1 H a y o)(ry:RelV y u)(h:∀s',Inv X pins σ H s'->Q (.bool o.isSome) s') :
  wpAny (model X.prog X.w) A (compareOp .In u (.ref a)) Q E s:=by
 rcases g with⟨kvs,k,e,ey,l⟩|⟨kvs,k,b,e,ey,eb,l⟩
 ·subst ey;obtain⟨z,hd,vs,rel,dd⟩:=Zhf I.hok e;refine wpAny_in_of (ZfJ ry) hd dd.mapOf ?_;rw[<- (rel.val k).isSome_eq,<- l];exact h _ (I.tok _)
 ·subst ey;cases (show u=Value.ref b from ry);obtain⟨z,hd,xs,rel,dd⟩:=Ziq I.hok e;refine wpAny_in_heap (tupleKind_room_in1 hu) (Zdo I.hok eb) hd dd ?_;have q:=(rel.val k).isSome_eq;rw[Option.isSome_map] at q;rw[<- q,<- l];exact h _ (I.tok _)
theorem ZjR{Q:Value->Shared->Prop}(hu:A.units+1<cLine)(I:Inv X pins σ H s)(g:Zc1 H a y o)(ry:RelV y u)(h:∀s',Inv X pins σ H s'->Q (.bool (!o.isSome)) s') :
  wpAny (model X.prog X.w) A (compareOp .NotIn u (.ref a)) Q E s:=by
 rcases g with⟨kvs,k,e,ey,l⟩|⟨kvs,k,b,e,ey,eb,l⟩
 ·subst ey;obtain⟨z,hd,vs,rel,dd⟩:=Zhf I.hok e;refine wpAny_notIn_of (ZfJ ry) hd dd.mapOf ?_;rw[<- (rel.val k).isSome_eq,<- l];exact h _ (I.tok _)
 ·subst ey;cases (show u=Value.ref b from ry);obtain⟨z,hd,xs,rel,dd⟩:=Ziq I.hok e;refine wpAny_notIn_heap (tupleKind_room_in1 hu) (Zdo I.hok eb) hd dd ?_;have q:=(rel.val k).isSome_eq;rw[Option.isSome_map] at q;rw[<- q,<- l];exact h _ (I.tok _)
theorem Zfl{h':Heap}{t':Nat}{ob:HO}(I:Inv X pins σ H s)(mu:Mut (H a))(hs:Heap.SameBut a s.heap h')(he:∃q,h'.get? a=some q)(new:Z4 X.prog X.w (upd H a ob) h' a ob) :
  Inv X pins σ (upd H a ob) { s with heap:=h',toks:=t' } :=
 I.write (x:=a) (e:=a) mu (.inl rfl) (fun b q hb z=>(hs.2 b hb).trans z) he new
theorem Zjy{P:Program}{w:World}{H':Hp}{h':Heap}{kvs:List (Key×V)}{vs:List (Key×Value)}(z:kvs.length<=sizeLine)(hd:(a == sysModules)=false)(rel:KV kvs vs)(dd:h'.DictOf (Zn P w) a vs) :
  Z4 P w H' h' a (.dK kvs):=⟨z,hd,vs,rel,dd⟩
theorem Zib{H':Hp}{Q:Unit->Shared->Prop}(hu:A.units+1<cLine)(I:Inv X pins σ H s)(g:ZgJ H a y v H')(ry:RelV y u)(rv:RelV v r)(h:∀s',Inv X pins σ H' s'->Q () s') :
  wpAny (model X.prog X.w) A (setItem (.ref a) u r) Q E s:=by
 rcases g with⟨kvs,k,e,ey,l,eH⟩|⟨kvs,k,b,e,ey,eb,l,eH⟩
 ·subst ey eH;obtain⟨z,hd,vs,rel,dd⟩:=ZiN I.hok e;have hz:vs.length<=sizeLine:=by rw[<- rel.length];exact z
  have hl:(putK kvs k v).length<=sizeLine:=by have:=ZaZ kvs k v;lia
  refine wpAny_setItem_pairs (hsz:=hz) (ZfJ ry) dd fun h' dd' hs=>h _ ?_;have he:∃q,h'.get? a=some q:=let ⟨q,_,_,hq,_⟩:=dd';⟨q,hq⟩;exact Zfl I (by rw[e];exact True.intro) hs he (Zjy hl hd (rel.put k rv) dd')
 ·subst ey eH;cases (show u=Value.ref b from ry);obtain⟨z,hd,xs,rel,dd⟩:=Zlo I.hok e;have hz:xs.length<=sizeLine:=by rw[<- Paired.length rel];exact z
  have hl:(putK kvs k v).length<=sizeLine:=by have:=ZaZ kvs k v;lia
  refine wpAny_setItem_heap (hsz:=hz) (tupleKind_room_in1 hu) (Zdo I.hok eb) dd fun h' dd' hs=>h _ ?_;obtain⟨q,es,ep,hq,h2,h3,h4,_,h5⟩:=dd';refine Zfl I (by rw[e];exact True.intro) hs ⟨q,hq⟩ ⟨hl,hd,_,(rel.put k eb rv).keeps fun c ys ec=>?_,q,es,ep,hq,h2,h3,h4,h5⟩;rw[Zh (Zk9 ec e (fun z=>nomatch z))]
  exact ec
end
def ZlV(ty td:TE):TE:=fun σ H Q=>ty σ H fun y H1=>td σ H1 fun x H2=>∃a o,x=.ref a/\Zc1 H2 a y o/\Q (.bl o.isSome) H2
def Zj3(ty td:TE):TE:=fun σ H Q=>ty σ H fun y H1=>td σ H1 fun x H2=>∃a o,x=.ref a/\Zc1 H2 a y o/\Q (.bl (!o.isSome)) H2
def Zlk(td ty tv:TE):TS:=fun D σ H=>tv σ H fun v H1=>td σ H1 fun x H2=>ty σ H2 fun y H3=>∃a H4,x=.ref a/\ZgJ H3 a y v H4/\D.nx σ H4
section
variable{X:Cx}{o i e value:Expr}{pos pos' tpos:Pos}{td ty tv:TE}
theorem Zbq(hu:X.A.units+1<cLine)(hi:PE X i ty)(ho:PE X o td):PC X .In i o (ZlV ty td):=by
 intro pins s σ H Q I h;refine thn (hi pins s σ H _ I h) fun iv s1 ⟨y,H1,I1,ry,q1⟩=>thn (ho pins s1 σ H1 _ I1 q1) fun u s2 ⟨x,H2,I2,rx,a,ov,ex,g,q2⟩=>?_;subst ex;obtain rfl:u=Value.ref a:=rx;exact ZlX hu I2 g ry fun s3 I3=>⟨.bl ov.isSome,H2,I3,rfl,q2⟩
theorem ZhG(hu:X.A.units+1<cLine)(hi:PE X i ty)(ho:PE X o td):PC X .NotIn i o (Zj3 ty td):=by
 intro pins s σ H Q I h;refine thn (hi pins s σ H _ I h) fun iv s1 ⟨y,H1,I1,ry,q1⟩=>thn (ho pins s1 σ H1 _ I1 q1) fun u s2 ⟨x,H2,I2,rx,a,ov,ex,g,q2⟩=>?_;subst ex;obtain rfl:u=Value.ref a:=rx;exact ZjR hu I2 g ry fun s3 I3=>⟨.bl (!ov.isSome),H2,I3,rfl,q2⟩
theorem Zcl(hu:X.A.units+1<cLine)(ho:PE X o td)(hi:PE X i ty)(hv:PE X value tv)(hs:swapsWith value (some (.Subscript o i pos')) pos.line X.env=pure false) :
  PS X (.Assign [.Subscript o i pos'] value pos) (Zlk td ty tv):=by
 intro pins s σ H D I h;refine wpAny_Assign_Subscript (thn (hv pins s σ H _ I h) fun r s1 ⟨v,H1,I1,rv,q1⟩=>thn (ho pins s1 σ H1 _ I1 q1) fun u s2 ⟨x,H2,I2,rx,q2⟩=>thn (hi pins s2 σ H2 _ I2 q2) fun iv s3 ⟨y,H3,I3,ry,a,H4,ex,g,q3⟩=>?_) hs;subst ex;obtain rfl:u=Value.ref a:=rx;exact Zib hu I3 g ry rv fun s4 I4=>⟨σ,H4,I4,q3⟩
end
theorem Zi6{P:Program}{w:World}{H:Hp}(h:Heap)(hb:sysModules<h.objs.size):Z4 P w H (h.push { cls:=.type "dict",data:=.dict #[] }) h.objs.size (.dK []) :=
 ⟨Nat.zero_le _,beq_eq_false_iff_ne.mpr (Ne.symm (Nat.ne_of_lt hb)),[],.nil,Heap.DictOf.new h⟩
theorem ZiZ{P:Program}{w:World}{H:Hp}(h:Heap)(hb:sysModules<h.objs.size):Z4 P w H (h.push { cls:=.type "dict",data:=.dict #[] }) h.objs.size (.dT []) :=
 ⟨Nat.zero_le _,beq_eq_false_iff_ne.mpr (Ne.symm (Nat.ne_of_lt hb)),[],.nil,_,#[],0,Heap.get?_push_size _ rfl,⟨rfl,rfl,rfl⟩,rfl,rfl,List.nodup_nil⟩
def ZkR:TE:=fun _ H Q=>∀p,H p=none->Q (.ref p) (upd H p (.dK []))
def ZkC:TE:=fun _ H Q=>∀p,H p=none->Q (.ref p) (upd H p (.dT []))
section
variable{X:Cx}{pos:Pos}
theorem ZbK:PE X (.Dict [] [] pos) ZkR:=fun pins s σ H Q I h =>
 wpAny_Dict_empty ⟨.ref s.heap.objs.size,_,I.laid (a:=s.heap.objs.size) (o:=.dK []) (t':=s.toks) (fun _ _ q=>Heap.get?_push_of_some _ q) (Nat.le_refl _) (Zi6 s.heap I.big),rfl,h _ (I.hok.fresh (Nat.le_refl _))⟩
theorem Zgd:PE X (.Dict [] [] pos) ZkC:=fun pins s σ H Q I h =>
 wpAny_Dict_empty ⟨.ref s.heap.objs.size,_,I.laid (a:=s.heap.objs.size) (o:=.dT []) (t':=s.toks) (fun _ _ q=>Heap.get?_push_of_some _ q) (Nat.le_refl _) (ZiZ s.heap I.big),rfl,h _ (I.hok.fresh (Nat.le_refl _))⟩
end
structure M2(X:Cx)(o:Expr)(m:Str)(apos:Pos)(e f:Expr)(cpos:Pos):Prop where
 base:attributeBase o m X.env (eval o X.env)=eval o X.env
 few:((backTo cpos (starEach [e,f] X.env)).all (fun x=>!x.1)&&(backToKw cpos (keywordEach [] X.env)).all (fun x=>x.1.isSome)
  && decide (([e,f]:List Expr).length+([]:List Keyword).length+(if([]:List Keyword).isEmpty then 0 else 1)<30))=true
 line:(apos.endLine == cpos.line)=true
 trees:backTo cpos (starEach [e,f] X.env)=[(false,eval e X.env),(false,eval f X.env)]
def IsD(H:Hp)(a:Addr):Prop:=(∃kvs,Rd H a (.dK kvs))\/∃kvs,Rd H a (.dT kvs)
theorem Zjt{X:Cx}{pins:List (Addr×Obj)}{σ : St}{H:Hp}{s:Shared}{a:Addr}(I:Inv X pins σ H s)(d:IsD H a) :
  s.TypeIs (.ref a) "dict" /\ (∀b,Value.ref a=.ref b->∃ob,s.heap.get? b=some ob/\ob.dict=none)/\(a == sysModules)=false:=by
 rcases d with⟨kvs,e⟩|⟨kvs,e⟩
 ·obtain⟨_,hd,vs,_,dd⟩:=Zhf I.hok e;refine⟨dd.typeIs,fun b q=>?_,hd⟩;cases q;obtain⟨ob,_,_,h1,h2,_⟩:=dd;exact⟨ob,h1,h2.2.1⟩
 ·obtain⟨_,hd,xs,_,dd⟩:=Ziq I.hok e;refine⟨dd.typeIs,fun b q=>?_,hd⟩;cases q;obtain⟨ob,_,_,h1,h2,_⟩:=dd;exact⟨ob,h1,h2.2.1⟩
section
variable{X:Cx}{pins:List (Addr×Obj)}{σ : St}{H:Hp}{s:Shared}{a:Addr}{y d:V}{u r:Value}{o:Option V}{A:Around}{E:Value->Shared->Prop}
theorem ZkL{Q:Value->Shared->Prop}(hu:A.units+1<cLine)(I:Inv X pins σ H s)(g:Zc1 H a y o)(ry:RelV y u)(rd:RelV d r)(h:∀w' s',Inv X pins σ H s'->RelV (o.getD d) w'->Q w' s') :
  wpAny (model X.prog X.w) A (call (.builtin "dict.get") [.ref a,u,r]) Q E s:=by
 rcases g with⟨kvs,k,e,ey,l⟩|⟨kvs,k,b,e,ey,eb,l⟩
 ·subst ey;obtain⟨z,hd,vs,rel,dd⟩:=Zhf I.hok e;refine call_meetsIn PySem.F.slot_dict_get dd.typeIs PySem.F.entry_dict_get (PySem.F.args_dict_get_3 _ _ _) (meets_dict_get_default (Zn X.prog X.w) a (ZfJ ry) hd r) ⟨_,dd.mapOf,h _ _ (I.tok _) ?_⟩;rw[l];exact(rel.val k).getD rd
 ·subst ey;cases (show u=Value.ref b from ry);obtain⟨z,hd,xs,rel,dd⟩:=Ziq I.hok e;refine call_meetsIn PySem.F.slot_dict_get dd.typeIs PySem.F.entry_dict_get (PySem.F.args_dict_get_3 _ _ _) (meetsH_dict_get_default (tupleKind (Zn X.prog X.w)) a b hd r) ⟨tupleKind_room_in1 hu,k,xs,Zdo I.hok eb,dd,h _ _ (I.tok _) ?_⟩;rw[l];exact(rel.val k).getD rd
end
def Zkn(td ty tx:TE):TE:=fun σ H Q=>td σ H fun x H1=>∃a,x=.ref a/\IsD H1 a/\ty σ H1 fun y H2=>tx σ H2 fun z H3=>∃o,Zc1 H3 a y o/\Q (o.getD z) H3
section
variable{X:Cx}{o e f:Expr}{apos cpos:Pos}{td ty tx:TE}
theorem Zec(hu:X.A.units+1<cLine)(ho:PE X o td)(he:PE X e ty)(hf:PE X f tx)(m:M2 X o "get" apos e f cpos):PE X (.Call (.Attribute o "get" apos) [e,f] [] cpos) (Zkn td ty tx):=by
 intro pins s σ H Q I h;refine wpAny_Call_method m.base m.few m.line PySem.F.plainAttrs_dict PySem.F.slot_dict_get PySem.F.type_dict_get (thn (ho pins s σ H _ I h) fun u s1 ⟨x,H1,I1,rx,a,ex,d,q1⟩=>?_);subst ex;obtain rfl:u=Value.ref a:=rx;obtain⟨t1,t2,_⟩:=Zjt I1 d;refine⟨t1,t2,?_⟩;rw[m.trees];refine Calls.callWith_builtin rfl (Calls.evalArgs_plain (Calls.spliced_cons (thn (he pins s1 σ H1 _ I1 q1) fun iv s2 ⟨y,H2,I2,ry,q2⟩ =>
  Calls.spliced_cons (thn (hf pins s2 σ H2 _ I2 q2) fun fv s3 ⟨z,H3,I3,rz,ov,g,q3⟩=>Calls.spliced_nil ?_))))
 exact ZkL hu I3 g ry rz fun w' s4 I4 rw'=>⟨_,H3,I4,rw',q3⟩
end
section
variable{κ : Type}[DecidableEq κ]
theorem Zgp{kvs:List (κ × V)}{k : κ}(h:Zbi kvs k=none) : ¬ k∈kvs.map (·.1):=by
 intro m;obtain⟨p,hp,e⟩:=List.mem_map.mp m;have q:(kvs.any fun kv=>decide (kv.1=k))=true:=List.any_eq_true.mpr ⟨p,hp,decide_eq_true e⟩;rw[Zar,h] at q;exact absurd q (by simp)
theorem Zg5{kvs:List (κ × V)}{k : κ}{v:V}(h:Zbi kvs k=some v):k∈kvs.map (·.1):=by
 have q:(kvs.any fun kv=>decide (kv.1=k))=true:=by
  rw[Zar,h]
  all_goals rfl
 obtain⟨p,hp,e⟩:=List.any_eq_true.mp q;exact List.mem_map.mpr ⟨p,hp,of_decide_eq_true e⟩
end
structure HasM(P:Program)(w:World)(K:PySem.W.Frag)(mg:Str->Option Value)(base:Heap)(C:Addr)(m:Str)(ps:List Str)(j:Nat)(sp:Sp):Prop where
 ex:∃f fd,FnOk P w K mg base CX0 j f fd ps sp/\Binds K fd ps []/\Meth K C m f
structure HasC(P:Program)(w:World)(K:PySem.W.Frag)(mg:Str->Option Value)(base:Heap)(C:Addr)(x:Str)(ps:List Str)(j:Nat)(sp:Sp):Prop where
 ex:∃f fd,FnOk P w K mg base CX0 j f fd ps sp/\Binds K fd ps []/\Mk K C f/\mg x=some (.ref C)
section
variable{X:Cx}{C:Addr}{m x:Str}{ps:List Str}{j k:Nat}{sp:Sp}{o e:Expr}{es:List Expr}{ta:TE}{t:TA}{p pos apos:Pos}
theorem ZdZ{pl:Sem Bool}(G:HasM X.prog X.w X.K X.mg X.base C m ps j sp)(hr:Room k X.A)(he:PE X o ta)(c:Cls X.K C)(ha:PA X (e::es) t)(hk:j<=k:=by decide)
  (hst:starEach (e::es) X.env=(false,eval e X.env)::starEach es X.env:=by rfl) (hpl:(backTo pos (starEach es X.env)).any (·.1)=false:=by rfl)
  (ht:eval (.Call (.Attribute o m apos) (e::es) [] pos) X.env=(do
   let ov <- eval o X.env
   standAt apos.atName
   let (f,first) <- holding [ov] (getMethod ov m pl)
   callWith pos f first (backTo pos (starEach (e::es) X.env)) (backToKw pos (keywordEach [] X.env))):=by rfl):PE X (.Call (.Attribute o m apos) (e::es) [] pos) (Zi7 C m sp [] E0 ta t):=by
 obtain⟨f,fd,F,b,hm⟩:=G.ex;exact ZjF (pl:=pl) he c hm (F.room hk) hr b .nil ZiW ha hst hpl ht
theorem ZbE{pl:Sem Bool}(G:HasM X.prog X.w X.K X.mg X.base C m ps j sp)(hr:Room k X.A)(he:PE X o ta)(c:Cls X.K C)(hk:j<=k:=by decide)
  (ht:eval (.Call (.Attribute o m apos) [] [] pos) X.env=(do
   let ov <- eval o X.env
   standAt apos.atName
   let (f,first) <- holding [ov] (getMethod ov m pl)
   callWith pos f first (backTo pos (starEach [] X.env)) (backToKw pos (keywordEach [] X.env))):=by rfl):PE X (.Call (.Attribute o m apos) [] [] pos) (Zi7 C m sp [] E0 ta Zh7):=by
 obtain⟨f,fd,F,b,hm⟩:=G.ex;exact Zi0 (pl:=pl) he c hm (F.room hk) hr b .nil ZiW ht
end
theorem lookup_mem{β : Type}{x:Str}{c : β}:∀{l:List (Str × β)},l.lookup x=some c->(x,c)∈l
 | [],h=>by cases h
 | (y,d)::l,h=>by
  rw[List.lookup_cons] at h;cases e:x == y with
  | true =>
   rw[e] at h;cases h;rw[beq_iff_eq.mp e];exact List.mem_cons_self ..
  | false =>
   rw[e] at h;exact List.mem_cons_of_mem _ (lookup_mem h)
theorem Zcx{env:Env}{cl:List (Str×Addr)}(h:∀p∈cl,env.cells.lookup p.1=some p.2):∀x c,cl.lookup x=some c->env.cells.lookup x=some c:=fun x c e=>h (x,c) (lookup_mem e)
theorem Zbx{scope:Scope}{env:Env}{cl:List (Str×Addr)}(h:∀y∈scope.names,(y.2=.cell\/y.2=.free)->∃c,cl.lookup y.1=some c):∀(C:Addr)(x:Str),((compEnvC scope cl C env).kindOf x=some .cell\/(compEnvC scope cl C env).kindOf x=some .free)->∃c,cl.lookup x=some c:=by
 have key:∀(k:NameKind)(x:Str),(k=.cell\/k=.free)->(scope.names.map fun(n,k)=>if(k ==.free&&env.scope.kind ==.function&&env.kindOf n == some .cell) then(n,.cell) else(n,k)).lookup x=some k->∃c,cl.lookup x=some c:=by
  intro k x hk e;obtain⟨⟨n,k0⟩,hy,he⟩:=List.mem_map.mp (lookup_mem e);by_cases hc:(k0 ==.free&&env.scope.kind ==.function&&env.kindOf n == some .cell)=true
  ·simp only[hc,if_true] at he;have h0:k0=.free:=by
    simp only[Bool.and_eq_true] at hc;have:=hc.1.1;cases k0 <;> first|rfl|exact absurd this (by decide)
   injection he with e1 e2;subst e1;exact h _ hy (.inr h0)
  ·simp only[hc] at he;injection he with e1 e2;subst e1 e2;exact h _ hy hk
 intro C x hx;rcases hx with e|e
 ·exact key _ x (.inl rfl) e
 ·exact key _ x (.inr rfl) e
theorem Za9{X:Cx}{K:PySem.W.Frag}(h:X.K=K):IxR X (ZlJ K):=by
 subst h;exact ZaO
def Ze4:Stmt->List Stmt
 | .For _ _ b _ _=>b
 | .While _ b _ _=>b
 | .If _ b _ _=>b
 | _=>[]
theorem ZbO{X:Cx}{b:List Stmt}{D:Ends}{σ : St}{H:Hp}(s:List Stmt){t:TS}(h:PSs X s t)(k:∀u,PSs X s u->u=t->∃t,PSs X b t/\t D σ H):∃t,PSs X b t/\t D σ H:=k t h rfl
theorem ZbN{u t:TS}(e:u=t){D:Ends}{σ : St}{H:Hp}(h:t D σ H):u D σ H:=e ▸ h
theorem Zix{α : Type}:∀{us:List α},us.length=1->∃a,us=[a]
 | [a],_=>⟨a,rfl⟩
theorem Zlf{α : Type}{n:Nat}:∀{us:List α},us.length=n+1->∃a vs,us=a::vs/\vs.length=n
 | a::vs,h=>⟨a,vs,rfl,Nat.succ.inj h⟩
theorem Ziw{α : Type}{us:List α}(h:us.length=2):∃a b,us=[a,b]:=by
 obtain⟨a,vs,rfl,h2⟩:=Zlf h;obtain⟨b,rfl⟩:=Zix h2;exact⟨a,b,rfl⟩
theorem Zk1{α : Type}{us:List α}(h:us.length=3):∃a b c,us=[a,b,c]:=by
 obtain⟨a,vs,rfl,h2⟩:=Zlf h;obtain⟨b,c,rfl⟩:=Ziw h2;exact⟨a,b,c,rfl⟩
theorem ZlY{α : Type}{us:List α}(h:us.length=4):∃a b c d,us=[a,b,c,d]:=by
 obtain⟨a,vs,rfl,h2⟩:=Zlf h;obtain⟨b,c,d,rfl⟩:=Zk1 h2;exact⟨a,b,c,d,rfl⟩
theorem Vals.inv{v:V}{vs:List V}{us:List Value}(h:Vals (v::vs) us):∃u us',us=u::us'/\RelV v u/\Vals vs us':=by
 cases h with
 | cons r t=>exact⟨_,_,rfl,r,t⟩
theorem Vals.end_{us:List Value}(h:Vals [] us):us=[]:=by
 cases h;rfl
def strsOf:List Expr->Option (List Str)
 | []=>some []
 | .Constant (.str x) _ _::es=>(strsOf es).map (x :: ·)
 | _=>none
def Zkh(ss:List Str):TA:=fun _ H Q=>Q (ss.map V.str) H
theorem ZgL{X:Cx}:∀{es:List Expr}{ss:List Str},strsOf es=some ss->PA X es (Zkh ss):=by
 intro es
 induction es with
 | nil =>
  intro ss h;cases h;exact Zd
 | cons e es ih =>
  intro ss h;cases e with
  | Constant k j p =>
   cases k with
   | str x =>
    cases h1:strsOf es with
    | none=>simp[strsOf,h1] at h
    | some ss' =>
     simp[strsOf,h1] at h;subst h;exact fun pos pins s σ H Q I h=>Zb Zc6 (ih h1) rfl pos pins s σ H Q I h
   | _=>simp[strsOf] at h
  | _=>simp[strsOf] at h
theorem Zj5{X:Cx}{es:List Expr}{ss:List Str}(h:strsOf es=some ss:=by rfl):PA X es (Zkh ss):=ZgL h
end L2
namespace L2
open PySem PySem.Spec PyProof.Rows PySem.W
variable{X:Cx}
end L2
namespace Srt
open PySem PyProof.Rows
def Zfo:Bool->Keyed->Array Keyed->Nat->Nat->Nat->StateT SortSt Sem (Option Nat):=sortPriv% PySem.Builtin.gallop
def ZiK:Array Keyed->Array Keyed->StateT SortSt Sem (Array Keyed):=sortPriv% PySem.Builtin.mergeLo
def ZiJ:Array Keyed->Array Keyed->StateT SortSt Sem (Array Keyed):=sortPriv% PySem.Builtin.mergeHi
structure Like(st st':SortSt):Prop where
 arr:arrOf st'=arrOf st
 kind:kindOf st'=kindOf st
 fail:failedOf st'=failedOf st
 pend:pendingOf st'=pendingOf st
theorem Like.refl(st:SortSt):Like st st:=⟨rfl,rfl,rfl,rfl⟩
theorem Like.trans{a b c:SortSt}(x:Like a b)(y:Like b c):Like a c:=⟨y.arr.trans x.arr,y.kind.trans x.kind,y.fail.trans x.fail,y.pend.trans x.pend⟩
section
variable{prog:Program}{w:World}{A:Around}{E:Value->Shared->Prop}{s:Shared}{κ : SortKind}{Ok:Keyed->Prop}{st:SortSt}
theorem Zv{arr:Array Keyed}{i:Nat}{Q:Keyed->SortSt->Prop}(hi:i<arr.size)(h:∀p,p∈arr.toList->arr[i]?= some p->Q p st):wpS (model prog w) A E s (elem' arr i) Q st:=by
 have e:arr[i]?= some arr[i]:=getElem?_pos arr i hi;rw[elem'_eq,e];exact wpS_pure (h _ (by simp) e)
end
def Out(a b:Array Keyed)(out:Array Keyed)(ia ib:Nat):Prop:=out.toList.Perm (a.toList.take ia++b.toList.take ib)
section
variable{a b out:Array Keyed}{ia ib:Nat}
theorem ZkQ{α : Type}(x y z w:List α):(x++y++(z++w)).Perm (x++z++(y++w)):=by
 rw[List.append_assoc,List.append_assoc];refine List.Perm.append_left x ?_;rw[<- List.append_assoc,<- List.append_assoc];exact List.Perm.append_right w List.perm_append_comm
theorem Out.done(h:Out a b out ia ib):(out++a.extract ia a.size++b.extract ib b.size).toList.Perm (a.toList++b.toList):=by
 rw[Array.toList_append,Array.toList_append,Array.toList_extract,Array.toList_extract];have e1:a.toList.extract ia a.size=a.toList.drop ia:=by rw[List.extract_eq_drop_take];apply List.take_of_length_le;rw[List.length_drop,Array.length_toList];exact Nat.le_refl _
 have e2:b.toList.extract ib b.size=b.toList.drop ib:=by rw[List.extract_eq_drop_take];apply List.take_of_length_le;rw[List.length_drop,Array.length_toList];exact Nat.le_refl _
 rw[e1,e2,List.append_assoc];refine(List.Perm.append_right _ h).trans ((ZkQ ..).trans ?_);rw[List.take_append_drop,List.take_append_drop]
theorem Out.last(h:Out a b out ia ib):(out++b.extract ib b.size++a.extract ia a.size).toList.Perm (a.toList++b.toList):=by
 refine List.Perm.trans ?_ h.done;rw[Array.toList_append,Array.toList_append,Array.toList_append,Array.toList_append,List.append_assoc,List.append_assoc];exact List.Perm.append_left _ List.perm_append_comm
theorem Out.extA{k:Nat}(h:Out a b out ia ib)(hk:ia+k<=a.size):Out a b (out++a.extract ia (ia+k)) (ia+k) ib:=by
 unfold Out;rw[Array.toList_append,Array.toList_extract,List.extract_eq_drop_take];have e:a.toList.take (ia+k)=a.toList.take ia++(a.toList.drop ia).take k:=List.take_add ..;rw[e,show ia+k-ia=k by lia];refine(List.Perm.append_right _ h).trans ?_;rw[List.append_assoc,List.append_assoc];exact List.Perm.append_left _ List.perm_append_comm
theorem Out.extB{k:Nat}(h:Out a b out ia ib)(hk:ib+k<=b.size):Out a b (out++b.extract ib (ib+k)) ia (ib+k):=by
 unfold Out;rw[Array.toList_append,Array.toList_extract,List.extract_eq_drop_take];have e:b.toList.take (ib+k)=b.toList.take ib++(b.toList.drop ib).take k:=List.take_add ..;rw[e,show ib+k-ib=k by lia];refine(List.Perm.append_right _ h).trans ?_;rw[List.append_assoc]
theorem Zee{α : Type}{xs:List α}{i:Nat}{p : α}(h:xs[i]?= some p):xs.take (i+1)=xs.take i ++ [p]:=by
 obtain⟨hi,e⟩:=List.getElem?_eq_some_iff.mp h;rw[List.take_succ_eq_append_getElem hi,e]
theorem Out.pushA{p:Keyed}(h:Out a b out ia ib)(hp:a[ia]?= some p):Out a b (out.push p) (ia+1) ib:=by
 have hp':a.toList[ia]?= some p:=by rw[<- hp];simp
 unfold Out;rw[Array.toList_push,Zee hp'];refine(List.Perm.append_right _ h).trans ?_;rw[List.append_assoc,List.append_assoc];exact List.Perm.append_left _ List.perm_append_comm
theorem Out.pushB{p:Keyed}(h:Out a b out ia ib)(hp:b[ib]?= some p):Out a b (out.push p) ia (ib+1):=by
 have hp':b.toList[ib]?= some p:=by rw[<- hp];simp
 unfold Out;rw[Array.toList_push,Zee hp'];refine(List.Perm.append_right _ h).trans ?_;rw[List.append_assoc]
theorem Zl5{p:Keyed}(hp:b[0]?= some p):Out a b #[p] 0 1:=by
 have h0:Out a b #[] 0 0:=by
  unfold Out;rw[List.take_zero,List.take_zero];exact List.Perm.refl _
 exact h0.pushB hp
end
section
variable{prog:Program}{w:World}{A:Around}{E:Value->Shared->Prop}{s:Shared}{κ : SortKind}{Ok:Keyed->Prop}{st:SortSt}
theorem ZaE(st:SortSt)(g:Nat):Like st (SortSt.mk' (kindOf st) (arrOf st) (pendingOf st) g (failedOf st)):=⟨rfl,rfl,rfl,rfl⟩
end
def ZcG(a b:Array Keyed)(out:Array Keyed)(na nb:Nat):Prop:=out.toList.Perm (a.toList.drop na++b.toList.drop nb)
section
variable{a b out:Array Keyed}{na nb:Nat}
theorem ex0(a:Array Keyed)(n:Nat):(a.extract 0 n).toList=a.toList.take n:=by
 rw[Array.toList_extract,List.extract_eq_drop_take,List.drop_zero,Nat.sub_zero]
theorem ZcG.done(h:ZcG a b out na nb):(a.extract 0 na++b.extract 0 nb++out.reverse).toList.Perm (a.toList++b.toList):=by
 rw[Array.toList_append,Array.toList_append,ex0,ex0,Array.toList_reverse];refine(List.Perm.append_left _ ((List.reverse_perm _).trans h)).trans ((ZkQ ..).trans ?_);rw[List.take_append_drop,List.take_append_drop]
theorem ZcG.first(h:ZcG a b out na nb):(b.extract 0 nb++a.extract 0 na++out.reverse).toList.Perm (a.toList++b.toList):=by
 refine List.Perm.trans ?_ h.done;rw[Array.toList_append,Array.toList_append,Array.toList_append,Array.toList_append];exact List.Perm.append_right _ List.perm_append_comm
theorem Zgj{α : Type}{xs:List α}{i:Nat}{p : α}(h:xs[i]?= some p):xs.drop i=p::xs.drop (i+1):=by
 obtain⟨hi,e⟩:=List.getElem?_eq_some_iff.mp h;rw[<- e];exact List.drop_eq_getElem_cons hi
theorem ZcG.pushA{p:Keyed}(h:ZcG a b out na nb)(h1:1<=na)(hp:a[na-1]?= some p):ZcG a b (out.push p) (na-1) nb:=by
 have hp':a.toList[na-1]?= some p:=by rw[<- hp];simp
 unfold ZcG;rw[Array.toList_push,Zgj hp',Nat.sub_add_cancel h1];refine(List.Perm.append_right _ h).trans ?_;exact List.perm_append_comm
theorem ZcG.pushB{p:Keyed}(h:ZcG a b out na nb)(h1:1<=nb)(hp:b[nb-1]?= some p):ZcG a b (out.push p) na (nb-1):=by
 have hp':b.toList[nb-1]?= some p:=by rw[<- hp];simp
 unfold ZcG;rw[Array.toList_push,Zgj hp',Nat.sub_add_cancel h1];refine(List.Perm.append_right _ h).trans ?_;rw[List.append_assoc];refine List.Perm.append_left _ ?_;exact List.perm_append_comm
theorem Zgc{α : Type}(xs:List α){i j:Nat}(h:i<=j):xs.drop i=(xs.drop i).take (j-i)++xs.drop j:=by
 have:=List.take_append_drop (j-i) (xs.drop i);rw[List.drop_drop,Nat.add_sub_cancel' h] at this;exact this.symm
theorem ZcG.extA{k:Nat}(h:ZcG a b out na nb)(hk:k<=na):ZcG a b (out++(a.extract k na).reverse) k nb:=by
 unfold ZcG;rw[Array.toList_append,Array.toList_reverse,Array.toList_extract,List.extract_eq_drop_take];refine(List.Perm.append h (List.reverse_perm _)).trans ?_;refine List.perm_append_comm.trans ?_;rw[<- List.append_assoc,<- Zgc a.toList hk]
theorem ZcG.extB{k:Nat}(h:ZcG a b out na nb)(hk:k<=nb):ZcG a b (out++(b.extract k nb).reverse) na k:=by
 unfold ZcG;rw[Array.toList_append,Array.toList_reverse,Array.toList_extract,List.extract_eq_drop_take];refine(List.Perm.append h (List.reverse_perm _)).trans ?_;rw[List.append_assoc];refine List.Perm.append_left _ (List.perm_append_comm.trans ?_);rw[<- Zgc b.toList hk]
theorem Zlr{p:Keyed}(h1:1<=a.size)(hp:a[a.size-1]?= some p):ZcG a b #[p] (a.size-1) b.size:=by
 have h0:ZcG a b #[] a.size b.size:=by
  unfold ZcG;rw[List.drop_eq_nil_of_le (by rw[Array.length_toList];exact Nat.le_refl _),List.drop_eq_nil_of_le (by rw[Array.length_toList];exact Nat.le_refl _)];exact List.Perm.refl _
 exact h0.pushA h1 hp
end
structure Pm(st st':SortSt):Prop where
 arr:(arrOf st').toList.Perm (arrOf st).toList
 kind:kindOf st'=kindOf st
 fail:failedOf st'=failedOf st
 pend:pendingOf st'=pendingOf st
theorem Pm.refl(st:SortSt):Pm st st:=⟨List.Perm.refl _,rfl,rfl,rfl⟩
theorem Pm.trans{a b c:SortSt}(x:Pm a b)(y:Pm b c):Pm a c:=⟨y.arr.trans x.arr,y.kind.trans x.kind,y.fail.trans x.fail,y.pend.trans x.pend⟩
theorem Pm.size{a b:SortSt}(x:Pm a b):(arrOf b).size=(arrOf a).size:=by
 have:=x.arr.length_eq;rw[Array.length_toList,Array.length_toList] at this;exact this
theorem Pm.ok{a b:SortSt}{Ok:Keyed->Prop}(x:Pm a b)(h:∀p∈(arrOf a).toList,Ok p):∀p∈(arrOf b).toList,Ok p:=fun p hp=>h p (x.arr.mem_iff.mp hp)
theorem Pm.mirror(st:SortSt)(i j:Nat):Pm st (setArr st (mirror (arrOf st) i j ((j-i) / 2))):=⟨Array.perm_iff_toList_perm.mp (mirror_perm _ _ _ _),rfl,rfl,rfl⟩
theorem Pm.bubble(st:SortSt)(i j:Nat):Pm st (setArr st (bubble (arrOf st) i (i-j))):=⟨Array.perm_iff_toList_perm.mp (bubble_perm _ _ _),rfl,rfl,rfl⟩
def Cov:List (Nat×Nat×Nat)->Nat->Nat->Prop
 | [],lo,hi=>lo=hi
 | x::r,lo,hi=>x.1=lo/\1<=x.2.1/\Cov r (lo+x.2.1) hi
theorem Cov.le:∀{l:List (Nat×Nat×Nat)}{lo hi:Nat},Cov l lo hi->lo+l.length<=hi
 | [],lo,hi,h=>Nat.le_of_eq h
 | x::r,lo,hi,⟨_,h1,h2⟩=>by
  have:=Cov.le h2;rw[List.length_cons];lia
theorem Cov.push:∀{l:List (Nat×Nat×Nat)}{lo hi n p:Nat},Cov l lo hi->1<=n->Cov (l ++ [(hi,n,p)]) lo (hi+n)
 | [],lo,hi,n,p,h,h1=>by
  have e:lo=hi:=h;subst e;exact⟨rfl,h1,rfl⟩
 | x::r,lo,hi,n,p,⟨a,b,c⟩,h1=>⟨a,b,c.push h1⟩
theorem Cov.at:∀{l:List (Nat×Nat×Nat)}{i lo hi sa na p sb nb q:Nat},Cov l lo hi->l[i]?= some (sa,na,p)->l[i+1]?= some (sb,nb,q) ->
  sb=sa+na/\1<=na/\1<=nb/\sb+nb<=hi/\Cov ((l.set i (sa,na+nb,p)).eraseIdx (i+1)) lo hi
 | x::y::r,0,lo,hi,sa,na,p,sb,nb,q,⟨a,b,c1,c2,c3⟩,h1,h2=>by
  have e1:x=(sa,na,p):=by simpa using h1
  have e2:y=(sb,nb,q):=by simpa using h2
  subst e1;subst e2;have a':sa=lo:=a;have c1':sb=lo+na:=c1;have hle:=c3.le;subst a';refine⟨c1',b,c2,?_,rfl,?_,?_⟩
  ·have:sa+na+nb<=hi:=by
    have h3:sa+na+nb+r.length<=hi:=hle;lia
   lia
  ·show 1<=na+nb;have:1<=na:=b;lia
  ·show Cov r (sa+(na+nb)) hi;rw[<- Nat.add_assoc];exact c3
 | x::r,i+1,lo,hi,sa,na,p,sb,nb,q,⟨a,b,c⟩,h1,h2=>by
  obtain⟨k1,k2,k3,k4,k5⟩:=Cov.at (l:=r) (i:=i) c (by simpa using h1) (by simpa using h2);exact⟨k1,k2,k3,k4,a,b,k5⟩
 | [x],0,_,_,_,_,_,_,_,_,_,_,h2=>by simp at h2
 | [],_,_,_,_,_,_,_,_,_,_,h1,_=>by simp at h1
theorem Cov.last:∀{l:List (Nat×Nat×Nat)}{lo hi:Nat}(f:Nat×Nat×Nat->Nat×Nat×Nat)(_:∀x,(f x).1=x.1/\(f x).2.1=x.2.1)(i:Nat),Cov l lo hi->Cov (l.modify i f) lo hi
 | [],lo,hi,f,hf,i,h=>by cases i <;> exact h
 | x::r,lo,hi,f,hf,0,⟨a,b,c⟩=>by
  refine⟨(hf x).1.trans a,by rw[(hf x).2];exact b,?_⟩;rw[(hf x).2];exact c
 | x::r,lo,hi,f,hf,i+1,⟨a,b,c⟩=>⟨a,b,Cov.last f hf i c⟩
theorem splice(base:Nat):∀(m:List Keyed)(n:Nat)(arr:Array Keyed),base+n+m.length<=arr.size ->
  ((m.zipIdx n).foldl (fun(a:Array Keyed)(x:Keyed×Nat)=>match x with|(p,j)=>a.setIfInBounds (base+j) p) arr).toList=arr.toList.take (base+n)++m++arr.toList.drop (base+n+m.length)
 | [],n,arr,_=>by
  show arr.toList=_;rw[List.append_nil,List.length_nil,Nat.add_zero,List.take_append_drop]
 | p::m,n,arr,h=>by
  rw[List.length_cons] at h;rw[List.zipIdx_cons,List.foldl_cons];have hs:(arr.setIfInBounds (base+n) p).size=arr.size:=Array.size_setIfInBounds;rw[splice base m (n+1) _ (by rw[hs];lia),Array.toList_setIfInBounds];have hl:base+n<arr.toList.length:=by rw[Array.length_toList];lia
  rw[<- Nat.add_assoc,List.take_set,List.drop_set_of_lt (by lia)];have e1:(arr.toList.take (base+n+1)).set (base+n) p=arr.toList.take (base+n) ++ [p]:=by
   rw[List.take_succ_eq_append_getElem hl,List.set_append_right _ _ (by rw[List.length_take];lia)];rw[show base+n-(arr.toList.take (base+n)).length=0 by rw[List.length_take];lia];rfl
  rw[e1,List.length_cons,show base+n+1+m.length=base+n+(m.length+1) by lia];simp
section
variable{prog:Program}{w:World}{A:Around}{E:Value->Shared->Prop}{s:Shared}{κ : SortKind}{Ok:Keyed->Prop}{st:SortSt}
structure SB(a₀ : Array Keyed)(κ : SortKind)(hi:Nat)(st:SortSt):Prop where
 arr:(arrOf st).toList.Perm a₀.toList
 kind:kindOf st= κ
 fail:failedOf st=none
 cov:Cov (pendingOf st).toList 0 hi
theorem SB.size{a₀ : Array Keyed}{hi:Nat}(x:SB a₀ κ hi st):(arrOf st).size=a₀.size:=by
 have:=x.arr.length_eq;rw[Array.length_toList,Array.length_toList] at this;exact this
theorem SB.ok{a₀ : Array Keyed}{hi:Nat}(x:SB a₀ κ hi st)(h:∀p∈a₀.toList,Ok p):∀p∈(arrOf st).toList,Ok p:=fun p hp=>h p (x.arr.mem_iff.mp hp)
theorem SB.pm{a₀ : Array Keyed}{hi:Nat}{st':SortSt}(x:SB a₀ κ hi st)(p:Pm st st'):SB a₀ κ hi st':=⟨p.arr.trans x.arr,p.kind.trans x.kind,p.fail.trans x.fail,by rw[p.pend];exact x.cov⟩
theorem Zj1{v:SortSt}{Q:PUnit->SortSt->Prop}(h:Q ⟨⟩ v):wpS (model prog w) A E s (set v:StateT SortSt Sem PUnit) Q st:=by
 unfold wpS;rw[StateT.run_set];exact wpAny_pure ⟨rfl,h⟩
theorem ZhE(base:Nat)(m:List Keyed)(arr:Array Keyed)(h:base+m.length<=arr.size) :
  (m.zipIdx.foldl (fun(a:Array Keyed)(x:Keyed×Nat)=>a.setIfInBounds (base+x.2) x.1) arr).toList=arr.toList.take base++m++arr.toList.drop (base+m.length):=splice base m 0 arr h
theorem Zjk(L:List Keyed){m b e:Nat}(h1:m<=b)(h2:b<=e):L.extract m b++L.extract b e=(L.drop m).take (e-m):=by
 rw[List.extract_eq_drop_take,List.extract_eq_drop_take,show e-m=(b-m)+(e-b) by lia,List.take_add,List.drop_drop,Nat.add_sub_cancel' h1]
theorem Zgq{L r:List Keyed}{m c:Nat}(h:r.Perm ((L.drop m).take c))(hc:r.length=c):(L.take m++r++L.drop (m+r.length)).Perm L:=by
 subst hc;have e:L=L.take m++(L.drop m).take r.length++L.drop (m+r.length):=by
  rw[List.append_assoc,<- List.drop_drop,List.take_append_drop,List.take_append_drop]
 refine List.Perm.trans ?_ (List.Perm.of_eq e.symm);exact List.Perm.append_right _ (List.Perm.append_left _ h)
end
section
variable{prog:Program}{w:World}{A:Around}{E:Value->Shared->Prop}{s:Shared}
theorem ZeA{vs:List Value}{xs:Array Keyed}(h:xs.toList.Perm (pairsOf vs).toList):(xs.map (·.2)).toList.Perm vs:=by
 rw[Array.toList_map];refine(h.map (·.2)).trans (List.Perm.of_eq ?_);rw[pairsOf_toList,show(fun p:Keyed=>p.2)=Prod.snd from rfl,List.map_snd_zip (Nat.le_refl _)]
end
end Srt
namespace L2
open PySem PySem.Spec PyProof.Rows
theorem ZeL{us us':List Value}(h:us'.Perm us):∀{vs:List V},Vals vs us->∃vs',vs'.Perm vs/\Vals vs' us':=by
 induction h with
 | nil=>exact fun r=>⟨_,List.Perm.refl _,r⟩
 | cons x _ ih =>
  intro vs r;cases r with
  | cons a t =>
   obtain⟨ws,p,r'⟩:=ih t;exact⟨_::ws,p.cons _,.cons a r'⟩
 | swap x y l =>
  intro vs r;cases r with
  | cons a t =>
   cases t with
   | cons b t=>exact⟨_,List.Perm.swap ..,.cons b (.cons a t)⟩
 | trans _ _ ih1 ih2 =>
  intro vs r;obtain⟨ws,p,r1⟩:=ih2 r;obtain⟨ws',p',r2⟩:=ih1 r1;exact⟨ws',p'.trans p,r2⟩
theorem ZbH:∀{vs:List V}{us:List Value},Vals vs us->∀u∈us,∃v∈vs,RelV v u
 | _,_,.cons a t,u,hu=>by
  rcases List.mem_cons.mp hu with rfl|hu
  ·exact⟨_,List.mem_cons_self ..,a⟩
  ·obtain⟨v,hv,r⟩:=ZbH t u hu;exact⟨v,List.mem_cons_of_mem _ hv,r⟩
end L2
namespace L2
open PySem PySem.Spec PyProof.Rows PySem.W
def ZfP(h:Heap)(d:Addr)(es:Array DictEntry)(ep:Nat):Prop := ∃o,h.get? d=some o/\o.ExactDict/\o.data=.dict es ep
theorem ZfP.tyIs{s:Shared}{d:Addr}{es:Array DictEntry}{ep:Nat}(x:ZfP s.heap d es ep):s.TypeIs (.ref d) "dict" := let ⟨o,ho,hc,_⟩:=x;⟨o,ho,hc.1⟩
theorem ZfP.to{h h':Heap}{d:Addr}{es:Array DictEntry}{ep:Nat}(x:ZfP h d es ep)(e:∀o,h.get? d=some o->h'.get? d=some o):ZfP h' d es ep:=let ⟨o,ho,r⟩:=x;⟨o,e _ ho,r⟩
section
variable{prog:Program}{w:World}{A:Around}{E:Value->Shared->Prop}{s:Shared}{it d:Addr}{es:Array DictEntry}{i ep:Nat}
theorem Zi5{Q:Value->Shared->Prop}(lo:(d == sysModules)=false)(x:ZfP s.heap d es ep)
  (q:Q (.ref s.heap.objs.size) { s with heap:=s.heap.push { cls:=.type "dict_keyiterator",data:=.fields #[.ref d,.int 0 0,.int es.size 0,.int ep 0] } }):wpAny (model prog w) A (pyIter (.ref d)) Q E s:=by
 obtain⟨o,ho,hx,hdat⟩:=id x;have hT:=x.tyIs;refine wpAny_pyIter_slot hT PySem.F.slot_dict_iter (wpAny_call_entry PySem.F.slot_dict_iter hT PySem.F.entry_dict_iter ?_ (PySem.F.args_dict_iter_1 _));unfold Builtin.«dict.__iter__»;refine wpAny_bind ?_;unfold Builtin.Dict.dictSlotNone;refine wpAny_bind (wpAny_notOrdered_dict hT ?_);refine wpAny_pure (?_:wpAny _ _ (Builtin.Dict.showsAll d >>= _) _ _ s);unfold Builtin.Dict.showsAll;rw[if_neg (by rw[lo];exact Bool.false_ne_true)];refine wpAny_bind (wpAny_pure (wpAny_bind (wpAny_dictEntries ho hdat (wpAny_bind (wpAny_dictEpoch ho hdat ?_)))));exact wpAny_bind (wpAny_newObj_type (wpAny_pure ⟨_,rfl,"dict_keyiterator",_,⟨_,Heap.get?_push_size _ rfl,rfl⟩,PySem.F.slot_dict_keyiterator_next.lookup,q⟩))
theorem ZiP{Q:Option Value->Shared->Prop}(st:s.heap.IsKeyIter it d i es.size ep)(x:ZfP s.heap d es ep)(hi:i<es.size)
  (q:∀h',h'.IsKeyIter it d (i+1) es.size ep->Heap.SameBut it s.heap h'->Q (some es[i].key) { s with heap:=h' }):wpAny (model prog w) A (pyNext (.ref it)) Q E s:=by
 obtain⟨o,ho,hc,hd⟩:=id st;obtain⟨od,hod,hxd,hdd⟩:=id x;unfold pyNext;refine wpAny_bind (wpAny_attempt (wpAny_callSpecial?_slot (name:=Str.ofString "__next__") st.typeIs PySem.F.slot_dict_keyiterator_next (wpAny_call_entry PySem.F.slot_dict_keyiterator_next st.typeIs PySem.F.entry_dict_keyiterator_next ?_ (PySem.F.args_dict_keyiterator_next_1 _))));refine wpAny_bind (wpAny_pure (wpAny_bind (wpAny_bind ?_)))
 first|refine wpAny_bind (wpAny_typeNameOfWhole_keyiter st.typeIs (wpAny_pure (wpAny_bind (wpAny_fieldsOf ho hd ?_))))|refine wpAny_bind (wpAny_typeNameOf_keyiter st.typeIs (wpAny_pure (wpAny_bind (wpAny_fieldsOf ho hd ?_))))
 have own:Builtin.Dict_items.ownsTuple "dict_keyiterator" = false:=by decide
 simp only[own,Bool.false_eq_true,if_false];change wpAny _ _ (if(Value.ref d == Value.none)=true then _ else _) _ _ s
 rw[if_neg (fun z:(Value.ref d == Value.none)=true=>Bool.false_ne_true z)];refine wpAny_bind (wpAny_pure (wpAny_bind (wpAny_dictEntries hod hdd ?_)));rw[if_neg (by simp)];refine wpAny_bind (wpAny_pure (wpAny_bind (wpAny_dictEpoch hod hdd ?_)));rw[if_neg (by simp)];refine wpAny_pure ?_;simp only[show ¬ ((i:Int)<0) by lia,if_false,Int.toNat_natCast,Array.getElem?_eq_getElem hi];refine wpAny_bind ?_;first|refine wpAny_bind (wpAny_typeNameOfWhole_keyiter st.typeIs (wpAny_pure (wpAny_bind (wpAny_isOneOf_keyiter st.typeIs ?_))))|refine wpAny_bind (wpAny_typeNameOf_keyiter st.typeIs (wpAny_pure (wpAny_bind (wpAny_isOneOf_keyiter st.typeIs ?_))))
 change wpAny _ _ (setField (.ref it) 1 (rawInt ((i:Int)+1)) >>= _) _ _ s;refine wpAny_bind (wpAny_setField ho hd (by simp) ?_);have st2:(s.heap.update it (Obj.mapFields (·.setIfInBounds 1 (rawInt ((i:Int)+1))))).IsKeyIter it d (i+1) es.size ep:=⟨_,Heap.get?_update_self _ ho (Obj.isFreed_of_fields (Obj.data_mapFields hd _)),(Obj.cls_mapFields ..).trans hc,by rw[Obj.data_mapFields hd];simp[rawInt]⟩;refine wpAny_bind (wpAny_holding (wpAny_bind (wpAny_isOneOf_keyiter (s:={ s with heap:=s.heap.update it (Obj.mapFields (·.setIfInBounds 1 (rawInt ((i:Int)+1)))) }) st2.typeIs ?_)));change wpAny _ _ (pure es[i].key) _ _ _;exact wpAny_pure (wpAny_pure ⟨_,rfl,wpAny_pure (q _ st2 (Heap.SameBut.update ..))⟩)
theorem ZjU{Q:Option Value->Shared->Prop}(hh:A.handled=none)(st:s.heap.IsKeyIter it d i es.size ep)(x:ZfP s.heap d es ep)(hi:es.size<=i)
  (q:∀h',Heap.ExtBut it s.heap h'->Q none { s with heap:=h' }):wpAny (model prog w) A (pyNext (.ref it)) Q E s:=by
 obtain⟨o,ho,hc,hd⟩:=id st;obtain⟨od,hod,hxd,hdd⟩:=id x;unfold pyNext;refine wpAny_bind (wpAny_attempt (wpAny_callSpecial?_slot (name:=Str.ofString "__next__") st.typeIs PySem.F.slot_dict_keyiterator_next (wpAny_call_entry PySem.F.slot_dict_keyiterator_next st.typeIs PySem.F.entry_dict_keyiterator_next ?_ (PySem.F.args_dict_keyiterator_next_1 _))));refine wpAny_bind (wpAny_pure (wpAny_bind (wpAny_bind ?_)))
 first|refine wpAny_bind (wpAny_typeNameOfWhole_keyiter st.typeIs (wpAny_pure (wpAny_bind (wpAny_fieldsOf ho hd ?_))))|refine wpAny_bind (wpAny_typeNameOf_keyiter st.typeIs (wpAny_pure (wpAny_bind (wpAny_fieldsOf ho hd ?_))))
 have own:Builtin.Dict_items.ownsTuple "dict_keyiterator" = false:=by decide
 simp only[own,Bool.false_eq_true,if_false];change wpAny _ _ (if(Value.ref d == Value.none)=true then _ else _) _ _ s
 rw[if_neg (fun z:(Value.ref d == Value.none)=true=>Bool.false_ne_true z)];refine wpAny_bind (wpAny_pure (wpAny_bind (wpAny_dictEntries hod hdd ?_)));rw[if_neg (by simp)];refine wpAny_bind (wpAny_pure (wpAny_bind (wpAny_dictEpoch hod hdd ?_)));rw[if_neg (by simp)];refine wpAny_pure ?_;simp only[show ¬ ((i:Int)<0) by lia,if_false,Int.toNat_natCast,Array.getElem?_eq_none hi];refine wpAny_bind ?_;first|refine wpAny_bind (wpAny_typeNameOfWhole_keyiter st.typeIs (wpAny_pure ?_))|refine wpAny_bind (wpAny_typeNameOf_keyiter st.typeIs (wpAny_pure ?_))
 change wpAny _ _ (setField (.ref it) 0 .none >>= _) _ _ s;refine wpAny_bind (wpAny_setField ho hd (by simp) ?_);change wpAny _ _ (newExc (.type "StopIteration") [] >>= _) _ _ _;refine wpAny_bind ?_;simp only[newExc,newTuple];refine wpAny_bind (wpAny_newObj_type (wpAny_bind (m:=firstArgMember _ _) (wpAny_of_eq (a:=Value.none) (by first|rfl|(simp only[firstArgMember];rfl)) (wpAny_newObj_type ?_ (by size_fits)))) (by size_fits))
 simp only[raiseNew];refine wpAny_bind (wpAny_handled ?_);rw[show A.in1.handled=none from hh];refine wpAny_bind (wpAny_pure (wpAny_throw ?_));refine wpAny_bind (wpAny_isInstance (T := "StopIteration") (b:=true) (v:=.ref _) (by exact⟨_,Heap.get?_push_size _ rfl,rfl⟩) isSubtype_stop ?_);exact wpAny_pure (q _ (((Heap.SameBut.update ..).extBut.push _).push _))
theorem Zis(hh:A.handled=none)(hne:d≠it):Walks prog w A it [it,d] [it] es.size (fun i v=>∃e,es[i]?= some e/\v=e.key) (fun i h=>h.IsKeyIter it d i es.size ep/\ZfP h d es ep) where
 sub:=fun b hb=>List.mem_cons.mpr (.inl (List.mem_singleton.mp hb))
 frame:=fun _ _ _ st hk=>⟨st.1.at fun o e=>hk it (List.mem_cons_self ..) o e,st.2.to fun o e=>hk d (List.mem_cons_of_mem _ (List.mem_cons_self ..)) o e⟩
 item:=fun j s Q E hj st hQ=>ZiP st.1 st.2 hj fun h' st' sb=>hQ _ h' s.toks ⟨_,Array.getElem?_eq_getElem hj,rfl⟩ ⟨st',st.2.to fun o e=>sb.extBut d o hne e⟩ fun b o hb e=>sb.extBut b o (fun z=>hb (List.mem_singleton.mpr z)) e
 done:=fun s Q E st hQ=>ZjU hh st.1 st.2 (Nat.le_refl _) fun h' he=>hQ h' s.toks fun b o hb e=>he b o (fun z=>hb (List.mem_singleton.mpr z)) e
 self:=fun _ _ _ _ st hQ=>wpAny_pyIter_keyiter st.1 hQ
theorem Zd7(lo:(d == sysModules)=false):KdlSrc prog w "dict" d d es.size (fun i v=>∃e,es[i]?= some e/\v=e.key) (fun h=>ZfP h d es ep) where
 type:=fun _ x=>x.tyIs
 there:=fun _ ⟨o,ho,_⟩=>⟨Heap.lt_size ho,Heap.lt_size ho⟩
 keep:=fun _ _ x hk=>x.to fun o e=>hk d (.inl rfl) o e
 notList:=by decide
 notTuple:=by decide
 hint:=fun _ _ _ _ x hq=>kdl_hint_dict x.tyIs hq
 iter:=fun _ _ hh x=>⟨_,_,(fun _ _ hq=>Zi5 lo x hq),Zis hh (let ⟨o,ho,_⟩:=x;Nat.ne_of_lt (Heap.lt_size ho)),⟨⟨_,Heap.get?_push_size _ rfl,rfl,rfl⟩,x.to fun _ e=>Heap.get?_push_of_some _ e⟩⟩
end
end L2
namespace Sts
open PySem
def nx(m i:Nat):Nat:=(i*5+1) % (m+1)
def itn(m:Nat):Nat->Nat->Nat
 | 0,i=>i
 | n+1,i=>itn m n (nx m i)
theorem ZdX(m:Nat):∀a b i,itn m (a+b) i=itn m b (itn m a i)
 | 0,b,i=>by rw[Nat.zero_add];rfl
 | a+1,b,i=>by rw[Nat.add_right_comm];exact ZdX m a b (nx m i)
def seen(m:Nat):Nat->Nat->Nat->Nat
 | 0,_,acc=>acc
 | n+1,i,acc=>seen m n (nx m i) (acc ||| (1 <<< i))
theorem Zgr(m:Nat):∀n i acc j,(seen m n i acc).testBit j=true->acc.testBit j=true\/∃k,k<n/\itn m k i=j
 | 0,_,_,_,h=>.inl h
 | n+1,i,acc,j,h=>by
  rcases Zgr m n (nx m i) _ j h with h|⟨k,hk,e⟩
  ·rw[Nat.testBit_or,Bool.or_eq_true] at h;rcases h with h|h
   ·exact .inl h
   ·rw[Nat.testBit_shiftLeft] at h;have h2:i<=j/\(1:Nat).testBit (j-i)=true:=by simpa using h
    have h3:j-i=0:=by
     have:=h2.2;rw[Nat.testBit_one_eq_true_iff_self_eq_zero] at this;exact this
    exact .inr ⟨0,Nat.succ_pos _,by show i=j;lia⟩
  ·exact .inr ⟨k+1,Nat.succ_lt_succ hk,e⟩
def Good(m:Nat):Prop:=m=7\/m=15\/m=31\/m=63\/m=127\/m=255\/m=511\/m=1023\/m=2047\/m=4095
def Zlg(m:Nat):Bool:=seen m (m+1) 0 0 == 2 ^ (m+1)-1&&itn m (m+1) 0 == 0
theorem Zh1{m:Nat}(h:Good m):Zlg m=true:=by
 rcases h with h|h|h|h|h|h|h|h|h|h <;> subst h <;> decide +kernel
theorem from0{m j:Nat}(h:Good m)(hj:j<=m):∃n,n<=m/\itn m n 0=j:=by
 have hc:=Zh1 h;unfold Zlg at hc;rw[Bool.and_eq_true] at hc;have h1:=eq_of_beq hc.1;have hb:(seen m (m+1) 0 0).testBit j=true:=by
  rw[h1,Nat.testBit_two_pow_sub_one];exact decide_eq_true (by lia)
 rcases Zgr m (m+1) 0 0 j hb with h|⟨k,hk,e⟩
 ·simp at h
 ·exact⟨k,by lia,e⟩
theorem Zlx{m:Nat}(h:Good m):itn m (m+1) 0=0:=by
 have hc:=Zh1 h;unfold Zlg at hc;rw[Bool.and_eq_true] at hc;exact eq_of_beq hc.2
theorem reach{m i j:Nat}(h:Good m)(hi:i<=m)(hj:j<=m):∃n,n<=m/\itn m n i=j:=by
 obtain⟨a,ha,ea⟩:=from0 h hi;obtain⟨b,hb,eb⟩:=from0 h hj;by_cases hab:a<=b
 ·refine⟨b-a,by lia,?_⟩;rw[<- ea,<- ZdX,Nat.add_sub_cancel' hab];exact eb
 ·refine⟨m+1-a+b,by lia,?_⟩;rw[<- ea,<- ZdX,show a+(m+1-a+b)=(m+1)+b by lia,ZdX,Zlx h];exact eb
def Za6(t:SetTable):Nat->SetTable.Probe->SetTable.Probe
 | 0,p=>p
 | n+1,p=>Za6 t n (t.advance p)
theorem Zbk(t:SetTable):∀a b p,Za6 t (a+b) p=Za6 t b (Za6 t a p)
 | 0,b,p=>by rw[Nat.zero_add];rfl
 | a+1,b,p=>by rw[Nat.add_right_comm];exact Zbk t a b (t.advance p)
def lp(t:SetTable)(p:SetTable.Probe):SetTable.Probe:={ p with j:=(p.i*5+1+p.perturb / 32) % (t.mask+1),more:=SetTable.runEnd t.mask ((p.i*5+1+p.perturb / 32) % (t.mask+1))-(p.i*5+1+p.perturb / 32) % (t.mask+1),i:=(p.i*5+1+p.perturb / 32) % (t.mask+1),perturb:=p.perturb / 32 }
theorem Zif(t:SetTable):∀(n:Nat)(p:SetTable.Probe),p.more=n->Za6 t (n+1) p=lp t p
 | 0,p,h=>by
  show t.advance p=lp t p;unfold SetTable.advance;rw[if_neg (by lia)];rfl
 | n+1,p,h=>by
  show Za6 t (n+1) (t.advance p)=lp t p;have e:t.advance p= { p with j:=p.j+1,more:=p.more-1 }:=by
   unfold SetTable.advance;rw[if_pos (by lia)]
  rw[e,Zif t n { p with j:=p.j+1,more:=p.more-1 } (by show p.more-1=n;lia)];rfl
def lpn(t:SetTable):Nat->SetTable.Probe->SetTable.Probe
 | 0,p=>p
 | n+1,p=>lpn t n (lp t p)
theorem ZjY(t:SetTable)(p:SetTable.Probe):(lp t p).more<=9:=by
 show SetTable.runEnd t.mask _-_<=9;unfold SetTable.runEnd
 split <;> lia
theorem ZhY(t:SetTable):∀(k:Nat)(p:SetTable.Probe),p.more<=9->∃n,n<=10*k/\Za6 t n p=lpn t k p
 | 0,p,_=>⟨0,Nat.le_refl _,rfl⟩
 | k+1,p,h=>by
  obtain⟨n,hn,e⟩:=ZhY t k (lp t p) (ZjY t p);refine⟨p.more+1+n,by lia,?_⟩;rw[Zbk,Zif t p.more p rfl,e];rfl
theorem ZcH(t:SetTable):∀(k:Nat)(p:SetTable.Probe),lpn t (k+1) p=lp t (lpn t k p)
 | 0,_=>rfl
 | k+1,p=>ZcH t k (lp t p)
theorem ZfA(t:SetTable):∀(k:Nat)(p:SetTable.Probe),(lpn t k p).perturb=p.perturb / 32 ^ k
 | 0,p=>by simp[lpn]
 | k+1,p=>by
  show(lpn t k (lp t p)).perturb=_;rw[ZfA t k (lp t p)];show p.perturb / 32 / 32 ^ k=_;rw[Nat.div_div_eq_div_mul,Nat.pow_succ,Nat.mul_comm]
theorem Zd8(t:SetTable):∀(n:Nat)(p:SetTable.Probe),p.perturb=0->(lpn t n p).i=itn t.mask n p.i/\(1<=n->(lpn t n p).j=(lpn t n p).i)/\(lpn t n p).perturb=0
 | 0,p,h=>⟨rfl,fun z=>absurd z (by decide),h⟩
 | n+1,p,h=>by
  have h0:(lp t p).perturb=0:=by show p.perturb / 32=0;rw[h]
  have hi:(lp t p).i=nx t.mask p.i:=by show(p.i*5+1+p.perturb / 32) % (t.mask+1)=_;rw[h];rfl
  obtain⟨a,b,c⟩:=Zd8 t n (lp t p) h0;refine⟨?_,fun _=>?_,c⟩
  ·show(lpn t n (lp t p)).i=_;rw[a,hi];rfl
  ·cases n with
   | zero=>rfl
   | succ n=>exact b (by lia)
theorem meets{t:SetTable}{p:SetTable.Probe}(hg:Good t.mask)(hm:p.more<=9)(hp:p.perturb<2 ^ 64){j:Nat}(hj:j<=t.mask):∃n,n<10*SetTable.turns t.mask/\(Za6 t n p).j=j:=by
 have h0:(lpn t 13 p).perturb=0:=by
  rw[ZfA];exact Nat.div_eq_of_lt (Nat.lt_of_lt_of_le hp (by decide))
 have hi:(lpn t 13 p).i<=t.mask:=by
  rw[ZcH];exact Nat.le_of_lt_succ (Nat.mod_lt _ (Nat.succ_pos _))
 have hji:(lpn t 13 p).j=(lpn t 13 p).i:=by
  rw[ZcH];rfl
 obtain⟨n,hn,e⟩:=reach hg hi hj;obtain⟨a,b,_⟩:=Zd8 t n (lpn t 13 p) h0;have hl:(lpn t n (lpn t 13 p)).j=j:=by
  cases n with
  | zero=>exact hji.trans e
  | succ n=>rw[b (by lia),a,e]
 have hcat:∀(a b:Nat)(p:SetTable.Probe),lpn t (a+b) p=lpn t b (lpn t a p):=by
  intro a
  induction a with
  | zero=>intro b p;rw[Nat.zero_add];rfl
  | succ a ih=>intro b p;rw[Nat.add_right_comm];exact ih b (lp t p)
 obtain⟨c,hc,ec⟩:=ZhY t (13+n) p hm;refine⟨c,?_,?_⟩
 ·unfold SetTable.turns;lia
 ·rw[ec,hcat];exact hl
theorem Zb0(t:SetTable)(h:Int):(t.probeStart h).more<=9/\(t.probeStart h).perturb<2 ^ 64/\(t.probeStart h).dummy=none:=by
 refine⟨?_,?_,rfl⟩
 ·show SetTable.runEnd t.mask _-_<=9;unfold SetTable.runEnd
  split <;> lia
 ·show SetTable.bits h<2 ^ 64;unfold SetTable.bits;have h1:=Int.emod_nonneg h (by decide:((2:Int) ^ 64)≠0);have h2:=Int.emod_lt_of_pos h (by decide:(0:Int)<2 ^ 64);lia
theorem ZgC{t:SetTable}(hd:t.dummies=#[])(hf:t.fill<=t.mask):∃j,j<=t.mask/\t.slot j=.empty:=by
 apply Classical.byContradiction;intro hn;have hall:∀j,j<=t.mask->j∈t.place.toList:=fun j hj=>by
  have h1:t.slot j ≠ .empty:=fun z=>hn ⟨j,hj,z⟩;unfold SetTable.slot at h1;dsimp only at h1
  split at h1
  ·rename_i h2
   have h3:=eq_of_beq h2;rw[<- Array.getElem?_toList] at h3;exact List.mem_of_getElem? h3
  ·exfalso;rw[hd] at h1;exact h1 rfl
 have hsub:(List.range (t.mask+1)) ⊆ t.place.toList:=fun j hj=>hall j (by have:=List.mem_range.mp hj;lia);have hlen:=(List.nodup_range (n:=t.mask+1)).length_le_of_subset hsub;rw[List.length_range,Array.length_toList] at hlen;unfold SetTable.fill at hf;lia
theorem ZeP{t:SetTable}{p:SetTable.Probe}(hg:Good t.mask)(hp:p.perturb<2 ^ 64){j:Nat}(hj:j<=t.mask):∃k,k<=13+t.mask/\(lpn t k p).i=j:=by
 have h0:(lpn t 13 p).perturb=0:=by
  rw[ZfA];exact Nat.div_eq_of_lt (Nat.lt_of_lt_of_le hp (by decide))
 have hi:(lpn t 13 p).i<=t.mask:=by
  rw[ZcH];exact Nat.le_of_lt_succ (Nat.mod_lt _ (Nat.succ_pos _))
 obtain⟨n,hn,e⟩:=reach hg hi hj;obtain⟨a,_,_⟩:=Zd8 t n (lpn t 13 p) h0;have hcat:∀(a b:Nat)(p:SetTable.Probe),lpn t (a+b) p=lpn t b (lpn t a p):=by
  intro a
  induction a with
  | zero=>intro b p;rw[Nat.zero_add];rfl
  | succ a ih=>intro b p;rw[Nat.add_right_comm];exact ih b (lp t p)
 exact⟨13+n,by lia,by rw[hcat,a,e]⟩
theorem ZcR{t:SetTable}{owner:Array (Option Nat)}{j:Nat}(ho:owner.getD j (some 0)=none):∀(k fuel:Nat)(p:SetTable.Probe),k<fuel->(lpn t k p).i=j ->
  ∃j',SetTable.layClean.free t.mask owner fuel p.i p.perturb=some j'/\owner.getD j' (some 0)=none
 | k,0,_,h,_=>absurd h (Nat.not_lt_zero _)
 | k,fuel+1,p,hk,e=>by
  unfold SetTable.layClean.free;cases hf:(List.range (SetTable.runEnd t.mask p.i+1-p.i)).find? fun k=>(owner.getD (p.i+k) (some 0)).isNone with
  | some k' =>
   have h1:=List.find?_some hf;exact⟨p.i+k',rfl,Option.isNone_iff_eq_none.mp h1⟩
  | none =>
   cases k with
   | zero =>
    exfalso;have e':p.i=j:=e;have h1:=List.find?_eq_none.mp hf 0 (List.mem_range.mpr (by unfold SetTable.runEnd;split <;> lia))
    rw[Nat.add_zero,e',ho] at h1;exact h1 rfl
   | succ k =>
    exact ZcR ho k fuel (lp t p) (by lia) e
theorem ZbQ{β : Type}{g g':Nat->Option β}:∀l:List Nat,(∀k∈l,g' k=g k)->l.filterMap g'=l.filterMap g
 | [],_=>rfl
 | y::l,h=>by
  have ih:=ZbQ l fun k hk=>h k (List.mem_cons_of_mem _ hk);have hy:=h y (List.mem_cons_self ..);cases hg:g y with
  | none=>rw[List.filterMap_cons_none (by rw[hy,hg]),List.filterMap_cons_none hg,ih]
  | some z=>rw[List.filterMap_cons_some (by rw[hy,hg]),List.filterMap_cons_some hg,ih]
theorem Zcw{β : Type}{g g':Nat->Option β}{j:Nat}{x : β}(h0:g j=none)(h1:g' j=some x)(h2:∀k,k≠j->g' k=g k):∀l:List Nat,l.Nodup->j∈l->(l.filterMap g').Perm (x::l.filterMap g)
 | y::l,hn,hj=>by
  obtain⟨hy,hl⟩:=List.nodup_cons.mp hn;by_cases e:y=j
  ·subst e;rw[List.filterMap_cons_some h1,List.filterMap_cons_none h0];have:l.filterMap g'=l.filterMap g:=ZbQ l fun k hk=>h2 k fun z=>hy (z ▸ hk);rw[this]
  ·have hj':j∈l:=(List.mem_cons.mp hj).resolve_left (Ne.symm e);have ih:=Zcw h0 h1 h2 l hl hj';cases hg:g y with
   | none =>
    rw[List.filterMap_cons_none (by rw[h2 y e,hg]),List.filterMap_cons_none hg];exact ih
   | some z =>
    rw[List.filterMap_cons_some (by rw[h2 y e,hg]),List.filterMap_cons_some hg];exact(ih.cons z).trans (List.Perm.swap ..)
def Z7(m:Nat)(owner:Array (Option Nat)):List (Nat×Nat):=(List.range (m+1)).filterMap fun j=>(owner.getD j none).map (j,·)
structure Own(m:Nat)(owner:Array (Option Nat))(k:Nat):Prop where
 size:owner.size=m+1
 perm:((Z7 m owner).map (·.2)).Perm (List.range k)
theorem Zic{m:Nat}{owner:Array (Option Nat)}{k:Nat}(h:Own m owner k):(Z7 m owner).length=k:=by
 have:=h.perm.length_eq;rw[List.length_map,List.length_range] at this;exact this
theorem ZfS{m:Nat}{owner:Array (Option Nat)}{k:Nat}(h:Own m owner k)(hk:k<=m):∃j,j<=m/\owner.getD j (some 0)=none:=by
 apply Classical.byContradiction;intro hn;have hall:∀j∈List.range (m+1),((owner.getD j none).map (Prod.mk j)).isSome=true:=fun j hj=>by
  have hj':=List.mem_range.mp hj;cases ho:owner.getD j none with
  | some v=>rfl
  | none =>
   exfalso;refine hn ⟨j,by lia,?_⟩;have hs:j<owner.size:=by rw[h.size];exact hj'
   simp only[Array.getD,hs,dif_pos] at ho ⊢;exact ho
 have hl:(Z7 m owner).length=m+1:=by
  unfold Z7;have:∀(l:List Nat)(g:Nat->Option (Nat×Nat)),(∀j∈l,(g j).isSome=true)->(l.filterMap g).length=l.length:=by
   intro l g
   induction l with
   | nil=>exact fun _=>rfl
   | cons y l ih =>
    intro hg;obtain⟨z,hz⟩:=Option.isSome_iff_exists.mp (hg y (List.mem_cons_self ..));rw[List.filterMap_cons_some hz,List.length_cons,List.length_cons,ih fun j hj=>hg j (List.mem_cons_of_mem _ hj)]
  rw[this _ _ hall,List.length_range]
 have:=Zic h;lia
theorem Zhu{m:Nat}{owner:Array (Option Nat)}{k j:Nat}(h:Own m owner k)(hj:owner.getD j (some 0)=none):Own m (owner.setIfInBounds j (some k)) (k+1):=by
 have hs:j<owner.size:=by
  apply Classical.byContradiction;intro hn;rw[Array.getD,dif_neg hn] at hj;cases hj
 refine⟨by rw[Array.size_setIfInBounds];exact h.size,?_⟩;have hp:(Z7 m (owner.setIfInBounds j (some k))).Perm ((j,k)::Z7 m owner):=by
  refine Zcw ?_ ?_ (fun y hy=>?_) _ List.nodup_range (List.mem_range.mpr (by rw[<- h.size];exact hs))
  ·have:owner.getD j none=none:=by
    simp only[Array.getD,hs,dif_pos] at hj ⊢;exact hj
   rw[this];rfl
  ·have:(owner.setIfInBounds j (some k)).getD j none=some k:=by
    simp[Array.getD,hs]
   rw[this];rfl
  ·have:(owner.setIfInBounds j (some k)).getD y none=owner.getD y none:=by
    simp only[Array.getD,Array.size_setIfInBounds]
    split
    ·rename_i hy2
     exact Array.getElem_setIfInBounds_ne (by simpa using hy2) (Ne.symm hy)
    ·rfl
   rw[this]
 refine(hp.map (·.2)).trans ?_;rw[List.map_cons];refine((h.perm.cons k)).trans ?_;rw[List.range_succ];exact List.perm_append_comm (l₁ :=[k]) (l₂ := List.range k)
theorem Zf8{m:Nat}(hg:Good m):∀(hs:List Int)(owner:Array (Option Nat))(k:Nat),Own m owner k->k+hs.length<=m ->
  ∃owner',hs.foldl (fun(acc:Option (Array (Option Nat)×Nat)) h=>do
   let (owner,k) <- acc
   let j <- SetTable.layClean.free m owner (SetTable.turns m) (SetTable.bits h % (m+1)) (SetTable.bits h)
   pure (owner.setIfInBounds j (some k),k+1)) (some (owner,k))=some (owner',k+hs.length)/\Own m owner' (k+hs.length)
 | [],owner,k,h,_=>⟨owner,rfl,h⟩
 | x::hs,owner,k,h,hl=>by
  rw[List.length_cons] at hl;obtain⟨j,hj,ho⟩:=ZfS h (by lia);have t:SetTable:={ mask:=m,place :=#[],dummies :=#[],finger:=0,led:=true,moves:=0,plain:=true };have hb:SetTable.bits x<2 ^ 64:=(Zb0 (SetTable.fresh 0 0 true) x).2.1;obtain⟨n,hn,e⟩:=ZeP (t:={ mask:=m,place :=#[],dummies :=#[],finger:=0,led:=true,moves:=0,plain:=true }) (p:={ j:=0,more:=0,i:=SetTable.bits x % (m+1),perturb:=SetTable.bits x,dummy:=none }) hg hb hj;obtain⟨j',hf,ho'⟩:=ZcR ho n (SetTable.turns m) _ (by unfold SetTable.turns;have:n<=13+m:=hn;lia) e;have hf':SetTable.layClean.free m owner (SetTable.turns m) (SetTable.bits x % (m+1)) (SetTable.bits x)=some j':=hf;obtain⟨owner',h1,h2⟩:=Zf8 hg hs _ (k+1) (Zhu h ho') (by lia);refine⟨owner',?_,by rw[List.length_cons,show k+(hs.length+1)=k+1+hs.length by lia];exact h2⟩;rw[List.foldl_cons];simp only[Option.bind_eq_bind,Option.bind_some,hf',Option.pure_def];rw[List.length_cons,show k+(hs.length+1)=k+1+hs.length by lia];exact h1
theorem Zhr{m:Nat}(hg:Good m)(fi mo:Nat)(led plain:Bool)(hs:Array Int)(hl:hs.size<=m):∃t order,SetTable.laid m fi mo led plain hs=some (t,order)/\t.mask=m/\t.dummies=#[]/\t.place.size=hs.size/\order.toList.Perm (List.range hs.size)/\t.led=led/\t.plain=plain/\t.moves=mo/\t.place.toList.Pairwise (· < ·):=by
 have h0:Own m (Array.replicate (m+1) none) 0:=by
  refine⟨Array.size_replicate,?_⟩;have:Z7 m (Array.replicate (m+1) none)=[]:=by
   unfold Z7;rw[List.filterMap_eq_nil_iff];intro j hj;have:(Array.replicate (m+1) (none:Option Nat)).getD j none=none:=by
    simp[Array.getD]
   rw[this];rfl
  rw[this];exact List.Perm.refl _
 obtain⟨owner,h1,h2⟩:=Zf8 hg hs.toList _ 0 h0 (by rw[Array.length_toList];lia);rw[Nat.zero_add,Array.length_toList] at h1 h2;have hc:SetTable.layClean m hs=some owner:=by
  unfold SetTable.layClean;rw[<- Array.foldl_toList];have:=congrArg (Option.map (·.1)) h1;exact this
 refine⟨{ mask:=m,place:=((Z7 m owner).map (·.1)).toArray,dummies :=#[],finger:=fi,led:=led,moves:=mo,plain:=plain },((Z7 m owner).map (·.2)).toArray,?_,rfl,rfl,?_,?_,rfl,rfl,rfl,?_⟩
 ·unfold SetTable.laid;rw[hc];rfl
 ·show((Z7 m owner).map (·.1)).toArray.size=_;rw[List.size_toArray,List.length_map,Zic h2]
 ·show((Z7 m owner).map (·.2)).toArray.toList.Perm _;exact h2.perm
 ·show((Z7 m owner).map (·.1)).toArray.toList.Pairwise (· < ·);have hsub:((Z7 m owner).map (·.1)).Sublist (List.range (m+1)):=by
   unfold Z7;generalize List.range (m+1)=l
   induction l with
   | nil=>exact List.Sublist.slnil
   | cons y l ih =>
    cases hy:owner.getD y none with
    | none =>
     rw[List.filterMap_cons_none (by rw[hy];rfl)];exact ih.cons _
    | some v =>
     rw[List.filterMap_cons_some (b:=(y,v)) (by rw[hy];rfl)];exact ih.cons_cons y
  exact List.Pairwise.sublist hsub List.pairwise_lt_range
def Ris(xs:Array Nat):Prop:=xs.toList.Pairwise (· < ·)
theorem Zce{xs:Array Nat}(h:Ris xs){i j:Nat}(hij:i<j)(hj:j<xs.size):xs[i]'(Nat.lt_trans hij hj)<xs[j]:=by
 have:=List.pairwise_iff_getElem.mp h i j (by rw[Array.length_toList];lia) (by rw[Array.length_toList];exact hj) hij
 simpa using this
theorem Zd2{xs:Array Nat}(h:Ris xs)(j:Nat):∀(fuel lo hi:Nat),lo<=hi->hi<=xs.size->hi-lo<=fuel->(∀i (hi':i<xs.size),i<lo->xs[i]<j)->(∀i (hi':i<xs.size),hi<=i -> ¬ xs[i]<j) ->
  ∀r,SetTable.below.go xs j fuel lo hi=r->r<=xs.size/\(∀i (hi':i<xs.size),i<r->xs[i]<j)/\(∀i (hi':i<xs.size),r<=i -> ¬ xs[i]<j)
 | 0,lo,hi,h1,h2,h3,a,b,r,e=>by
  have e':lo=r:=e;subst e';have:lo=hi:=by lia
  subst this;exact⟨h2,a,b⟩
 | fuel+1,lo,hi,h1,h2,h3,a,b,r,e=>by
  unfold SetTable.below.go at e;by_cases hl:lo<hi
  ·rw[if_pos hl] at e;dsimp only at e;have hm:(lo+hi) / 2<xs.size:=by lia
   have hgd:xs.getD ((lo+hi) / 2) j=xs[(lo+hi) / 2]:=by simp[Array.getD,hm]
   rw[hgd] at e;by_cases hx:xs[(lo+hi) / 2]<j
   ·rw[if_pos hx] at e;refine Zd2 h j fuel ((lo+hi) / 2+1) hi (by lia) h2 (by lia) (fun i hi' hlt=>?_) b r e;by_cases e2:i=(lo+hi) / 2
    ·subst e2;exact hx
    ·exact Nat.lt_trans (Zce h (show i<(lo+hi) / 2 by lia) hm) hx
   ·rw[if_neg hx] at e;refine Zd2 h j fuel lo ((lo+hi) / 2) (by lia) (by lia) (by lia) a (fun i hi' hle=>?_) r e;by_cases e2:i=(lo+hi) / 2
    ·subst e2;exact hx
    ·have:=Zce h (show(lo+hi) / 2<i by lia) hi';lia
  ·rw[if_neg hl] at e;subst e;have:lo=hi:=by lia
   subst this;exact⟨h2,a,b⟩
theorem Zbe{xs:Array Nat}(h:Ris xs)(j:Nat):SetTable.below xs j<=xs.size/\(∀i (hi':i<xs.size),i<SetTable.below xs j->xs[i]<j)/\(∀i (hi':i<xs.size),SetTable.below xs j<=i -> ¬ xs[i]<j) :=
 Zd2 h j xs.size 0 xs.size (Nat.zero_le _) (Nat.le_refl _) (by lia) (fun _ _ z=>absurd z (Nat.not_lt_zero _)) (fun i hi' z=>by lia) _ rfl
theorem ZbX{α : Type}(xs:Array α)(p:Nat)(x : α):(SetTable.insertAt xs p x).toList=xs.toList.take p++x::xs.toList.drop p:=by
 unfold SetTable.insertAt;simp[Array.toList_extract,List.extract];rw[List.take_of_length_le];simp
theorem Zcd{xs:Array Nat}(h:Ris xs){j:Nat}(hj:j∉xs.toList):Ris (SetTable.insertAt xs (SetTable.below xs j) j):=by
 obtain⟨h1,h2,h3⟩:=Zbe h j;unfold Ris;rw[ZbX,List.pairwise_append];refine⟨List.Pairwise.sublist (List.take_sublist _ _) h,?_,?_⟩
 ·rw[List.pairwise_cons];refine⟨fun y hy=>?_,List.Pairwise.sublist (List.drop_sublist _ _) h⟩;obtain⟨i,hi,e⟩:=List.mem_iff_getElem.mp hy;rw[List.length_drop,Array.length_toList] at hi;rw[List.getElem_drop] at e;have:=h3 (SetTable.below xs j+i) (by lia) (by lia);have e2:y=xs[SetTable.below xs j+i]'(by lia):=by rw[<- e];simp
  have hne:y≠j:=fun z=>hj (z ▸ List.mem_of_mem_drop hy);lia
 ·intro a ha b hb;obtain⟨i,hi,e⟩:=List.mem_iff_getElem.mp ha;rw[List.length_take,Array.length_toList] at hi;rw[List.getElem_take] at e;have h4:=h2 i (by lia) (by lia);have e2:a=xs[i]'(by lia):=by rw[<- e];simp
  rcases List.mem_cons.mp hb with rfl|hb
  ·lia
  ·obtain⟨k,hk,ek⟩:=List.mem_iff_getElem.mp hb;rw[List.length_drop,Array.length_toList] at hk;rw[List.getElem_drop] at ek;have h5:=h3 (SetTable.below xs j+k) (by lia) (by lia);have e3:b=xs[SetTable.below xs j+k]'(by lia):=by rw[<- ek];simp
   lia
theorem ZgB{xs:Array Nat}(h:Ris xs){i:Nat}(hi:i<xs.size):SetTable.below xs (xs[i]+1)=i+1:=by
 obtain⟨h1,h2,h3⟩:=Zbe h (xs[i]+1);rcases Nat.lt_trichotomy (SetTable.below xs (xs[i]+1)) (i+1) with z|z|z
 ·exact absurd (Nat.lt_succ_self xs[i]) (h3 i hi (by lia))
 ·exact z
 ·exfalso;have h4:=h2 (i+1) (by lia) (by lia);have h5:=Zce h (show i<i+1 by lia) (show i+1<xs.size by lia);lia
theorem ZgF{xs:Array Nat}(h:Ris xs):SetTable.below xs 0=0:=by
 obtain⟨h1,h2,h3⟩:=Zbe h 0;rcases Nat.eq_zero_or_pos (SetTable.below xs 0) with z|z
 ·exact z
 ·exact absurd (h2 0 (by lia) z) (Nat.not_lt_zero _)
theorem Zbu{t:SetTable}(h:Ris t.place){j:Nat}(he:t.slot j=.empty):j∉t.place.toList:=fun hm=>by
 obtain⟨i,hi,e⟩:=List.mem_iff_getElem.mp hm;rw[Array.length_toList] at hi;have e2:t.place[i]=j:=by rw[<- e];simp
 obtain⟨h1,h2,h3⟩:=Zbe h j;have hb:SetTable.below t.place j=i:=by
  rcases Nat.lt_trichotomy (SetTable.below t.place j) i with z|z|z
  ·have h4:=Zce h z hi;have h5:=h3 (SetTable.below t.place j) (by lia) (Nat.le_refl _);lia
  ·exact z
  ·have h4:=h2 i hi z;lia
 unfold SetTable.slot at he;dsimp only at he;rw[hb,Array.getElem?_eq_getElem hi,e2] at he;simp at he
section
variable{prog:Program}{w:World}{K:Type}[DecidableEq K]{knd:KeyKind prog w K}{A:Around}{E:Value->Shared->Prop}{s:Shared}
theorem ZiT{n:Nat}{v:Value}(h:carriedByValue v=true):ofAClassStatement n v=pure false:=by
 cases v <;> first|(unfold ofAClassStatement;rfl)|(cases h)
theorem ZeT{ks:List K}{a:Addr}{Q:Bool->Shared->Prop}(hk:IsTupleKey knd s.heap ks a)(h:Q false s):wpAny (model prog w) A (ofAClassStatement 8 (.ref a)) Q E s:=by
 have hT:=hk.typeIs;obtain⟨o,items,n,ho,hc,hd,hi⟩:=hk;unfold ofAClassStatement;refine wpAny_bind (wpAny_typeOf hT ?_);dsimp only;rw[if_pos (by decide)];refine wpAny_bind (wpAny_pure ?_);rw[if_neg (by decide)];refine wpAny_bind (wpAny_seqItems ho hd ?_);dsimp only;rw[<- Array.forIn_toList];refine wpAny_bind (wpAny_forIn_list _ (fun rest r s'=>r.1=none/\s'=s/\∀v∈rest,carriedByValue v=true) _ ?_ ?_ _ _ ⟨rfl,rfl,hi.byValue⟩)
 ·rintro v rest r s' ⟨hr,rfl,hall⟩;rw[ZiT (hall v List.mem_cons_self)];refine wpAny_bind (wpAny_pure ?_);rw[if_neg (by decide)];exact wpAny_pure ⟨rfl,rfl,fun u hu'=>hall u (List.mem_cons_of_mem _ hu')⟩
 ·rintro⟨r1,r2⟩ s' ⟨hr,rfl,_⟩;obtain rfl:r1=none:=hr;exact wpAny_pure h
theorem Zi2{n:Nat}{v:Value}(h:carriedByValue v=true):∃b,hashByValue n v=pure b:=by
 cases v <;> first|exact⟨_,by unfold hashByValue;rfl⟩|(cases h)
theorem ZhQ{ks:List K}{a:Addr}{Q:Bool->Shared->Prop}(hk:IsTupleKey knd s.heap ks a)(h:∀b,Q b s):wpAny (model prog w) A (hashByValue 8 (.ref a)) Q E s:=by
 have hT:=hk.typeIs;obtain⟨o,items,n,ho,hc,hd,hi⟩:=hk;unfold hashByValue;refine wpAny_bind (wpAny_specialOf hT F.slot_tuple_hash.lookup ?_);dsimp only;refine wpAny_bind (wpAny_seqItems ho hd ?_);dsimp only[Option.getD_some];rw[<- Array.forIn_toList];refine wpAny_bind (wpAny_forIn_list _ (fun rest r s'=>r.1=none/\s'=s/\∀v∈rest,carriedByValue v=true) _ ?_ ?_ _ _ ⟨rfl,rfl,hi.byValue⟩)
 ·rintro v rest r s' ⟨hr,rfl,hall⟩;obtain⟨b,hb⟩:=Zi2 (n:=7) (hall v List.mem_cons_self);rw[hb];refine wpAny_bind (wpAny_pure ?_);cases b with
  | true =>
   rw[if_neg (by decide)];exact wpAny_pure ⟨rfl,rfl,fun u hu'=>hall u (List.mem_cons_of_mem _ hu')⟩
  | false =>
   rw[if_pos (by decide)];exact wpAny_pure (wpAny_pure (h _))
 ·rintro⟨r1,r2⟩ s' ⟨hr,rfl,_⟩;obtain rfl:r1=none:=hr;exact wpAny_pure (h _)
theorem Zkj{ks:List K}{a:Addr}(hk:IsTupleKey knd s.heap ks a):∀(stored:List Value){Q:Bool->Shared->Prop},(∀v∈stored,∃ks b,v=.ref b/\IsTupleKey knd s.heap ks b)->Q false s->wpAny (model prog w) A (searchCouldBeSeen (.ref a) stored) Q E s:=by
 intro stored Q hs h;unfold searchCouldBeSeen;refine wpAny_bind (wpAny_forIn_list _ (fun rest r s'=>r.1=none/\s'=s/\∀v∈rest,∃ks b,v=Value.ref b/\IsTupleKey knd s.heap ks b) _ ?_ ?_ _ _ ⟨rfl,rfl,hs⟩)
 ·rintro v rest r s' ⟨hr,rfl,hall⟩;obtain⟨ks',b,rfl,hb⟩:=hall v List.mem_cons_self;have hrest:∀v∈rest,∃ks b,v=Value.ref b/\IsTupleKey knd s'.heap ks b:=fun v hv=>hall v (List.mem_cons_of_mem _ hv);dsimp only
  split
  ·exact wpAny_pure ⟨rfl,rfl,hrest⟩
  ·refine wpAny_bind (wpAny_eqIsQuiet_tuple hk ?_);rw[if_neg (by decide)];refine wpAny_bind (wpAny_eqIsQuiet_tuple hb ?_);rw[if_neg (by decide)];refine wpAny_bind (ZeT hk ?_);rw[if_neg (by decide)];refine wpAny_bind (ZeT hb ?_);rw[if_neg (by decide)];exact wpAny_pure ⟨rfl,rfl,hrest⟩
 ·rintro⟨r1,r2⟩ s' ⟨hr,rfl,_⟩;obtain rfl:r1=none:=hr;exact wpAny_pure h
def EK(knd:KeyKind prog w K):Bool->Heap->Int×Value->Prop
 | true,_,e=>∃i t,e.2=Value.int i t/\e.1=(intKind prog w).hash i
 | false,h,e=>∃ks b,e.2=.ref b/\IsTupleKey knd h ks b
def Zkp(knd:KeyKind prog w K)(b:Bool)(h:Heap)(es:Array (Int×Value)):Prop := ∀e∈es.toList,EK knd b h e
structure Tab(es:Array (Int×Value))(t:SetTable):Prop where
 size:t.place.size=es.size
 none:t.dummies=#[]
 good:Good t.mask
 room:t.fill*5<t.mask*3
 ris:Ris t.place
theorem Tab.fill_eq{es:Array (Int×Value)}{t:SetTable}(h:Tab es t):t.fill=es.size:=by
 unfold SetTable.fill;rw[h.size,h.none];rfl
theorem Tab.fits{es:Array (Int×Value)}{t:SetTable}(h:Tab es t):t.fits es.size=true:=by
 have:=h.room;unfold SetTable.fits;rw[h.size];simp;lia
theorem ZiA{m:Nat}(h:Good m):m % 2=1:=by
 rcases h with h|h|h|h|h|h|h|h|h|h <;> subst h <;> rfl
theorem ZdE(t:SetTable):∀(n:Nat)(p:SetTable.Probe),p.dummy=none->(Za6 t n p).dummy=none
 | 0,_,h=>h
 | n+1,p,h=>ZdE t n (t.advance p) (by
  unfold SetTable.advance
  split
  ·exact h
  ·exact h)
theorem ZhD{t:SetTable}{j i:Nat}(h:t.slot j=.live i):i<t.place.size:=by
 unfold SetTable.slot at h;dsimp only at h
 split at h
 ·rename_i h2
  cases h;have h3:=eq_of_beq h2;exact(Array.getElem?_eq_some_iff.mp h3).1
 ·split at h <;> cases h
end
def Zjf(n:Nat):Bool:=(SetTable.sizeAbove n-1 == 7 || SetTable.sizeAbove n-1 == 15 || SetTable.sizeAbove n-1 == 31 || SetTable.sizeAbove n-1 == 63 || SetTable.sizeAbove n-1 == 127 || SetTable.sizeAbove n-1 == 255 || SetTable.sizeAbove n-1 == 511 || SetTable.sizeAbove n-1 == 1023 || SetTable.sizeAbove n-1 == 2047 || SetTable.sizeAbove n-1 == 4095)&&decide (n<SetTable.sizeAbove n)&&decide (SetTable.sizeAbove n<=4096)
theorem ZhU:(List.range 4096).all Zjf=true:=by decide +kernel
theorem above{n:Nat}(h:n<4096):Good (SetTable.sizeAbove n-1)/\n<SetTable.sizeAbove n/\SetTable.sizeAbove n<=4096:=by
 have:=List.all_eq_true.mp ZhU n (List.mem_range.mpr h);unfold Zjf at this;simp only[Bool.and_eq_true,Bool.or_eq_true,beq_iff_eq,decide_eq_true_eq] at this;obtain⟨⟨h1,h2⟩,h3⟩:=this;refine⟨?_,h2,h3⟩;unfold Good
 simpa only[or_assoc] using h1
section
variable{prog:Program}{w:World}{K:Type}[DecidableEq K]{knd:KeyKind prog w K}{A:Around}{E:Value->Shared->Prop}{s:Shared}
theorem stored{h:Heap}{S:Addr}{o:Obj}{es:Array (Int×Value)}{ep:Nat}{t:SetTable}(ho:h.get? S=some o)(hd:o.data=.set es ep t)(es':Array (Int×Value))(t':SetTable) :
  (h.update S (Obj.putSet es' t')).get? S=some { o with data:=.set es' (ep+1) t' }:=by
 have:=Heap.get?_update_self (Obj.putSet es' t') ho (by rw[putSet_of es' t' hd];rfl);rw[putSet_of es' t' hd] at this;exact this
theorem ZjW{h h':Heap}{S a:Addr}{o:Obj}{es:Array (Int×Value)}{ep:Nat}{t:SetTable}{ks:List K}(ho:h.get? S=some o)(hd:o.data=.set es ep t)(sb:Heap.SameBut S h h')(hk:IsTupleKey knd h ks a):IsTupleKey knd h' ks a:=by
 obtain⟨o2,items,n,h1,h2,h3,h4⟩:=hk;have hne:a≠S:=fun z=>by
  rw[z,ho] at h1;cases h1;rw[hd] at h3;cases h3
 exact⟨o2,items,n,(sb.2 a hne).trans h1,h2,h3,h4⟩
theorem Zdj{es:Array (Int×Value)}{t:SetTable}(hT:Tab es t)(h:Int):∃n,n<10*SetTable.turns t.mask/\t.slot (Za6 t n (t.probeStart h)).j=.empty:=by
 obtain⟨a,b,c⟩:=Zb0 t h;have hr:=hT.room;obtain⟨j,hj,he⟩:=ZgC hT.none (by lia);obtain⟨n,hn,e⟩:=meets hT.good a b hj;exact⟨n,hn,by rw[e];exact he⟩
theorem ZfK{m:Nat}(h:Good m):10*SetTable.turns m<100000:=by
 unfold SetTable.turns;rcases h with h|h|h|h|h|h|h|h|h|h <;> subst h <;> decide
theorem Zh9{t:SetTable}(hd:t.dummies=#[])(ha:Nat->Int)(h:Int)(hne:∀i,(ha i == h)=false):∀(n fuel:Nat)(p:SetTable.Probe),p.dummy=none->n<fuel->t.slot (Za6 t n p).j=.empty ->
  ∃j,SetTable.probe.go t ha h fuel p=some (.empty j none)/\t.slot j=.empty
 | n,0,_,_,hn,_=>absurd hn (Nat.not_lt_zero _)
 | n,fuel+1,p,hp,hn,he=>by
  unfold SetTable.probe.go;cases hs:t.slot p.j with
  | empty=>exact⟨p.j,by rw[hp],hs⟩
  | dummy =>
   exfalso;unfold SetTable.slot at hs;dsimp only at hs
   split at hs
   ·cases hs
   ·rw[hd] at hs;exact SetTable.Slot.noConfusion hs
  | live i =>
   dsimp only;cases n with
   | zero =>
    rw[show(Za6 t 0 p).j=p.j from rfl,hs] at he;cases he
   | succ n =>
    rw[if_neg (by rw[hne i];decide)];have hdm:(t.advance p).dummy=none:=by
     unfold SetTable.advance
     split
     ·exact hp
     ·exact hp
    exact Zh9 hd ha h hne n fuel (t.advance p) hdm (by lia) he
theorem ZhT{es:Array (Int×Value)}{t:SetTable}(hT:Tab es t)(h:Int):∃j,t.freeSlot h=some (j,false)/\t.slot j=.empty:=by
 obtain⟨n,hn,he⟩:=Zdj hT h;obtain⟨j,e,hj⟩:=Zh9 hT.none (fun _=>h+1) h (fun _=>by simp;lia) n (10*SetTable.turns t.mask) (t.probeStart h) (Zb0 t h).2.2 hn he;refine⟨j,?_,hj⟩;unfold SetTable.freeSlot SetTable.probe;rw[e];rfl
theorem Zhg{es:Array (Int×Value)}{t:SetTable}(hT:Tab es t)(h:Int)(x:Value):∃j,t.slot j=.empty/\layNew t es h x=(SetTable.insertAt es (SetTable.below t.place j) (h,x),{ t with place:=SetTable.insertAt t.place (SetTable.below t.place j) j },false,false):=by
 obtain⟨j,e,hj⟩:=ZhT hT h;refine⟨j,hj,?_⟩;have hhas:SetTable.has t.dummies j=false:=by rw[hT.none];rfl
 have hput:t.put j=({ t with place:=SetTable.insertAt t.place (SetTable.below t.place j) j },SetTable.below t.place j):=by
  unfold SetTable.put;rw[hhas];rfl
 have hs1:(SetTable.insertAt es (SetTable.below t.place j) (h,x)).size=es.size+1:=by
  rw[<- Array.length_toList,(SetTable.insertAt_perm es (SetTable.below t.place j) (h,x)).length_eq,Array.length_toList,Array.size_push]
 have hp1:(SetTable.insertAt t.place (SetTable.below t.place j) j).size=es.size+1:=by
  rw[<- Array.length_toList,(SetTable.insertAt_perm t.place (SetTable.below t.place j) j).length_eq,Array.length_toList,Array.size_push,hT.size]
 have hr:=hT.room;have hfe:=hT.fill_eq;have hfits:({ t with place:=SetTable.insertAt t.place (SetTable.below t.place j) j }:SetTable).fits (SetTable.insertAt es (SetTable.below t.place j) (h,x)).size=true:=by
  unfold SetTable.fits SetTable.fill;rw[hs1];dsimp only;rw[hp1,hT.none];simp;lia
 unfold layNew;rw[e];dsimp only;rw[hput];dsimp only;unfold SetTable.orStandIn;rw[hfits];rfl
theorem Ze9{es:Array (Int×Value)}{t:SetTable}(h1:1<=es.size)(hn:es.size<=1000):∃es' t' g,relayAll t es (SetTable.grown es.size)=(es',t',g)/\es'.toList.Perm es.toList/\Tab es' t'/\t'.led=t.led:=by
 have hgr:SetTable.grown es.size=es.size*4:=by unfold SetTable.grown;rw[if_neg (by lia)]
 rw[hgr];obtain⟨g1,g2,g3⟩:=above (n:=es.size*4) (by lia);obtain⟨t',order,e,m1,m2,m3,m4,m5,m6,m7,m8⟩:=Zhr g1 t.finger (t.movedTo (SetTable.sizeAbove (es.size*4)-1)) t.led t.plain (es.map (·.1)) (by rw[Array.size_map];lia);rw[Array.size_map] at m3 m4;have e2:t.relaid (es.map (·.1)) (es.size*4)=some (t',order):=e;have hperm:(order.filterMap (es[·]?)).toList.Perm es.toList:=by
  rw[Array.toList_filterMap];exact(m4.filterMap _).trans (List.Perm.of_eq (filterMap_getElem?_range es))
 have hsz:(order.filterMap (es[·]?)).size=es.size:=by
  rw[<- Array.length_toList,hperm.length_eq,Array.length_toList]
 have hfill:t'.fill=es.size:=by
  unfold SetTable.fill;rw[m2,m3];rfl
 have hfits:t'.fits (order.filterMap (es[·]?)).size=true:=by
  unfold SetTable.fits;rw[hsz,m3,hfill,m1];simp;lia
 have hcov:coversAll order es.size=true:=by
  unfold coversAll;exact List.isPerm_iff.mpr m4
 refine⟨order.filterMap (es[·]?),t',false,?_,hperm,⟨by rw[m3,hsz],m2,by rw[m1];exact g1,?_,m8⟩,m5⟩
 ·unfold relayAll;rw[e2];dsimp only;rw[hcov,hfits];rfl
 ·rw[hfill,m1];lia
theorem ZdL{h:Heap}{es:Array (Int×Value)}(hE:Zkp knd true h es):ElemsOf (intKind prog w) es.toList:=fun e he=>by
 obtain⟨i,t,e1,e2⟩:=hE e he;refine⟨⟨i,?_,e2⟩,?_⟩
 ·rw[e1];exact intKind_is _ _ _ _
 ·rw[e1];rfl
end
end Sts
namespace Sts
open PySem PyProof.Rows
section
variable{prog:Program}{w:World}{K:Type}[DecidableEq K]{knd:KeyKind prog w K}{A:Around}{E:Value->Shared->Prop}{s:Shared}
abbrev Zdq(w:World):Bool := !w.params.followText "set-order"
abbrev Z2(w:World):Obj:={ cls:=.type "set",dict:=none,data:=.set #[] 0 (.fresh 0 0 (Zdq w)) }
theorem ZiC(a:Value){Q₁ : Value->Shared->Prop}(h:Q₁ (.ref s.heap.objs.size) { s with heap:=s.heap.push (Z2 w) }) :
  codeAny (model prog w) A (.call (.builtin "set.__new__") ⟨[.type "set",a],[]⟩) (wants Q₁ E) s:=by
 refine codeAny_of_tree ?_;change wpAny _ A.in1 (do checkBuiltinCall "set.__new__" ⟨[.type "set",a],[]⟩;again (.builtin "set.__new__" ⟨[.type "set",a],[]⟩)) _ _ s;refine wpAny_bind (wpAny_of_eq (PySem.F.newCall_set_1 a) (wpAny_pure ⟨plainId_quiet PySem.F.plain_set_new _,codeAny_builtin PySem.F.entry_set_new ?_⟩));rw[Around.under_plainId PySem.F.plain_set_new _];unfold Builtin.«set.__new__» Builtin.Frozenset.newClass;have isSelf:=sub_set_self;obtain⟨hp,g,d,tk,os⟩:=s;dsimp only
 wp_walk
 refine wpAny_askSetting (wpAny_pure ?_);dsimp only;simp only[newObj];exact wpAny_bind (wpAny_alloc (wpAny_pure (wpAny_pure h)))
end
theorem Zad:Slot "set_iterator" "__next__" "set_iterator.__next__" :=
 .of (owner := "set_iterator") (n := "__next__") (by rw[typeLookup_type,builtinLookup_eq_fast];kernel_rfl) (by decide +kernel) (by decide +kernel) (by decide +kernel) (by first|exact .inl (by decide +kernel)|exact .inr (by decide +kernel)) (by rw[isSubtype_type];kernel_rfl)
theorem ZbY:entryFor table "set_iterator.__next__" = some Builtin.«set_iterator.__next__» := entryFor_of_tree (by kernel_rfl)
theorem ZfY:Manifest.owners.lookup (String.ofList ['r','o','t','a','r','e','t','i','_','t','e','s'].reverse)=some Manifest.sig_set_iterator:=by kernel_rfl
theorem Zcp(a:Value):argsOk "set_iterator.__next__" ⟨[a],[]⟩:=by
 unfold argsOk;rw[signature?_of (id := "set_iterator.__next__") (n:=['_','_','t','x','e','n','_','_']) (o:=['r','o','t','a','r','e','t','i','_','t','e','s']) (by kernel_rfl) ZfY];kernel_rfl
theorem Zcn:Slot "set_iterator" "__iter__" "set_iterator.__iter__" :=
 .of (owner := "set_iterator") (n := "__iter__") (by rw[typeLookup_type,builtinLookup_eq_fast];kernel_rfl) (by decide +kernel) (by decide +kernel) (by decide +kernel) (by first|exact .inl (by decide +kernel)|exact .inr (by decide +kernel)) (by rw[isSubtype_type];kernel_rfl)
theorem ZdT:entryFor table "set_iterator.__iter__" = some Builtin.«dict_keyiterator.__iter__» := entryFor_alias (id' := "dict_keyiterator.__iter__") (by kernel_rfl) rfl (by decide +kernel) (by kernel_rfl)
theorem Zen(a:Value):argsOk "set_iterator.__iter__" ⟨[a],[]⟩:=by
 unfold argsOk;rw[signature?_of (id := "set_iterator.__iter__") (n:=['_','_','r','e','t','i','_','_']) (o:=['r','o','t','a','r','e','t','i','_','t','e','s']) (by kernel_rfl) ZfY];kernel_rfl
theorem ZeX:entryFor table "set.__iter__" = some Builtin.«frozenset.__iter__» := entryFor_alias (id' := "frozenset.__iter__") (by kernel_rfl) rfl (by decide +kernel) (by kernel_rfl)
theorem Zcm{α : Type}:∀{l:List α}{i:Nat}(hi:i<l.length),(l[i]::l.eraseIdx i).Perm l
 | x::l,0,_=>List.Perm.refl _
 | x::l,i+1,hi=>by
  have hi':i<l.length:=by simpa using hi
  show(l[i]::x::l.eraseIdx i).Perm (x::l);exact(List.Perm.swap ..).trans ((Zcm hi').cons x)
section
variable{prog:Program}{w:World}{A:Around}{E:Value->Shared->Prop}{s:Shared}
theorem wp_choose{src:Source}{n:Nat}{Q:Nat->Shared->Prop}(hn:n≠0)(h:∀i d,i<n->Q i { s with drawn:=d }):wpAny (model prog w) A (choose src n) Q E s:=fun _ _ _=>⟨hn,h _ _ (Nat.mod_lt _ (Nat.pos_of_ne_zero hn))⟩
theorem Zg4{α : Type}:∀(n:Nat)(xs:List α)(s:Shared){Q:List α -> Shared->Prop},xs.length=n->(∀ys d,ys.Perm xs->Q ys { s with drawn:=d })->wpAny (model prog w) A (drawOrder n xs) Q E s
 | 0,xs,s,Q,hl,h=>by
  obtain rfl:=List.eq_nil_of_length_eq_zero hl;unfold drawOrder;exact wpAny_pure (h [] s.drawn (List.Perm.refl _))
 | n+1,[],s,Q,hl,h=>by simp at hl
 | n+1,x::xs,s,Q,hl,h=>by
  unfold drawOrder;refine wpAny_bind (wp_choose (by simp) fun i d hi=>?_);rw[List.getElem?_eq_getElem hi];dsimp only;refine wpAny_bind (Zg4 n ((x::xs).eraseIdx i) { s with drawn:=d } (by rw[List.length_eraseIdx_of_lt hi,hl];rfl) fun ys d' hp=>wpAny_pure (h _ d' ?_));refine(hp.cons _).trans ?_;exact(Zcm hi)
theorem Zeu{α : Type}(next:Nat->Nat):∀(n k:Nat)(left:List α)(out:Array α),left.length=n->(pickOrder.go next n k left out).toList.Perm (out.toList++left)
 | 0,k,left,out,hl=>by
  obtain rfl:=List.eq_nil_of_length_eq_zero hl;unfold pickOrder.go;rw[List.append_nil]
 | n+1,k,left,out,hl=>by
  unfold pickOrder.go;have hi:next k % left.length<left.length:=Nat.mod_lt _ (by lia)
  rw[List.getElem?_eq_getElem hi];dsimp only;refine(Zeu next n (k+1) _ _ (by rw[List.length_eraseIdx_of_lt hi,hl];rfl)).trans ?_
  rw[Array.toList_push,List.append_assoc];exact List.Perm.append_left _ (Zcm hi)
structure SIt(w:World)(h:Heap)(I S T:Addr)(es:Array (Int×Value))(ep:Nat)(t:SetTable)(ys:List Value)(i:Nat):Prop where
  set:∃o,h.get? S=some o/\o.data=.set es ep t
  tab:t.fits es.size=true
  at_:∃first o,h.get? I=some o/\o.cls=.type "set_iterator" /\ o.data=.fields #[first,.int i 0,.ref S,.int es.size 0,.int ep 0] /\
    ((∃sl:Nat,first=Value.int sl 0/\w.params.followText "set-order" = true/\ys=(pickOrder (w.params.setOrder S ep) es).toList.map (·.2)) \/
     (∃sl:Nat,first=Value.int sl 0/\w.params.followText "set-order" = false/\(!t.plain&&decide (es.size > 1))=false/\t.led=true/\SetTable.below t.place sl=i/\Ris t.place/\ys=es.toList.map (·.2)) \/
     (∃places n oT,first=Value.ref T/\h.get? T=some oT/\oT.data=.seq places n/\places.toList.length=es.size/\∀(k:Nat)(v:Value),places[k]?= some v->∃(j:Nat)(tk:Tok),v=Value.int (j:Nat) tk/\(es[j]?).map (·.2)=ys[k]? /\ j<es.size))
theorem SIt.ty{h:Heap}{I S T:Addr}{es:Array (Int×Value)}{ep:Nat}{t:SetTable}{ys:List Value}{i:Nat}{s:Shared}(x:SIt w s.heap I S T es ep t ys i):s.TypeIs (.ref I) "set_iterator" := let ⟨_,o,ho,hc,_⟩:=x.at_;⟨o,ho,hc⟩
theorem ZfB{S:Addr}{o:Obj}{es:Array (Int×Value)}{ep:Nat}{t:SetTable}{Q:Array (Int×Value)->Shared->Prop}(ho:s.heap.get? S=some o)(hd:o.data=.set es ep t)(hf:t.fits es.size=true)(h:Q es s):wpAny (model prog w) A (setEntries S) Q E s:=by
 unfold setEntries;exact wpAny_bind (wpAny_setState_of ho hd hf (wpAny_pure h))
theorem byText{Q:Bool->Shared->Prop}(h:Q (w.params.followText "set-order") s):wpAny (model prog w) A setsByText Q E s:=by
 unfold setsByText;exact wpAny_bind (wpAny_askSetting (wpAny_pure h))
theorem fld{I:Addr}{o:Obj}{fs:Array Value}{k:Nat}{v:Value}{Q:Unit->Shared->Prop}(ho:s.heap.get? I=some o)(hd:o.data=.fields fs)(hk:k<fs.size)(hc:o.cls=.type "set_iterator")
  (h:∀h' o',h'.get? I=some o'->o'.cls=.type "set_iterator" -> o'.data=.fields (fs.setIfInBounds k v)->Heap.SameBut I s.heap h'->Q () { s with heap:=h' }):wpAny (model prog w) A (setField (.ref I) k v) Q E s :=
 wpAny_setField ho hd hk (h _ _ (Heap.get?_update_self _ ho (Obj.isFreed_of_fields (Obj.data_mapFields hd _))) ((Obj.cls_mapFields ..).trans hc) (Obj.data_mapFields hd _) (Heap.SameBut.update ..))
theorem ZeQ{S:Addr}{o:Obj}{es:Array (Int×Value)}{ep:Nat}{t:SetTable}{sl i:Nat}{Q:Option (Value×Nat)->Shared->Prop}(hT:w.params.followText "set-order" = true) (ho:s.heap.get? S=some o) (hd:o.data=.set es ep t) (hf:t.fits es.size=true)
  (h:Q (((pickOrder (w.params.setOrder S ep) es)[i]?).map fun e=>(e.2,sl)) s):wpAny (model prog w) A (setNext S sl i ep) Q E s:=by
 unfold setNext;refine wpAny_bind (wpAny_setState_of ho hd hf ?_);dsimp only;refine wpAny_bind (byText ?_);rw[hT,if_pos rfl,if_neg (by simp)];unfold setWalk;refine wpAny_bind (wpAny_bind (wpAny_setState_of ho hd hf ?_));dsimp only;refine wpAny_bind (byText ?_);rw[hT,if_pos rfl];exact wpAny_bind (wpAny_askSetting (wpAny_pure (wpAny_pure h)))
theorem ZeW{S:Addr}{o:Obj}{es:Array (Int×Value)}{ep:Nat}{t:SetTable}{sl i:Nat}{Q:Option (Value×Nat)->Shared->Prop}(hT:w.params.followText "set-order" = false) (hp:(!t.plain&&decide (es.size > 1))=false) (hl:t.led=true) (ho:s.heap.get? S=some o) (hd:o.data=.set es ep t) (hf:t.fits es.size=true)
  (h:Q (match es[SetTable.below t.place sl]?,t.place[SetTable.below t.place sl]? with|some (_,x),some j=>some (x,j+1)|_,_=>none) s):wpAny (model prog w) A (setNext S sl i ep) Q E s:=by
 unfold setNext;refine wpAny_bind (wpAny_setState_of ho hd hf ?_);dsimp only;refine wpAny_bind (byText ?_);rw[hT,if_neg (by decide)];change wpAny _ _ (if(!t.plain&&decide (es.size > 1))=true then _ else _) _ _ _
 rw[hp,if_neg (by decide)];refine wpAny_bind ?_;change wpAny _ _ (if(!t.led && !es.isEmpty)=true then _ else _) _ _ _
 rw[hl,if_neg (by simp)];exact wpAny_pure (wpAny_pure h)
set_option maxHeartbeats 1000000 in
theorem Zj0{I S T:Addr}{es:Array (Int×Value)}{ep:Nat}{t:SetTable}{ys:List Value}{i:Nat}{Q:Option Value->Shared->Prop}(x:SIt w s.heap I S T es ep t ys i)(hy:ys.length=es.size)(hi:i<ys.length)
  (q:∀h',SIt w h' I S T es ep t ys (i+1)->Heap.SameBut I s.heap h'->Q (some ys[i]) { s with heap:=h' }):wpAny (model prog w) A (pyNext (.ref I)) Q E s:=by
 have hT:=x.ty (h:=s.heap);obtain⟨⟨oS,hoS,hdS⟩,hf,first,o,ho,hc,hd,hmode⟩:=id x
 have hIS:S≠I:=fun z=>by
  rw[z,ho] at hoS;cases hoS;rw[hd] at hdS;cases hdS
 unfold pyNext;refine wpAny_bind (wpAny_attempt (wpAny_callSpecial?_slot (name:=Str.ofString "__next__") hT Zad (wpAny_call_entry Zad hT ZbY ?_ (Zcp _))));unfold Builtin.«set_iterator.__next__»;refine wpAny_bind (wpAny_pure (wpAny_bind (wpAny_fieldsOf ho hd ?_)));dsimp only;refine wpAny_bind (ZfB hoS hdS hf ?_);rw[if_neg (by simp)];have key:∀nx:Nat,(∀h',(∃o',h'.get? I=some o'/\o'.cls=.type "set_iterator" /\ o'.data=.fields #[Value.int nx 0,.int (i+1:Nat) 0,.ref S,.int es.size 0,.int ep 0])->Heap.SameBut I s.heap h'->SIt w h' I S T es ep t ys (i+1)) ->
   wpAny (model prog w) A.in1 (do
     setField (Value.ref I) 0 (rawInt nx)
     setField (Value.ref I) 1 (rawInt ((i:Int)+1))
     ret ys[i]) (fun fin s'=>∃v,fin=Fin.done (Flow.ret v)/\wpAny (model prog w) A (pure (some v)) Q E s')
    (fun e s'=>wpAny (model prog w) A (do
     let __do_lift <- isInstance e (Value.type "StopIteration")
     if __do_lift=true then pure none else throw e) Q E s') s:=fun nx hS=>by
  refine wpAny_bind (fld ho hd (by simp) hc fun h1 o1 ho1 hc1 hd1 sb1=>wpAny_bind (fld (s:={ s with heap:=h1 }) ho1 hd1 (by simp) hc1 fun h2 o2 ho2 hc2 hd2 sb2=>wpAny_pure ⟨_,rfl,wpAny_pure (q h2 (hS h2 ⟨o2,ho2,hc2,?_⟩ (sb1.trans sb2)) (sb1.trans sb2))⟩));rw[hd2];rfl
 have hSk:∀h',Heap.SameBut I s.heap h'->∃o,h'.get? S=some o/\o.data=.set es ep t:=fun h' sb=>⟨oS,(sb.2 S hIS).trans hoS,hdS⟩;have hplace:t.place.size=es.size:=by
  unfold SetTable.fits at hf;rw[Bool.and_eq_true] at hf;exact eq_of_beq hf.1
 rcases hmode with⟨sl,rfl,hT1,e⟩|⟨sl,rfl,hT1,hpl,hld,hbl,hr,e⟩|⟨places,n,oT,rfl,hoT,hdT,hpn,hpv⟩
 ·dsimp only;rw[Int.toNat_natCast,Int.toNat_natCast,Int.toNat_natCast];refine wpAny_bind (ZeQ hT1 hoS hdS hf ?_);have hpi:((pickOrder (w.params.setOrder S ep) es)[i]?).map (fun e=>(e.2,sl))=some (ys[i],sl):=by
   have h1:((pickOrder (w.params.setOrder S ep) es).toList.map (·.2))[i]?= some ys[i]:=by rw[<- e];exact List.getElem?_eq_getElem hi
   rw[List.getElem?_map,Array.getElem?_toList] at h1;obtain⟨x,hx,hx2⟩:=Option.map_eq_some_iff.mp h1;rw[hx];show some (x.2,sl)=_;rw[hx2]
  rw[hpi];dsimp only;exact key sl fun h' ⟨o',a1,a2,a3⟩ sb=>⟨hSk h' sb,hf,_,o',a1,a2,a3,.inl ⟨sl,rfl,hT1,e⟩⟩
 ·dsimp only;rw[Int.toNat_natCast,Int.toNat_natCast,Int.toNat_natCast];refine wpAny_bind (ZeW hT1 hpl hld hoS hdS hf ?_);have hie:i<es.size:=by lia
  rw[hbl,Array.getElem?_eq_getElem hie,Array.getElem?_eq_getElem (show i<t.place.size by lia)];have hyi:ys[i]=es[i].2:=by
   have h1:ys[i]?= some es[i].2:=by rw[e,List.getElem?_map,Array.getElem?_toList,Array.getElem?_eq_getElem hie];rfl
   rw[List.getElem?_eq_getElem hi] at h1;exact Option.some.inj h1
  dsimp only;rw[<- hyi];exact key (t.place[i]+1) fun h' ⟨o',a1,a2,a3⟩ sb=>⟨hSk h' sb,hf,_,o',a1,a2,a3,.inr (.inl ⟨_,rfl,hT1,hpl,hld,ZgB hr _,hr,e⟩)⟩
 ·dsimp only;refine wpAny_bind (wpAny_seqItems hoT hdT ?_);dsimp only;rw[Int.toNat_natCast,Int.toNat_natCast];have hpi:i<places.size:=by rw[<- Array.length_toList];lia
  obtain⟨j,tk,hv,hj,hjs⟩:=hpv i _ (Array.getElem?_eq_getElem hpi);rw[Array.getElem?_eq_getElem hpi,hv];dsimp only;rw[Int.toNat_natCast];rw[List.getElem?_eq_getElem hi,Array.getElem?_eq_getElem hjs] at hj;have hyi:es[j].2=ys[i]:=Option.some.inj hj;unfold setNextDrawn;refine wpAny_bind (wpAny_bind (wpAny_setState_of hoS hdS hf ?_));dsimp only;rw[if_neg (by simp),Array.getElem?_eq_getElem hjs];refine wpAny_pure ?_;rw[show(es.toList.get ⟨j,hjs⟩).snd=ys[i] from hyi];have hTI:T≠I:=fun z=>by
   rw[z,ho] at hoT;cases hoT;rw[hd] at hdT;cases hdT
  refine wpAny_bind (fld ho hd (by simp) hc fun h2 o2 ho2 hc2 hd2 sb2=>wpAny_pure ⟨_,rfl,wpAny_pure (q h2 ⟨hSk h2 sb2,hf,_,o2,ho2,hc2,?_,.inr (.inr ⟨places,n,oT,rfl,(sb2.2 T hTI).trans hoT,hdT,hpn,hpv⟩)⟩ sb2)⟩);rw[hd2];rfl
theorem Zfm{I:Addr}{o:Obj}{fs:Array Value}{Q:Option Value->Shared->Prop}(hh:A.handled=none)(ho:s.heap.get? I=some o)(hd:o.data=.fields fs)(hk:2<fs.size)(hc:o.cls=.type "set_iterator") (q:∀h',Heap.ExtBut I s.heap h'->Q none { s with heap:=h' }) :
  wpAny (model prog w) A.in1 (do
    setField (Value.ref I) 2 Value.none
    let __do_lift <- newExc (Value.type "StopIteration") []
    raiseNew __do_lift) (fun fin s'=>∃v,fin=Fin.done (Flow.ret v)/\wpAny (model prog w) A (pure (some v)) Q E s')
   (fun e s'=>wpAny (model prog w) A (do
    let __do_lift <- isInstance e (Value.type "StopIteration")
    if __do_lift=true then pure none else throw e) Q E s') s:=by
 refine wpAny_bind (fld ho hd hk hc fun h1 o1 ho1 hc1 hd1 sb1=>?_);refine wpAny_bind ?_;simp only[newExc,newTuple];refine wpAny_bind (wpAny_newObj_type (wpAny_bind (m:=firstArgMember _ _) (wpAny_of_eq (a:=Value.none) (by first|rfl|(simp only[firstArgMember];rfl)) (wpAny_newObj_type ?_ (by size_fits)))) (by size_fits))
 simp only[raiseNew];refine wpAny_bind (wpAny_handled ?_);rw[show A.in1.handled=none from hh];refine wpAny_bind (wpAny_pure (wpAny_throw ?_));refine wpAny_bind (wpAny_isInstance (T := "StopIteration") (b:=true) (v:=.ref _) (by exact⟨_,Heap.get?_push_size _ rfl,rfl⟩) isSubtype_stop ?_);exact wpAny_pure (q _ ((sb1.extBut.push _).push _))
set_option maxHeartbeats 1000000 in
theorem ZkE{I S T:Addr}{es:Array (Int×Value)}{ep:Nat}{t:SetTable}{ys:List Value}{Q:Option Value->Shared->Prop}(hh:A.handled=none)(x:SIt w s.heap I S T es ep t ys ys.length)(hy:ys.length=es.size)
  (q:∀h',Heap.ExtBut I s.heap h'->Q none { s with heap:=h' }):wpAny (model prog w) A (pyNext (.ref I)) Q E s:=by
 have hT:=x.ty (h:=s.heap);obtain⟨⟨oS,hoS,hdS⟩,hf,first,o,ho,hc,hd,hmode⟩:=id x
 unfold pyNext;refine wpAny_bind (wpAny_attempt (wpAny_callSpecial?_slot (name:=Str.ofString "__next__") hT Zad (wpAny_call_entry Zad hT ZbY ?_ (Zcp _))));unfold Builtin.«set_iterator.__next__»;refine wpAny_bind (wpAny_pure (wpAny_bind (wpAny_fieldsOf ho hd ?_)));dsimp only;refine wpAny_bind (ZfB hoS hdS hf ?_);rw[if_neg (by simp)];rcases hmode with⟨sl,rfl,hT1,e⟩|⟨sl,rfl,hT1,hpl,hld,hbl,hr,e⟩|⟨places,n,oT,rfl,hoT,hdT,hpn,hpv⟩
 ·dsimp only;rw[Int.toNat_natCast,Int.toNat_natCast,Int.toNat_natCast];refine wpAny_bind (ZeQ hT1 hoS hdS hf ?_);have hpi:(pickOrder (w.params.setOrder S ep) es)[ys.length]?= none:=by
   have h1:ys.length=(pickOrder (w.params.setOrder S ep) es).size:=by
    rw[e,List.length_map,Array.length_toList]
   exact Array.getElem?_eq_none (Nat.le_of_eq h1.symm)
  rw[hpi];exact Zfm hh ho hd (by simp) hc q
 ·dsimp only;rw[Int.toNat_natCast,Int.toNat_natCast,Int.toNat_natCast];refine wpAny_bind (ZeW hT1 hpl hld hoS hdS hf ?_);rw[hbl,Array.getElem?_eq_none (show es.size<=ys.length by lia)];exact Zfm hh ho hd (by simp) hc q
 ·dsimp only;refine wpAny_bind (wpAny_seqItems hoT hdT ?_);dsimp only;rw[Int.toNat_natCast];have hpi:places.size<=ys.length:=by rw[<- Array.length_toList];lia
  rw[Array.getElem?_eq_none hpi];dsimp only;refine wpAny_bind (fld ho hd (by simp) hc fun h1 o1 ho1 hc1 hd1 sb1=>Zfm (s:={ s with heap:=h1 }) hh ho1 hd1 (by simp) hc1 fun h' eb=>q h' fun b o2 hb e2=>eb b o2 hb ((sb1.2 b hb).trans e2))
theorem Zi8{I S T:Addr}{es:Array (Int×Value)}{ep:Nat}{t:SetTable}{ys:List Value}(hh:A.handled=none)(hIS:S≠I)(hTI:T≠I)(hy:ys.length=es.size):Walks prog w A I [I,S,T] [I] ys.length (fun i v=>ys[i]?= some v) (fun i h=>SIt w h I S T es ep t ys i) where
 sub:=fun b hb=>List.mem_cons.mpr (.inl (List.mem_singleton.mp hb))
 frame:=fun i h h' x hk=>by
  obtain⟨⟨oS,hoS,hdS⟩,hf,first,o,ho,hc,hd,hmode⟩:=x
  refine⟨⟨oS,hk S (by simp) oS hoS,hdS⟩,hf,first,o,hk I (by simp) o ho,hc,hd,?_⟩
  rcases hmode with h1|h1|⟨places,n,oT,e,hoT,r⟩
  ·exact .inl h1
  ·exact .inr (.inl h1)
  ·exact .inr (.inr ⟨places,n,oT,e,hk T (by simp) oT hoT,r⟩)
 item:=fun i s Q E hi x hQ=>Zj0 x hy hi fun h' x' sb=>hQ _ h' s.toks (List.getElem?_eq_getElem hi) x' fun b o hb e=>(sb.2 b (fun z=>hb (List.mem_singleton.mpr z))).trans e
 done:=fun s Q E x hQ=>ZkE hh x hy fun h' eb=>hQ h' s.toks fun b o hb e=>eb b o (fun z=>hb (List.mem_singleton.mpr z)) e
 self:=fun i s Q E x hQ=>by
  have hT:=x.ty (h:=s.heap);refine wpAny_pyIter_slot hT Zcn (wpAny_call_entry Zcn hT ZdT ?_ (Zen _));change wpAny _ _ (ret (.ref I)) _ _ s;exact wpAny_pure ⟨_,rfl,"set_iterator",_,hT,Zad.lookup,hQ⟩
end
section
variable{prog:Program}{w:World}{K:Type}[DecidableEq K]{knd:KeyKind prog w K}{A:Around}{E:Value->Shared->Prop}{s:Shared}
theorem ZjV{S:Addr}{o:Obj}{es:Array (Int×Value)}{ep:Nat}{t:SetTable}{Q:Bool->Shared->Prop}(ho:s.heap.get? S=some o)(hd:o.data=.set es ep t)(hf:t.fits es.size=true)(h:Q (!w.params.followText "set-order" && (!t.plain&&decide (es.size > 1))) s):wpAny (model prog w) A (setDrawn S) Q E s:=by
 unfold setDrawn;refine wpAny_bind (wpAny_setState_of ho hd hf ?_);dsimp only;exact wpAny_bind (byText (wpAny_pure h))
end
end Sts
namespace Sts
open PySem PyProof.Rows PySem.W
section
variable{prog:Program}{w:World}{K:Type}[DecidableEq K]{knd:KeyKind prog w K}{A:Around}{E:Value->Shared->Prop}{s:Shared}
theorem ZiE{r:Addr}{Q:Bool->Shared->Prop}(hT:s.TypeIs (.ref r) "set") (h:Q false s):wpAny (model prog w) A (Builtin.List.listLengthHint (.ref r)) Q E s:=by
 unfold Builtin.List.listLengthHint;refine wpAny_bind (wpAny_specialOf hT PySem.F.slot_set_len.lookup ?_);generalize hid:("set.__len__" : String)=id0
 wp_delta
 rw[show splitId id0=some ("set","__len__") from by subst hid;decide +kernel];subst hid;refine wpAny_bind (wpAny_isInstance (T := "set") (b:=true) hT (by rw[isSubtype_type];kernel_rfl) (wpAny_ite_split (fun hab=>absurd hab (by decide)) (fun _=>wpAny_ite_split (fun _=>?_) (fun hab=>absurd (by decide +kernel) hab))));exact wpAny_bind (wpAny_typeOf hT (wpAny_pure h))
end
end Sts
namespace L2
open PySem PySem.Spec PyProof.Rows PySem.W
section
variable{X:Cx}{e:Expr}{te:TE}{p p' pos pos':Pos}
theorem Inv.draws{pins:List (Addr×Obj)}{σ : St}{H:Hp}{s:Shared}{d:Drawn}(I:Inv X pins σ H s):Inv X pins σ H { s with drawn:=d } :=
 I.step (g':=s.gens) (d':=d) (t':=s.toks) (ch:=[]) (fun _ z=>nomatch z) (fun _ _ _ _ _ e _=>e) (fun _ o _ _ _ e _=>⟨o.slots,e⟩) (fun _ _ _ _ n=>n) (fun _ o _ e=>⟨o,e⟩) (fun _ _ h=>h) (fun _ _ _ h=>h) (fun _ ps h=>⟨#[],by simpa using h⟩) (fun _ h=>h) I.hok I.bare
theorem Zgh:bootBuiltins "set" = some (.type "set"):=by decide +kernel
theorem ZbL:bootBuiltins "sorted" = some (.builtin "sorted"):=by decide +kernel
theorem ZfV{ns:List Int}:∀zs:List V,(∀z∈zs,z∈ns.map V.int)->∃ms:List Int,zs=ms.map V.int/\∀m∈ms,m∈ns
 | [],_=>⟨[],rfl,fun _ h=>nomatch h⟩
 | z::zs,h=>by
  obtain⟨m,hm,rfl⟩:=List.mem_map.mp (h z (List.mem_cons_self ..));obtain⟨ms,rfl,hms⟩:=ZfV zs fun x hx=>h x (List.mem_cons_of_mem _ hx);refine⟨m::ms,rfl,fun x hx=>?_⟩;rcases List.mem_cons.mp hx with rfl|hx
  ·exact hm
  ·exact hms x hx
end
end L2
namespace Srd
open PySem PyProof.Rows Srt
structure Swo(lt:Keyed->Keyed->Bool):Prop where
 asym:∀x y,lt x y=true->lt y x=false
 neg:∀x y z,lt x y=false->lt y z=false->lt x z=false
def Le(lt:Keyed->Keyed->Bool)(x y:Keyed):Prop:=lt y x=false
section
variable{lt:Keyed->Keyed->Bool}(o:Swo lt){x y z:Keyed}
include o
theorem Swo.le_trans(h1:Le lt x y)(h2:Le lt y z):Le lt x z:=o.neg z y x h2 h1
theorem Swo.le_of(h:lt x y=true):Le lt x y:=o.asym x y h
theorem Swo.lt_le(h1:lt x y=true)(h2:Le lt y z):lt x z=true:=by
 cases h:lt x z with
 | true=>rfl
 | false=>rw[o.neg x z y h h2] at h1;cases h1
theorem Swo.le_lt(h1:Le lt x y)(h2:lt y z=true):lt x z=true:=by
 cases h:lt x z with
 | true=>rfl
 | false=>rw[o.neg y x z h1 h] at h2;cases h2
theorem Swo.le_refl(x:Keyed):Le lt x x:=by
 show lt x x=false;cases h:lt x x with
 | false=>rfl
 | true=>have:=o.asym x x h;rw[h] at this;exact this
end
def ZgP(prog:Program)(w:World)(A:Around)(s:Shared)(κ : SortKind)(Ok:Keyed->Prop)(lt:Keyed->Keyed->Bool):Prop :=
 ∀x y,Ok x->Ok y->∀E:Value->Shared->Prop,wpAny (model prog w) A (keyLt' κ x.1 y.1) (fun b s'=>s'=s/\b=lt x y) E s
def Up(lt:Keyed->Keyed->Bool)(arr:Array Keyed)(i j:Nat):Prop := ∀x y p q,i<=x->x<y->y<j->arr[x]?= some p->arr[y]?= some q->Le lt p q
def bv(lt:Keyed->Keyed->Bool)(l:Bool)(key p:Keyed):Bool:=if l=true then lt p key else !lt key p
def BV(lt:Keyed->Keyed->Bool)(l:Bool)(key:Keyed)(a:Array Keyed)(base i:Nat):Bool:=match a[base+i]? with|some p=>bv lt l key p|none=>false
theorem BV.anti{lt:Keyed->Keyed->Bool}(o:Swo lt){l:Bool}{key:Keyed}{a:Array Keyed}{base n:Nat}(hb:base+n<=a.size)(hu:Up lt a base (base+n)){i j:Nat}(hij:i<=j)(hj:j<n)(h:BV lt l key a base j=true):BV lt l key a base i=true:=by
 rcases Nat.eq_or_lt_of_le hij with rfl|hlt
 ·exact h
 have ei:a[base+i]?= some a[base+i]:=getElem?_pos a _ (by lia);have ej:a[base+j]?= some a[base+j]:=getElem?_pos a _ (by lia);have hle:=hu (base+i) (base+j) _ _ (by lia) (by lia) (by lia) ei ej;unfold BV at h ⊢;rw[ej] at h;rw[ei];dsimp only at h ⊢;unfold bv at h ⊢;cases l with
 | true =>
  rw[if_pos rfl] at h ⊢;exact o.le_lt hle h
 | false =>
  rw[if_neg (by decide)] at h ⊢;have h1:lt key a[base+j]=false:=by simpa using h
  have:lt key a[base+i]=false:=o.le_trans (lt:=lt) hle h1;rw[this];rfl
section
variable{prog:Program}{w:World}{A:Around}{E:Value->Shared->Prop}{s:Shared}{κ : SortKind}{Ok:Keyed->Prop}{st:SortSt}{lt:Keyed->Keyed->Bool}
theorem ZcY{x y:Keyed}{Q:Option Bool->SortSt->Prop}(hc:ZgP prog w A s κ Ok lt)(hk:kindOf st= κ)(hx:Ok x)(hy:Ok y)(h:Q (some (lt x y)) st):wpS (model prog w) A E s (lt' x y) Q st:=by
 rw[lt'_eq];refine wpS_bind (wpS_get ?_);rw[hk];refine wpS_bind (wpS_lift (wpAny_attempt (wpAny_mono (hc x y hx hy _) (fun b s' e=>⟨e.1,?_⟩) fun _ _ z=>z)));rw[e.2];exact wpS_pure h
theorem ZlW{l:Bool}{key:Keyed}{a:Array Keyed}{base n i:Nat}{Q:Option Bool->SortSt->Prop}(hc:ZgP prog w A s κ Ok lt)(hk:kindOf st= κ)(hkey:Ok key)(ha:∀p∈a.toList,Ok p)(hb:base+n<=a.size)(hi:i<n)(h:Q (some (BV lt l key a base i)) st) :
  wpS (model prog w) A E s (elem' a (base+i) >>= fun x=>if l=true then lt' x key else(lt' key x >>= fun r=>pure (Option.map (fun z=>!z) r))) Q st:=by
 refine wpS_bind (Zv (by lia) fun p hp e=>?_);unfold BV at h;rw[e] at h;dsimp only at h;unfold bv at h;cases l with
 | true =>
  rw[if_pos rfl] at h ⊢;exact ZcY hc hk (ha p hp) hkey h
 | false =>
  rw[if_neg Bool.false_ne_true] at h ⊢;exact wpS_bind (ZcY hc hk hkey (ha p hp) (wpS_pure h))
set_option maxHeartbeats 1000000 in
theorem Zag{l:Bool}{key:Keyed}{a:Array Keyed}{base n hint:Nat}{Q:Option Nat->SortSt->Prop}(o:Swo lt)(hc:ZgP prog w A s κ Ok lt)(hk:kindOf st= κ)(hkey:Ok key)(ha:∀p∈a.toList,Ok p)(hb:base+n<=a.size)(hh:hint<n)(hu:Up lt a base (base+n))
  (h:∀k,k<=n->(∀i,i<k->BV lt l key a base i=true)->(∀i,k<=i->i<n->BV lt l key a base i=false)->Q (some k) st):wpS (model prog w) A E s (Zfo l key a base n hint) Q st:=by
 have up:∀{i j},i<=j->j<n->BV lt l key a base j=true->BV lt l key a base i=true:=fun hij hj h=>BV.anti o hb hu hij hj h;have dn:∀{i j},i<=j->j<n->BV lt l key a base i=false->BV lt l key a base j=false:=fun{i j} hij hj h=>by
  cases e:BV lt l key a base j with
  | false=>rfl
  | true=>rw[up hij hj e] at h;cases h
 generalize hBB:BV lt l key a base=BB at up dn h;have bey:∀{st':SortSt}{i:Nat}{Q':Option Bool->SortSt->Prop},st'=st->i<n->Q' (some (BB i)) st'->wpS (model prog w) A E s (elem' a (base+i) >>= fun x=>if l=true then lt' x key else(lt' key x >>= fun r=>pure (Option.map (fun z=>!z) r))) Q' st':=fun{st' i Q'} e hi hq=>by
  subst e;exact ZlW hc hk hkey ha hb hi (by rw[hBB];exact hq)
 refine wpS_bind (bey rfl hh ?_);cases hright:BB hint with
 | true =>
  dsimp only;rw[if_pos rfl];refine wpS_bind (wpS_mono (wpS_forRange (I:=fun x c st'=>st'=st/\∃lo of,c=(none,lo,of)/\lo<n-hint/\lo<of/\BB (hint+lo)=true/\x+1<=of) (Q:=fun c st'=>st'=st/\∃lo of,c=(none,lo,of)/\lo<n-hint/\lo<of/\BB (hint+lo)=true/\(n-hint<=of\/BB (hint+of)=false)) ?_ ?_ ⟨rfl,0,1,rfl,by lia,by lia,hright,by lia⟩) ?_)
  ·rintro i c st' _ _ ⟨rfl,lo,of,rfl,h1,h2,h3,h4⟩;dsimp only;by_cases hlt:of>=n-hint
   ·rw[if_pos hlt];exact wpS_pure ⟨rfl,lo,of,rfl,h1,h2,h3,.inl hlt⟩
   ·rw[if_neg hlt];refine wpS_bind (bey rfl (by lia) ?_);cases hb2:BB (hint+of) with
    | true=>exact wpS_pure ⟨rfl,_,_,rfl,by lia,by lia,hb2,by lia⟩
    | false=>exact wpS_pure ⟨rfl,lo,of,rfl,h1,h2,h3,.inr hb2⟩
  ·rintro c st' ⟨rfl,lo,of,rfl,h1,h2,h3,h4⟩;exact⟨rfl,lo,of,rfl,h1,h2,h3,.inl (by lia)⟩
  ·rintro c st'' ⟨rfl,lo,of,rfl,h1,h2,h3,h4⟩;dsimp only;have g1:hint+lo+1<=hint+min of (n-hint):=by lia
   have g2:hint+min of (n-hint)<=n:=by lia
   have g3:∀i,i<hint+lo+1->BB i=true:=fun i hi=>up (show i<=hint+lo by lia) (by lia) h3;have g4:∀i,hint+min of (n-hint)<=i->i<n->BB i=false:=fun i hi hin=>by
    rcases h4 with h4|h4
    ·lia
    ·exact dn (show hint+of<=i by lia) hin h4
   generalize hint+lo+1=lo1 at g1 g3;generalize hint+min of (n-hint)=hi1 at g1 g2 g4;refine wpS_bind (wpS_mono (wpS_forRange (I:=fun x c st'=>st'=st''/\∃lo hi,c=(none,lo,hi)/\lo<=hi/\hi<=n/\(∀i,i<lo->BB i=true)/\(∀i,hi<=i->i<n->BB i=false)/\hi-lo+x<=n) (Q:=fun c st'=>st'=st''/\∃lo hi,c=(none,lo,hi)/\lo=hi/\hi<=n/\(∀i,i<lo->BB i=true)/\(∀i,hi<=i->i<n->BB i=false)) ?_ ?_ ⟨rfl,lo1,hi1,rfl,g1,g2,g3,g4,by lia⟩) ?_)
   ·rintro i c st' _ _ ⟨rfl,lo,hi,rfl,h1,h2,h3,h4,h5⟩;dsimp only;by_cases hlt:lo>=hi
    ·rw[if_pos hlt];exact wpS_pure ⟨rfl,lo,hi,rfl,by lia,h2,h3,h4⟩
    ·rw[if_neg hlt];refine wpS_bind (bey rfl (by lia) ?_);cases hb2:BB (lo+(hi-lo) / 2) with
     | true=>exact wpS_pure ⟨rfl,_,_,rfl,by lia,by lia,fun i hi'=>up (show i<=lo+(hi-lo) / 2 by lia) (by lia) hb2,h4,by lia⟩
     | false=>exact wpS_pure ⟨rfl,_,_,rfl,by lia,by lia,h3,fun i hi' hin=>dn hi' hin hb2,by lia⟩
   ·rintro c st' ⟨rfl,lo,hi,rfl,h1,h2,h3,h4,h5⟩;exact⟨rfl,lo,hi,rfl,by lia,h2,h3,h4⟩
   ·rintro c st' ⟨rfl,lo,hi,rfl,h1,h2,h3,h4⟩;exact wpS_pure (h hi h2 (fun i hi'=>h3 i (by lia)) h4)
 | false =>
  dsimp only;rw[if_neg Bool.false_ne_true];refine wpS_bind (wpS_mono (wpS_forRange (I:=fun x c st'=>st'=st/\∃lo of,c=(none,lo,of)/\lo<hint+1/\lo<of/\BB (hint-lo)=false/\x+1<=of) (Q:=fun c st'=>st'=st/\∃lo of,c=(none,lo,of)/\lo<hint+1/\lo<of/\BB (hint-lo)=false/\(hint+1<=of\/BB (hint-of)=true)) ?_ ?_ ⟨rfl,0,1,rfl,by lia,by lia,hright,by lia⟩) ?_)
  ·rintro i c st' _ _ ⟨rfl,lo,of,rfl,h1,h2,h3,h4⟩;dsimp only;by_cases hlt:of>=hint+1
   ·rw[if_pos hlt];exact wpS_pure ⟨rfl,lo,of,rfl,h1,h2,h3,.inl hlt⟩
   ·rw[if_neg hlt];refine wpS_bind (bey rfl (by lia) ?_);cases hb2:BB (hint-of) with
    | true=>exact wpS_pure ⟨rfl,lo,of,rfl,h1,h2,h3,.inr hb2⟩
    | false=>exact wpS_pure ⟨rfl,_,_,rfl,by lia,by lia,hb2,by lia⟩
  ·rintro c st' ⟨rfl,lo,of,rfl,h1,h2,h3,h4⟩;exact⟨rfl,lo,of,rfl,h1,h2,h3,.inl (by lia)⟩
  ·rintro c st'' ⟨rfl,lo,of,rfl,h1,h2,h3,h4⟩;dsimp only;have g1:hint+1-min of (hint+1)<=hint-lo:=by lia
   have g2:hint-lo<=n:=by lia
   have g3:∀i,i<hint+1-min of (hint+1)->BB i=true:=fun i hi=>by
    rcases h4 with h4|h4
    ·lia
    ·exact up (show i<=hint-of by lia) (by lia) h4
   have g4:∀i,hint-lo<=i->i<n->BB i=false:=fun i hi hin=>dn hi hin h3;generalize hint+1-min of (hint+1)=lo1 at g1 g3;generalize hint-lo=hi1 at g1 g2 g4;refine wpS_bind (wpS_mono (wpS_forRange (I:=fun x c st'=>st'=st''/\∃lo hi,c=(none,lo,hi)/\lo<=hi/\hi<=n/\(∀i,i<lo->BB i=true)/\(∀i,hi<=i->i<n->BB i=false)/\hi-lo+x<=n) (Q:=fun c st'=>st'=st''/\∃lo hi,c=(none,lo,hi)/\lo=hi/\hi<=n/\(∀i,i<lo->BB i=true)/\(∀i,hi<=i->i<n->BB i=false)) ?_ ?_ ⟨rfl,lo1,hi1,rfl,g1,g2,g3,g4,by lia⟩) ?_)
   ·rintro i c st' _ _ ⟨rfl,lo,hi,rfl,h1,h2,h3,h4,h5⟩;dsimp only;by_cases hlt:lo>=hi
    ·rw[if_pos hlt];exact wpS_pure ⟨rfl,lo,hi,rfl,by lia,h2,h3,h4⟩
    ·rw[if_neg hlt];refine wpS_bind (bey rfl (by lia) ?_);cases hb2:BB (lo+(hi-lo) / 2) with
     | true=>exact wpS_pure ⟨rfl,_,_,rfl,by lia,by lia,fun i hi'=>up (show i<=lo+(hi-lo) / 2 by lia) (by lia) hb2,h4,by lia⟩
     | false=>exact wpS_pure ⟨rfl,_,_,rfl,by lia,by lia,h3,fun i hi' hin=>dn hi' hin hb2,by lia⟩
   ·rintro c st' ⟨rfl,lo,hi,rfl,h1,h2,h3,h4,h5⟩;exact⟨rfl,lo,hi,rfl,by lia,h2,h3,h4⟩
   ·rintro c st' ⟨rfl,lo,hi,rfl,h1,h2,h3,h4⟩;exact wpS_pure (h hi h2 (fun i hi'=>h3 i (by lia)) h4)
end
section
variable{lt:Keyed->Keyed->Bool}{a b out:Array Keyed}{ia ib k:Nat}{p q:Keyed}
abbrev So(lt:Keyed->Keyed->Bool)(l:List Keyed):Prop:=l.Pairwise (Le lt)
theorem ZiX(h:a[ia]?= some p):a.toList[ia]?= some p:=by rw[<- h];simp
theorem Z5{i:Nat}{x y:Keyed}(h1:a[i]?= some x)(h2:a[i]?= some y):x=y:=by
 rw[h1] at h2;exact Option.some.inj h2
theorem Zca(h:a[ia]?= some p):a.toList.drop ia=p::a.toList.drop (ia+1):=by
 obtain⟨hi,e⟩:=List.getElem?_eq_some_iff.mp (ZiX h);rw[List.drop_eq_getElem_cons hi,e]
theorem So.drop{l:List Keyed}(h:So lt l)(n:Nat):So lt (l.drop n):=List.Pairwise.sublist (List.drop_sublist n l) h
theorem So.head(h:So lt a.toList)(hp:a[ia]?= some p):∀y∈a.toList.drop (ia+1),Le lt p y:=by
 have:=h.drop ia;rw[Zca hp] at this;exact(List.pairwise_cons.mp this).1
theorem Zfd(o:Swo lt)(h:So lt a.toList)(hp:a[ia]?= some p){x:Keyed}(hx:Le lt x p):∀y∈a.toList.drop ia,Le lt x y:=fun y hy=>by
 rw[Zca hp] at hy;rcases List.mem_cons.mp hy with rfl|hy
 ·exact hx
 ·exact o.le_trans hx (h.head hp y hy)
theorem Zfu(h:So lt a.toList)(i j:Nat):Up lt a i j:=fun x y p q _ hxy _ ex ey=>by
 obtain⟨hx,rfl⟩:=List.getElem?_eq_some_iff.mp (ZiX ex);obtain⟨hy,rfl⟩:=List.getElem?_eq_some_iff.mp (ZiX ey);exact(List.pairwise_iff_getElem.mp h) x y hx hy hxy
theorem Zko{n:Nat}(h:Up lt a 0 n)(hn:a.size<=n):So lt a.toList:=by
 refine List.pairwise_iff_getElem.mpr fun i j hi hj hij=>?_;have hi':i<a.size:=by rw[<- Array.length_toList];exact hi
 have hj':j<a.size:=by rw[<- Array.length_toList];exact hj
 exact h i j _ _ (Nat.zero_le _) hij (by lia) (by rw[<- Array.getElem?_toList];exact List.getElem?_eq_getElem hi) (by rw[<- Array.getElem?_toList];exact List.getElem?_eq_getElem hj)
theorem Zdl{l:List Keyed}{n:Nat}{y:Keyed}(h:y∈l.drop n):∃i,l[n+i]?= some y:=by
 obtain⟨i,hi⟩:=List.mem_iff_getElem?.mp h;rw[List.getElem?_drop] at hi;exact⟨i,hi⟩
theorem Zk2(F:∀i,k<=i->i<a.size-ia->BV lt false p a ia i=false)(o:Swo lt):∀y∈a.toList.drop (ia+k),Le lt p y:=fun y hy=>by
 obtain⟨i,hi⟩:=Zdl hy;obtain⟨hl,_⟩:=List.getElem?_eq_some_iff.mp hi;rw[Array.length_toList] at hl;have h1:=F (k+i) (by lia) (by lia);unfold BV at h1;rw[show ia+(k+i)=ia+k+i by lia,<- Array.getElem?_toList,hi] at h1;have h2:(!lt p y)=false:=h1;exact o.le_of (by simpa using h2)
theorem ZkW(F:∀i,i<k->BV lt false p a ia i=true):∀x∈(a.toList.drop ia).take k,Le lt x p:=fun x hx=>by
 obtain⟨i,hi⟩:=List.mem_iff_getElem?.mp hx;have hik:i<k:=by
  have:=(List.getElem?_eq_some_iff.mp hi).1;rw[List.length_take] at this;lia
 rw[List.getElem?_take_of_lt hik,List.getElem?_drop] at hi;have h1:=F i hik;unfold BV at h1;rw[<- Array.getElem?_toList,hi] at h1;have h2:(!lt p x)=true:=h1;show lt p x=false
 simpa using h2
theorem ZlM(F:∀i,k<=i->i<b.size-ib->BV lt true q b ib i=false):∀y∈b.toList.drop (ib+k),Le lt q y:=fun y hy=>by
 obtain⟨i,hi⟩:=Zdl hy;obtain⟨hl,_⟩:=List.getElem?_eq_some_iff.mp hi;rw[Array.length_toList] at hl;have h1:=F (k+i) (by lia) (by lia);unfold BV at h1;rw[show ib+(k+i)=ib+k+i by lia,<- Array.getElem?_toList,hi] at h1;exact h1
theorem Zlu(F:∀i,i<k->BV lt true q b ib i=true)(o:Swo lt):∀x∈(b.toList.drop ib).take k,Le lt x q:=fun x hx=>by
 obtain⟨i,hi⟩:=List.mem_iff_getElem?.mp hx;have hik:i<k:=by
  have:=(List.getElem?_eq_some_iff.mp hi).1;rw[List.length_take] at this;lia
 rw[List.getElem?_take_of_lt hik,List.getElem?_drop] at hi;have h1:=F i hik;unfold BV at h1;rw[<- Array.getElem?_toList,hi] at h1;exact o.le_of h1
structure OutL(lt:Keyed->Keyed->Bool)(a b out:Array Keyed)(ia ib:Nat):Prop where
 perm:Out a b out ia ib
 sort:So lt out.toList
 lowA:∀x∈out.toList,∀y∈a.toList.drop ia,Le lt x y
 lowB:∀x∈out.toList,∀y∈b.toList.drop ib,Le lt x y
structure Rs(lt:Keyed->Keyed->Bool)(a b r:Array Keyed):Prop where
 perm:r.toList.Perm (a.toList++b.toList)
 sort:So lt r.toList
theorem mem_push{x:Keyed}(h:x∈(out.push p).toList):x∈out.toList\/x=p:=by
 rw[Array.toList_push] at h;rcases List.mem_append.mp h with h|h
 ·exact .inl h
 ·exact .inr (List.mem_singleton.mp h)
theorem Zhh(h:So lt out.toList)(hp:∀x∈out.toList,Le lt x p):So lt (out.push p).toList:=by
 rw[Array.toList_push];refine List.pairwise_append.mpr ⟨h,List.pairwise_singleton _ _,fun x hx y hy=>?_⟩;rw[List.mem_singleton.mp hy];exact hp x hx
theorem Zd0{l:List Keyed}{i j:Nat}(h:i<=j){y:Keyed}(hy:y∈l.drop j):y∈l.drop i:=by
 rw[show j=i+(j-i) by lia,<- List.drop_drop] at hy;exact List.mem_of_mem_drop hy
theorem OutL.pushA(h:OutL lt a b out ia ib)(SA:So lt a.toList)(hp:a[ia]?= some p)(hb:∀y∈b.toList.drop ib,Le lt p y):OutL lt a b (out.push p) (ia+1) ib:=by
 have hm:p∈a.toList.drop ia:=by rw[Zca hp];exact List.mem_cons_self ..
 refine⟨h.perm.pushA hp,Zhh h.sort fun x hx=>h.lowA x hx p hm,fun x hx y hy=>?_,fun x hx y hy=>?_⟩
 ·rcases mem_push hx with hx|rfl
  ·exact h.lowA x hx y (Zd0 (by lia) hy)
  ·exact SA.head hp y hy
 ·rcases mem_push hx with hx|rfl
  ·exact h.lowB x hx y hy
  ·exact hb y hy
theorem OutL.pushB(h:OutL lt a b out ia ib)(SB:So lt b.toList)(hp:b[ib]?= some p)(ha:∀y∈a.toList.drop ia,Le lt p y):OutL lt a b (out.push p) ia (ib+1):=by
 have hm:p∈b.toList.drop ib:=by rw[Zca hp];exact List.mem_cons_self ..
 refine⟨h.perm.pushB hp,Zhh h.sort fun x hx=>h.lowB x hx p hm,fun x hx y hy=>?_,fun x hx y hy=>?_⟩
 ·rcases mem_push hx with hx|rfl
  ·exact h.lowA x hx y hy
  ·exact ha y hy
 ·rcases mem_push hx with hx|rfl
  ·exact h.lowB x hx y (Zd0 (by lia) hy)
  ·exact SB.head hp y hy
theorem ZcD(a:Array Keyed)(i k:Nat):(a.extract i (i+k)).toList=(a.toList.drop i).take k:=by
 rw[Array.toList_extract,List.extract_eq_drop_take,show i+k-i=k by lia]
theorem Zcc(a:Array Keyed)(i:Nat):(a.extract i a.size).toList=a.toList.drop i:=by
 rw[Array.toList_extract,List.extract_eq_drop_take];apply List.take_of_length_le;rw[List.length_drop,Array.length_toList];exact Nat.le_refl _
theorem Zcu{l:List Keyed}{i k:Nat}(h:So lt l){x y:Keyed}(hx:x∈(l.drop i).take k)(hy:y∈l.drop (i+k)):Le lt x y:=by
 have h1:=h.drop i;rw[<- List.take_append_drop k (l.drop i),List.drop_drop] at h1;exact(List.pairwise_append.mp h1).2.2 x hx y hy
theorem OutL.extA(h:OutL lt a b out ia ib)(SA:So lt a.toList)(hk:ia+k<=a.size)(hb:∀x∈(a.toList.drop ia).take k,∀y∈b.toList.drop ib,Le lt x y):OutL lt a b (out++a.extract ia (ia+k)) (ia+k) ib:=by
 have hm:∀x,x∈(out++a.extract ia (ia+k)).toList->x∈out.toList\/x∈(a.toList.drop ia).take k:=fun x hx=>by
  rw[Array.toList_append,ZcD] at hx;exact List.mem_append.mp hx
 refine⟨h.perm.extA hk,?_,fun x hx y hy=>?_,fun x hx y hy=>?_⟩
 ·rw[Array.toList_append,ZcD];exact List.pairwise_append.mpr ⟨h.sort,List.Pairwise.sublist (List.take_sublist _ _) (SA.drop ia),fun x hx y hy=>h.lowA x hx y (List.mem_of_mem_take hy)⟩
 ·rcases hm x hx with hx|hx
  ·exact h.lowA x hx y (Zd0 (by lia) hy)
  ·exact Zcu SA hx hy
 ·rcases hm x hx with hx|hx
  ·exact h.lowB x hx y hy
  ·exact hb x hx y hy
theorem OutL.extB(h:OutL lt a b out ia ib)(SB:So lt b.toList)(hk:ib+k<=b.size)(ha:∀x∈(b.toList.drop ib).take k,∀y∈a.toList.drop ia,Le lt x y):OutL lt a b (out++b.extract ib (ib+k)) ia (ib+k):=by
 have hm:∀x,x∈(out++b.extract ib (ib+k)).toList->x∈out.toList\/x∈(b.toList.drop ib).take k:=fun x hx=>by
  rw[Array.toList_append,ZcD] at hx;exact List.mem_append.mp hx
 refine⟨h.perm.extB hk,?_,fun x hx y hy=>?_,fun x hx y hy=>?_⟩
 ·rw[Array.toList_append,ZcD];exact List.pairwise_append.mpr ⟨h.sort,List.Pairwise.sublist (List.take_sublist _ _) (SB.drop ib),fun x hx y hy=>h.lowB x hx y (List.mem_of_mem_take hy)⟩
 ·rcases hm x hx with hx|hx
  ·exact h.lowA x hx y hy
  ·exact ha x hx y hy
 ·rcases hm x hx with hx|hx
  ·exact h.lowB x hx y (Zd0 (by lia) hy)
  ·exact Zcu SB hx hy
theorem OutL.doneB(h:OutL lt a b out ia ib)(SA:So lt a.toList)(e:(ib == b.size)=true):Rs lt a b (out++a.extract ia a.size++b.extract ib b.size):=by
 refine⟨h.perm.done,?_⟩;have e':b.toList.drop ib=[]:=List.drop_eq_nil_of_le (by rw[Array.length_toList,eq_of_beq e];exact Nat.le_refl _);rw[Array.toList_append,Array.toList_append,Zcc,Zcc,e',List.append_nil];exact List.pairwise_append.mpr ⟨h.sort,SA.drop ia,fun x hx y hy=>h.lowA x hx y hy⟩
theorem OutL.doneA(h:OutL lt a b out ia ib)(SB:So lt b.toList)(e:(ia == a.size)=true):Rs lt a b (out++a.extract ia a.size++b.extract ib b.size):=by
 refine⟨h.perm.done,?_⟩;have e':a.toList.drop ia=[]:=List.drop_eq_nil_of_le (by rw[Array.length_toList,eq_of_beq e];exact Nat.le_refl _);rw[Array.toList_append,Array.toList_append,Zcc,Zcc,e',List.append_nil];exact List.pairwise_append.mpr ⟨h.sort,SB.drop ib,fun x hx y hy=>h.lowB x hx y hy⟩
theorem OutL.lastL(h:OutL lt a b out ia ib)(SA:So lt a.toList)(SB:So lt b.toList)(LA:∀x∈b.toList,∀q,a[a.size-1]?= some q->Le lt x q)(e:(ia+1 == a.size)=true):Rs lt a b (out++b.extract ib b.size++a.extract ia a.size):=by
 refine⟨h.perm.last,?_⟩;have e1:=eq_of_beq e;rw[Array.toList_append,Array.toList_append,Zcc,Zcc];refine List.pairwise_append.mpr ⟨List.pairwise_append.mpr ⟨h.sort,SB.drop ib,fun x hx y hy=>h.lowB x hx y hy⟩,SA.drop ia,fun x hx y hy=>?_⟩;rcases List.mem_append.mp hx with hx|hx
 ·exact h.lowA x hx y hy
 ·refine LA x (List.mem_of_mem_drop hx) y ?_;obtain⟨i,hi⟩:=Zdl hy;have hl:=(List.getElem?_eq_some_iff.mp hi).1;rw[Array.length_toList] at hl;rw[show a.size-1=ia+i by lia,<- Array.getElem?_toList];exact hi
theorem Zlw(SB:So lt b.toList)(hp:b[0]?= some p)(hb0:∀p,b[0]?= some p->∀y∈a.toList,Le lt p y):OutL lt a b #[p] 0 1:=by
 refine⟨Zl5 hp,List.pairwise_singleton _ _,fun x hx y hy=>?_,fun x hx y hy=>?_⟩
 ·obtain rfl:x=p:=by simpa using hx
  exact hb0 x hp y hy
 ·obtain rfl:x=p:=by simpa using hx
  exact SB.head hp y hy
end
section
variable{prog:Program}{w:World}{A:Around}{E:Value->Shared->Prop}{s:Shared}{κ : SortKind}{Ok:Keyed->Prop}{st:SortSt}{lt:Keyed->Keyed->Bool}
abbrev LoT:=Option (Array Keyed)×Array Keyed×Nat×Nat×Nat×Nat×Nat
def lo3(a b out:Array Keyed)(ia ib g ac bc:Nat):StateT SortSt Sem (ForInStep LoT) :=
 elem' a ia >>= fun p=>if(ia+1+1 == a.size)=true then pure (.done (some (out.push p++b.extract ib b.size++a.extract (ia+1) a.size),out.push p,ia+1,ib,g,ac,bc))
  else if(decide (ac<7)&&decide (bc<7))=true then pure (.done (none,out.push p,ia+1,ib,g,ac,bc)) else pure (.yield (none,out.push p,ia+1,ib,g,ac,bc))
def LoP(lt:Keyed->Keyed->Bool)(a b:Array Keyed)(st:SortSt)(x:Nat):ForInStep LoT->SortSt->Prop:=fun r st'=>match r with
 | .done c=>Like st st'/\((∃r out ia ib g ac bc,c=(some r,out,ia,ib,g,ac,bc)/\Rs lt a b r)\/∃out ia ib g ac bc,c=(none,out,ia,ib,g,ac,bc)/\OutL lt a b out ia ib/\ia+1<a.size/\ib<b.size/\x+2<=ia+ib)
 | .yield c=>Like st st'/\∃out ia ib g ac bc,c=(none,out,ia,ib,g,ac,bc)/\OutL lt a b out ia ib/\ia+1<a.size/\ib<b.size/\x+2<=ia+ib
structure LoQ(lt:Keyed->Keyed->Bool)(a b:Array Keyed)(st:SortSt)(N:Nat)(Q:ForInStep LoT->SortSt->Prop):Prop where
 R:∀r out ia ib g ac bc,Rs lt a b r->Q (.done (some r,out,ia,ib,g,ac,bc)) st
 N:∀out ia ib g ac bc,OutL lt a b out ia ib->ia+1<a.size->ib<b.size->N<=ia+ib->Q (.done (none,out,ia,ib,g,ac,bc)) st/\Q (.yield (none,out,ia,ib,g,ac,bc)) st
section
variable{a b out:Array Keyed}{ia ib g ac bc N:Nat}{Q:ForInStep LoT->SortSt->Prop}
theorem Zjh(SA:So lt a.toList)(SB:So lt b.toList)(LA:∀x∈b.toList,∀q,a[a.size-1]?= some q->Le lt x q)(q:LoQ lt a b st N Q)(ho:OutL lt a b out ia ib)(h1:ia+1<a.size)(h2:ib<b.size)(hN:N<=ia+ib)(hp:∀p,a[ia]?= some p->∀y∈b.toList.drop ib,Le lt p y) :
  wpS (model prog w) A E s (lo3 a b out ia ib g ac bc) Q st:=by
 unfold lo3;refine wpS_bind (Zv (by lia) fun p4 h4 e4=>?_);have o4:=ho.pushA SA e4 (hp p4 e4);by_cases f1:(ia+1+1 == a.size)=true
 ·rw[if_pos f1];exact wpS_pure (q.R _ _ _ _ _ _ _ (o4.lastL SA SB LA f1))
 rw[if_neg f1];have n4:ia+1+1<a.size:=by
  have : ¬ ia+1+1=a.size:=fun e=>f1 (by simp[<- e]);lia
 have z:=q.N _ _ _ g ac bc o4 n4 h2 (by lia);by_cases f2:(decide (ac<7)&&decide (bc<7))=true
 ·rw[if_pos f2];exact wpS_pure z.1
 ·rw[if_neg f2];exact wpS_pure z.2
theorem Zf2(o:Swo lt)(hc:ZgP prog w A s κ Ok lt)(hk:kindOf st= κ)(ha:∀p∈a.toList,Ok p)(hb:∀p∈b.toList,Ok p)(SA:So lt a.toList)(SB:So lt b.toList)(LA:∀x∈b.toList,∀q,a[a.size-1]?= some q->Le lt x q)(q:LoQ lt a b st N Q)(ho:OutL lt a b out ia ib)(h1:ia+1<a.size)(h2:ib<b.size)(hN:N<=ia+ib)(hp:∀p,b[ib]?= some p->∀y∈a.toList.drop ia,Le lt p y)
  {T:Keyed->Option Nat->StateT SortSt Sem (ForInStep LoT)} (hT:∀p k,T p (some k)=if k > 0 then(if(ib+1+k == b.size)=true then pure (.done (some (out.push p++b.extract (ib+1) (ib+1+k)++a.extract ia a.size++b.extract (ib+1+k) b.size),out.push p++b.extract (ib+1) (ib+1+k),ia,ib+1+k,g,ac,k))
     else lo3 a b (out.push p++b.extract (ib+1) (ib+1+k)) ia (ib+1+k) g ac k)
    else lo3 a b (out.push p) ia (ib+1) g ac k) :
  wpS (model prog w) A E s (elem' b ib >>= fun p=>if(ib+1 == b.size)=true then pure (.done (some (out.push p++a.extract ia a.size++b.extract (ib+1) b.size),out.push p,ia,ib+1,g,ac,bc))
   else elem' a ia >>= fun q=>Zfo true q b (ib+1) (b.size-(ib+1)) 0 >>= T p) Q st:=by
 refine wpS_bind (Zv (by lia) fun p3 h3 e3=>?_);have o2:=ho.pushB SB e3 (hp p3 e3);by_cases c3:(ib+1 == b.size)=true
 ·rw[if_pos c3];exact wpS_pure (q.R _ _ _ _ _ _ _ (o2.doneB SA c3))
 rw[if_neg c3];have n3:ib+1<b.size:=by
  have : ¬ ib+1=b.size:=fun e=>c3 (by simp[<- e]);lia
 refine wpS_bind (Zv (by lia) fun q3 g3 u3=>?_);refine wpS_bind (Zag o hc hk (ha q3 g3) hb (by lia) (by lia) (Zfu SB _ _) fun k2 hk2 G1 G2=>?_);rw[hT];by_cases k20:k2 > 0
 ·rw[if_pos k20];have o3:=o2.extB SB (k:=k2) (by lia) (fun x hx=>Zfd o SA u3 (Zlu G1 o x hx));by_cases c4:(ib+1+k2 == b.size)=true
  ·rw[if_pos c4];exact wpS_pure (q.R _ _ _ _ _ _ _ (o3.doneB SA c4))
  rw[if_neg c4];have n5:ib+1+k2<b.size:=by
   have : ¬ ib+1+k2=b.size:=fun e=>c4 (by simp[<- e]);lia
  exact Zjh SA SB LA q o3 h1 n5 (by lia) fun p e=>by rw[Z5 e u3];exact ZlM G2
 ·rw[if_neg k20];exact Zjh SA SB LA q o2 h1 n3 (by lia) fun p e=>by rw[Z5 e u3];exact ZlM (k:=0) (fun i _ hi=>G2 i (by lia) hi)
end
set_option maxHeartbeats 2000000 in
theorem Zex{a b:Array Keyed}{Q:Array Keyed->SortSt->Prop}(o:Swo lt)(hc:ZgP prog w A s κ Ok lt)(hk:kindOf st= κ)(ha:∀p∈a.toList,Ok p)(hb:∀p∈b.toList,Ok p)(ha1:1<=a.size)(hb1:1<=b.size)(SA:So lt a.toList)(SB:So lt b.toList)(hb0:∀p,b[0]?= some p->∀y∈a.toList,Le lt p y)(LA:∀x∈b.toList,∀q,a[a.size-1]?= some q->Le lt x q)
  (h:∀r st',Like st st'->Rs lt a b r->Q r st'):wpS (model prog w) A E s (ZiK a b) Q st:=by
 refine wpS_bind (wpS_lift (wpAny_rule ⟨rfl,?_⟩));refine wpS_bind (Zv (by lia) fun p hp he=>?_)
 try dsimp -zeta only
 have o0:OutL lt a b #[p] 0 1:=Zlw SB he hb0;by_cases c1:(1 == b.size)=true
 ·rw[if_pos c1];exact wpS_pure (h _ _ (Like.refl _) (o0.doneB SA c1))
 rw[if_neg c1];by_cases c2:(0+1 == a.size)=true
 ·rw[if_pos c2];exact wpS_pure (h _ _ (Like.refl _) (o0.lastL SA SB LA c2))
 rw[if_neg c2];have n1:1<b.size:=by
  have : ¬ 1=b.size:=fun e=>c1 (by simp[<- e]);lia
 have n2:1<a.size:=by
  have : ¬ 1=a.size:=fun e=>c2 (by simp[<- e]);lia
 refine wpS_bind (wpS_get ?_);refine wpS_bind (wpS_mono (wpS_forRange (I:=fun x c st'=>Like st st'/\∃out ia ib g,c=(none,out,ia,ib,g)/\OutL lt a b out ia ib/\ia+1<a.size/\ib<b.size/\x+1<=ia+ib)
  (Q:=fun c st'=>Like st st'/\∃r out ia ib g,c=(some r,out,ia,ib,g)/\Rs lt a b r) ?_ ?_ ⟨Like.refl _,_,0,1,_,rfl,o0,by lia,by lia,by lia⟩) ?_)
 ·rintro x c st1 _ hx ⟨lk,out,ia,ib,g,rfl,ho,hia,hib,hxx⟩
  try dsimp -zeta only
  refine wpS_bind (wpS_mono (wpS_forRange (I:=fun y c st'=>Like st st'/\∃out ia ib ac bc,c=(none,out,ia,ib,ac,bc)/\OutL lt a b out ia ib/\ia+1<a.size/\ib<b.size/\x+1+(if y=0 then 0 else 1)<=ia+ib)
   (Q:=fun c st'=>Like st st'/\((∃r out ia ib ac bc,c=(some r,out,ia,ib,ac,bc)/\Rs lt a b r)\/∃out ia ib ac bc,c=(none,out,ia,ib,ac,bc)/\OutL lt a b out ia ib/\ia+1<a.size/\ib<b.size/\x+2<=ia+ib)) ?_ ?_ ⟨lk,out,ia,ib,0,0,rfl,ho,hia,hib,by simp;lia⟩) ?_)
  ·rintro y c st2 _ hy ⟨lk2,out,ia,ib,ac,bc,rfl,ho,hia,hib,hxx⟩;dsimp only;have hxx2:x+1<=ia+ib:=by split at hxx <;> lia
   refine wpS_bind (Zv (by lia) fun p hp ep=>?_);refine wpS_bind (Zv (by lia) fun q hq eq=>?_);refine wpS_bind (ZcY hc (lk2.kind.trans hk) (hb p hp) (ha q hq) ?_);cases hbw:lt p q with
   | true =>
    try dsimp -zeta only
    rw[if_pos rfl];refine wpS_bind (Zv (by lia) fun p2 hp2 ep2=>?_);have o1:=ho.pushB SB ep2 (by rw[Z5 ep2 ep];exact Zfd o SA eq (o.le_of hbw));by_cases d1:(ib+1 == b.size)=true
    ·rw[if_pos d1];exact wpS_pure ⟨lk2,.inl ⟨_,_,_,_,_,_,rfl,(o1.doneB SA d1)⟩⟩
    rw[if_neg d1];have m1:ib+1<b.size:=by
     have : ¬ ib+1=b.size:=fun e=>d1 (by simp[<- e]);lia
    by_cases d2:bc+1>=g
    ·rw[if_pos d2];exact wpS_pure ⟨lk2,.inr ⟨_,_,_,_,_,rfl,o1,hia,m1,by lia⟩⟩
    ·rw[if_neg d2];exact wpS_pure ⟨lk2,_,_,_,_,_,rfl,o1,hia,m1,by rw[if_neg (by lia)];lia⟩
   | false =>
    try dsimp -zeta only
    rw[if_neg Bool.false_ne_true];refine wpS_bind (Zv (by lia) fun p2 hp2 ep2=>?_);have o1:=ho.pushA SA ep2 (by rw[Z5 ep2 eq];exact Zfd o SB ep hbw);by_cases d1:(ia+1+1 == a.size)=true
    ·rw[if_pos d1];exact wpS_pure ⟨lk2,.inl ⟨_,_,_,_,_,_,rfl,(o1.lastL SA SB LA d1)⟩⟩
    rw[if_neg d1];have m1:ia+1+1<a.size:=by
     have : ¬ ia+1+1=a.size:=fun e=>d1 (by simp[<- e]);lia
    by_cases d2:ac+1>=g
    ·rw[if_pos d2];exact wpS_pure ⟨lk2,.inr ⟨_,_,_,_,_,rfl,o1,m1,hib,by lia⟩⟩
    ·rw[if_neg d2];exact wpS_pure ⟨lk2,_,_,_,_,_,rfl,o1,m1,hib,by rw[if_neg (by lia)];lia⟩
  ·rintro c st2 ⟨lk2,out,ia,ib,ac,bc,rfl,ho,hia,hib,hxx⟩;refine⟨lk2,.inr ⟨_,_,_,_,_,rfl,ho,hia,hib,?_⟩⟩;rw[if_neg (by lia)] at hxx;lia
  ·rintro c st2 ⟨lk2,⟨r,out,ia,ib,ac,bc,rfl,hr⟩|⟨out,ia,ib,ac,bc,rfl,ho,hia,hib,hxx⟩⟩
   ·exact wpS_pure ⟨lk2,_,_,_,_,_,rfl,hr⟩
   try dsimp -zeta only
   refine wpS_bind (wpS_lift (wpAny_rule ⟨rfl,?_⟩))
   try dsimp -zeta only
   refine wpS_bind (wpS_mono (wpS_forRange (I:=fun y c st'=>Like st st'/\∃out ia ib g ac bc,c=(none,out,ia,ib,g,ac,bc)/\OutL lt a b out ia ib/\ia+1<a.size/\ib<b.size/\x+2<=ia+ib)
    (Q:=fun c st'=>Like st st'/\((∃r out ia ib g ac bc,c=(some r,out,ia,ib,g,ac,bc)/\Rs lt a b r)\/∃out ia ib g ac bc,c=(none,out,ia,ib,g,ac,bc)/\OutL lt a b out ia ib/\ia+1<a.size/\ib<b.size/\x+2<=ia+ib)) ?_ ?_ ⟨lk2,out,ia,ib,_,_,_,rfl,ho,hia,hib,hxx⟩) ?_)
   ·rintro y c st3 _ hy ⟨lk3,out,ia,ib,g3,ac,bc,rfl,ho,hia,hib,hxx⟩;dsimp only;refine wpS_mono (Q:=LoP lt a b st x) ?_ (fun r st' h=>by cases r <;> exact h)
    have loq:∀{st4},Like st st4->LoQ lt a b st4 (ia+ib) (LoP lt a b st x):=fun lk4=>⟨fun r out ia ib g ac bc hr=>⟨lk4,.inl ⟨r,out,ia,ib,g,ac,bc,rfl,hr⟩⟩,fun out ia ib g ac bc ho h1 h2 hN=>⟨⟨lk4,.inr ⟨out,ia,ib,g,ac,bc,rfl,ho,h1,h2,by lia⟩⟩,⟨lk4,out,ia,ib,g,ac,bc,rfl,ho,h1,h2,by lia⟩⟩⟩;by_cases g1:g3 > 1
    ·rw[if_pos g1];refine wpS_bind (wpS_modify ?_);have lk4:=lk3.trans (ZaE st3 (g3-1));refine wpS_bind (Zv (by lia) fun p0 h0 e0=>?_);refine wpS_bind (Zag o hc (lk4.kind.trans hk) (hb p0 h0) ha (by lia) (by lia) (Zfu SA _ _) fun k hk1 F1 F2=>?_)
     try dsimp -zeta only
     by_cases k0:k > 0
     ·rw[if_pos k0];have o1:=ho.extA SA (k:=k) (by lia) (fun x hx=>Zfd o SB e0 (ZkW F1 x hx));by_cases c1:(ia+k+1 == a.size)=true
      ·rw[if_pos c1];exact wpS_pure ⟨lk4,.inl ⟨_,_,_,_,_,_,_,rfl,(o1.lastL SA SB LA c1)⟩⟩
      rw[if_neg c1];by_cases c2:(ia+k == a.size)=true
      ·rw[if_pos c2];exact wpS_pure ⟨lk4,.inl ⟨_,_,_,_,_,_,_,rfl,(o1.doneA SB c2)⟩⟩
      rw[if_neg c2];have n1:ia+k+1<a.size:=by
       have h1 : ¬ ia+k+1=a.size:=fun e=>c1 (by simp[<- e]);have h2 : ¬ ia+k=a.size:=fun e=>c2 (by simp[<- e]);lia
      refine Zf2 o hc (lk4.kind.trans hk) ha hb SA SB LA (N:=ia+ib) (loq lk4) o1 n1 hib (by lia) (fun p e=>by rw[Z5 e e0];exact Zk2 F2 o) ?_;exact fun _ _=>rfl
     ·rw[if_neg k0];refine Zf2 o hc (lk4.kind.trans hk) ha hb SA SB LA (N:=ia+ib) (loq lk4) ho hia hib (Nat.le_refl _) (fun p e=>by rw[Z5 e e0];exact Zk2 (k:=0) (fun i _ hi=>F2 i (by lia) hi) o) ?_;exact fun _ _=>rfl
    ·rw[if_neg g1];refine wpS_bind (wpS_modify ?_);have lk4:=lk3.trans (ZaE st3 g3);refine wpS_bind (Zv (by lia) fun p0 h0 e0=>?_);refine wpS_bind (Zag o hc (lk4.kind.trans hk) (hb p0 h0) ha (by lia) (by lia) (Zfu SA _ _) fun k hk1 F1 F2=>?_)
     try dsimp -zeta only
     by_cases k0:k > 0
     ·rw[if_pos k0];have o1:=ho.extA SA (k:=k) (by lia) (fun x hx=>Zfd o SB e0 (ZkW F1 x hx));by_cases c1:(ia+k+1 == a.size)=true
      ·rw[if_pos c1];exact wpS_pure ⟨lk4,.inl ⟨_,_,_,_,_,_,_,rfl,(o1.lastL SA SB LA c1)⟩⟩
      rw[if_neg c1];by_cases c2:(ia+k == a.size)=true
      ·rw[if_pos c2];exact wpS_pure ⟨lk4,.inl ⟨_,_,_,_,_,_,_,rfl,(o1.doneA SB c2)⟩⟩
      rw[if_neg c2];have n1:ia+k+1<a.size:=by
       have h1 : ¬ ia+k+1=a.size:=fun e=>c1 (by simp[<- e]);have h2 : ¬ ia+k=a.size:=fun e=>c2 (by simp[<- e]);lia
      refine Zf2 o hc (lk4.kind.trans hk) ha hb SA SB LA (N:=ia+ib) (loq lk4) o1 n1 hib (by lia) (fun p e=>by rw[Z5 e e0];exact Zk2 F2 o) ?_;exact fun _ _=>rfl
     ·rw[if_neg k0];refine Zf2 o hc (lk4.kind.trans hk) ha hb SA SB LA (N:=ia+ib) (loq lk4) ho hia hib (Nat.le_refl _) (fun p e=>by rw[Z5 e e0];exact Zk2 (k:=0) (fun i _ hi=>F2 i (by lia) hi) o) ?_;exact fun _ _=>rfl
   ·rintro c st3 ⟨lk3,out,ia,ib,g3,ac,bc,rfl,ho,hia,hib,hxx⟩;exact⟨lk3,.inr ⟨_,_,_,_,_,_,rfl,ho,hia,hib,hxx⟩⟩
   ·rintro c st3 ⟨lk3,⟨r,out,ia,ib,g3,ac,bc,rfl,hr⟩|⟨out,ia,ib,g3,ac,bc,rfl,ho,hia,hib,hxx⟩⟩
    ·exact wpS_pure ⟨lk3,_,_,_,_,_,rfl,hr⟩
    ·try dsimp -zeta only
     refine wpS_bind (wpS_modify ?_);exact wpS_pure ⟨lk3.trans (ZaE _ _),_,_,_,_,rfl,ho,hia,hib,by lia⟩
 ·rintro c st1 ⟨lk,out,ia,ib,g,rfl,ho,hia,hib,hx⟩;exfalso;lia
 ·rintro c st1 ⟨lk,r,out,ia,ib,g,rfl,hr⟩;exact wpS_pure (h r st1 lk hr)
end
section
variable{lt:Keyed->Keyed->Bool}{a b out:Array Keyed}{na nb k:Nat}{p q:Keyed}
structure OutHL(lt:Keyed->Keyed->Bool)(a b out:Array Keyed)(na nb:Nat):Prop where
 perm:ZcG a b out na nb
 sort:So lt out.toList.reverse
 hiA:∀x∈out.toList,∀y∈a.toList.take na,Le lt y x
 hiB:∀x∈out.toList,∀y∈b.toList.take nb,Le lt y x
theorem Zb6(h1:1<=na)(hp:a[na-1]?= some p):a.toList.take na=a.toList.take (na-1) ++ [p]:=by
 have:=Zee (ZiX hp);rw[Nat.sub_add_cancel h1] at this;exact this
theorem So.take{l:List Keyed}(h:So lt l)(n:Nat):So lt (l.take n):=List.Pairwise.sublist (List.take_sublist n l) h
theorem So.last(h:So lt a.toList)(h1:1<=na)(hp:a[na-1]?= some p):∀y∈a.toList.take (na-1),Le lt y p:=fun y hy=>by
 have:=h.take na;rw[Zb6 h1 hp] at this;exact(List.pairwise_append.mp this).2.2 y hy p (List.mem_singleton.mpr rfl)
theorem ZeC(o:Swo lt)(h:So lt a.toList)(h1:1<=na)(hp:a[na-1]?= some p){x:Keyed}(hx:Le lt p x):∀y∈a.toList.take na,Le lt y x:=fun y hy=>by
 rw[Zb6 h1 hp] at hy;rcases List.mem_append.mp hy with hy|hy
 ·exact o.le_trans (h.last h1 hp y hy) hx
 ·rw[List.mem_singleton.mp hy];exact hx
theorem Zeg{l:List Keyed}{i j:Nat}(h:i<=j){y:Keyed}(hy:y∈l.take i):y∈l.take j:=by
 rw[show i=min i j by lia,<- List.take_take] at hy;exact List.mem_of_mem_take hy
theorem Zbr{l:List Keyed}{n:Nat}{y:Keyed}(h:y∈l.take n):∃i,i<n/\l[i]?= some y:=by
 obtain⟨i,hi⟩:=List.mem_iff_getElem?.mp h;have hik:i<n:=by
  have:=(List.getElem?_eq_some_iff.mp hi).1;rw[List.length_take] at this;lia
 rw[List.getElem?_take_of_lt hik] at hi;exact⟨i,hik,hi⟩
theorem ZbB{i j:Nat}{x:Keyed}(h:x∈(a.extract i j).toList):∃m,i<=m/\m<j/\a[m]?= some x:=by
 rw[Array.toList_extract,List.extract_eq_drop_take] at h;obtain⟨m,hm,e⟩:=Zbr h;rw[List.getElem?_drop] at e;exact⟨i+m,by lia,by lia,by rw[<- Array.getElem?_toList];exact e⟩
theorem Zkq(F:∀i,k<=i->i<na->BV lt false p a 0 i=false)(o:Swo lt):∀x∈(a.extract k na).toList,Le lt p x:=fun x hx=>by
 obtain⟨m,h1,h2,e⟩:=ZbB hx;have h3:=F m h1 h2;unfold BV at h3;rw[Nat.zero_add,e] at h3;have h4:(!lt p x)=false:=h3;exact o.le_of (by simpa using h4)
theorem Zgf(F:∀i,i<k->BV lt false p a 0 i=true):∀y∈a.toList.take k,Le lt y p:=fun y hy=>by
 obtain⟨i,hi,e⟩:=Zbr hy;have h3:=F i hi;unfold BV at h3;rw[Nat.zero_add,<- Array.getElem?_toList,e] at h3;have h4:(!lt p y)=true:=h3;show lt p y=false
 simpa using h4
theorem Zk6(F:∀i,k<=i->i<nb->BV lt true q b 0 i=false):∀x∈(b.extract k nb).toList,Le lt q x:=fun x hx=>by
 obtain⟨m,h1,h2,e⟩:=ZbB hx;have h3:=F m h1 h2;unfold BV at h3;rw[Nat.zero_add,e] at h3;exact h3
theorem Zjq(F:∀i,i<k->BV lt true q b 0 i=true)(o:Swo lt):∀y∈b.toList.take k,Le lt y q:=fun y hy=>by
 obtain⟨i,hi,e⟩:=Zbr hy;have h3:=F i hi;unfold BV at h3;rw[Nat.zero_add,<- Array.getElem?_toList,e] at h3;exact o.le_of h3
theorem Zgm(h:So lt out.toList.reverse)(hp:∀x∈out.toList,Le lt p x):So lt (out.push p).toList.reverse:=by
 rw[Array.toList_push,List.reverse_append];exact List.pairwise_cons.mpr ⟨fun x hx=>hp x (List.mem_reverse.mp hx),h⟩
theorem OutHL.pushA(h:OutHL lt a b out na nb)(SA:So lt a.toList)(h1:1<=na)(hp:a[na-1]?= some p)(hb:∀y∈b.toList.take nb,Le lt y p):OutHL lt a b (out.push p) (na-1) nb:=by
 have hm:p∈a.toList.take na:=by rw[Zb6 h1 hp];exact List.mem_append_right _ (List.mem_singleton.mpr rfl)
 refine⟨h.perm.pushA h1 hp,Zgm h.sort fun x hx=>h.hiA x hx p hm,fun x hx y hy=>?_,fun x hx y hy=>?_⟩
 ·rcases mem_push hx with hx|rfl
  ·exact h.hiA x hx y (Zeg (by lia) hy)
  ·exact SA.last h1 hp y hy
 ·rcases mem_push hx with hx|rfl
  ·exact h.hiB x hx y hy
  ·exact hb y hy
theorem OutHL.pushB(h:OutHL lt a b out na nb)(SB:So lt b.toList)(h1:1<=nb)(hp:b[nb-1]?= some p)(ha:∀y∈a.toList.take na,Le lt y p):OutHL lt a b (out.push p) na (nb-1):=by
 have hm:p∈b.toList.take nb:=by rw[Zb6 h1 hp];exact List.mem_append_right _ (List.mem_singleton.mpr rfl)
 refine⟨h.perm.pushB h1 hp,Zgm h.sort fun x hx=>h.hiB x hx p hm,fun x hx y hy=>?_,fun x hx y hy=>?_⟩
 ·rcases mem_push hx with hx|rfl
  ·exact h.hiA x hx y hy
  ·exact ha y hy
 ·rcases mem_push hx with hx|rfl
  ·exact h.hiB x hx y (Zeg (by lia) hy)
  ·exact SB.last h1 hp y hy
theorem Zjg(h:So lt a.toList)(i j:Nat):So lt (a.extract i j).toList:=by
 rw[Array.toList_extract,List.extract_eq_drop_take];exact(h.drop i).take _
theorem Zim{i j:Nat}{x:Keyed}(h:x∈(a.extract i j).toList):x∈a.toList.take j:=by
 obtain⟨m,h1,h2,e⟩:=ZbB h;rw[<- Array.getElem?_toList] at e;refine List.mem_iff_getElem?.mpr ⟨m,?_⟩;rw[List.getElem?_take_of_lt h2];exact e
theorem ZdJ(h:So lt a.toList){i j:Nat}{x y:Keyed}(hy:y∈a.toList.take i)(hx:x∈(a.extract i j).toList):Le lt y x:=by
 obtain⟨m,h1,h2,e⟩:=ZbB hx;obtain⟨l,hl,e2⟩:=Zbr hy;rw[Array.getElem?_toList] at e2;exact Zfu h 0 (m+1) l m _ _ (Nat.zero_le _) (by lia) (by lia) e2 e
theorem OutHL.extA(h:OutHL lt a b out na nb)(SA:So lt a.toList)(hk:k<=na)(hb:∀x∈(a.extract k na).toList,∀y∈b.toList.take nb,Le lt y x):OutHL lt a b (out++(a.extract k na).reverse) k nb:=by
 have hm:∀x,x∈(out++(a.extract k na).reverse).toList->x∈out.toList\/x∈(a.extract k na).toList:=fun x hx=>by
  rw[Array.toList_append,Array.toList_reverse] at hx;rcases List.mem_append.mp hx with hx|hx
  ·exact .inl hx
  ·exact .inr (List.mem_reverse.mp hx)
 refine⟨h.perm.extA hk,?_,fun x hx y hy=>?_,fun x hx y hy=>?_⟩
 ·rw[Array.toList_append,Array.toList_reverse,List.reverse_append,List.reverse_reverse];exact List.pairwise_append.mpr ⟨Zjg SA _ _,h.sort,fun x hx y hy=>h.hiA y (List.mem_reverse.mp hy) x (Zim hx)⟩
 ·rcases hm x hx with hx|hx
  ·exact h.hiA x hx y (Zeg (by lia) hy)
  ·exact ZdJ SA hy hx
 ·rcases hm x hx with hx|hx
  ·exact h.hiB x hx y hy
  ·exact hb x hx y hy
theorem OutHL.extB(h:OutHL lt a b out na nb)(SB:So lt b.toList)(hk:k<=nb)(ha:∀x∈(b.extract k nb).toList,∀y∈a.toList.take na,Le lt y x):OutHL lt a b (out++(b.extract k nb).reverse) na k:=by
 have hm:∀x,x∈(out++(b.extract k nb).reverse).toList->x∈out.toList\/x∈(b.extract k nb).toList:=fun x hx=>by
  rw[Array.toList_append,Array.toList_reverse] at hx;rcases List.mem_append.mp hx with hx|hx
  ·exact .inl hx
  ·exact .inr (List.mem_reverse.mp hx)
 refine⟨h.perm.extB hk,?_,fun x hx y hy=>?_,fun x hx y hy=>?_⟩
 ·rw[Array.toList_append,Array.toList_reverse,List.reverse_append,List.reverse_reverse];exact List.pairwise_append.mpr ⟨Zjg SB _ _,h.sort,fun x hx y hy=>h.hiB y (List.mem_reverse.mp hy) x (Zim hx)⟩
 ·rcases hm x hx with hx|hx
  ·exact h.hiA x hx y hy
  ·exact ha x hx y hy
 ·rcases hm x hx with hx|hx
  ·exact h.hiB x hx y (Zeg (by lia) hy)
  ·exact ZdJ SB hy hx
theorem OutHL.doneA(h:OutHL lt a b out na nb)(SB:So lt b.toList)(e:(na == 0)=true):Rs lt a b (a.extract 0 na++b.extract 0 nb++out.reverse):=by
 refine⟨h.perm.done,?_⟩;rw[Array.toList_append,Array.toList_append,ex0,ex0,Array.toList_reverse,eq_of_beq e,List.take_zero,List.nil_append];exact List.pairwise_append.mpr ⟨SB.take nb,h.sort,fun x hx y hy=>h.hiB y (List.mem_reverse.mp hy) x hx⟩
theorem OutHL.doneB(h:OutHL lt a b out na nb)(SA:So lt a.toList)(e:(nb == 0)=true):Rs lt a b (a.extract 0 na++b.extract 0 nb++out.reverse):=by
 refine⟨h.perm.done,?_⟩;rw[Array.toList_append,Array.toList_append,ex0,ex0,Array.toList_reverse,eq_of_beq e,List.take_zero,List.append_nil];exact List.pairwise_append.mpr ⟨SA.take na,h.sort,fun x hx y hy=>h.hiA y (List.mem_reverse.mp hy) x hx⟩
theorem OutHL.firstL(h:OutHL lt a b out na nb)(SA:So lt a.toList)(SB:So lt b.toList)(hb0:∀p,b[0]?= some p->∀y∈a.toList,Le lt p y)(e:(nb == 1)=true):Rs lt a b (b.extract 0 nb++a.extract 0 na++out.reverse):=by
 refine⟨h.perm.first,?_⟩
 rw[Array.toList_append,Array.toList_append,ex0,ex0,Array.toList_reverse];refine List.pairwise_append.mpr ⟨List.pairwise_append.mpr ⟨SB.take nb,SA.take na,fun x hx y hy=>?_⟩,h.sort,fun x hx y hy=>?_⟩
 ·obtain⟨i,hi,e2⟩:=Zbr hx;rw[eq_of_beq e] at hi;obtain rfl:i=0:=by lia
  rw[Array.getElem?_toList] at e2;exact hb0 x e2 y (List.mem_of_mem_take hy)
 ·rcases List.mem_append.mp hx with hx|hx
  ·exact h.hiB y (List.mem_reverse.mp hy) x hx
  ·exact h.hiA y (List.mem_reverse.mp hy) x hx
theorem Zkz(SA:So lt a.toList)(h1:1<=a.size)(hp:a[a.size-1]?= some p)(LA:∀x∈b.toList,∀q,a[a.size-1]?= some q->Le lt x q):OutHL lt a b #[p] (a.size-1) b.size:=by
 refine⟨Zlr h1 hp,List.pairwise_singleton _ _,fun x hx y hy=>?_,fun x hx y hy=>?_⟩
 ·obtain rfl:x=p:=by simpa using hx
  exact SA.last h1 hp y hy
 ·obtain rfl:x=p:=by simpa using hx
  exact LA y (List.mem_of_mem_take hy) x hp
end
section
variable{prog:Program}{w:World}{A:Around}{E:Value->Shared->Prop}{s:Shared}{κ : SortKind}{Ok:Keyed->Prop}{st:SortSt}{lt:Keyed->Keyed->Bool}
abbrev HiT:=Option (Array Keyed)×Nat×Nat×Array Keyed×Nat×Nat×Nat
def hi3(a b:Array Keyed)(na nb:Nat)(out:Array Keyed)(g ac bc:Nat):StateT SortSt Sem (ForInStep HiT) :=
 elem' a (na-1) >>= fun p=>if(na-1 == 0)=true then pure (.done (some (a.extract 0 (na-1)++b.extract 0 nb++(out.push p).reverse),na-1,nb,out.push p,g,ac,bc))
  else if(decide (ac<7)&&decide (bc<7))=true then pure (.done (none,na-1,nb,out.push p,g,ac,bc)) else pure (.yield (none,na-1,nb,out.push p,g,ac,bc))
structure HiQ(lt:Keyed->Keyed->Bool)(a b:Array Keyed)(st:SortSt)(N:Nat)(Q:ForInStep HiT->SortSt->Prop):Prop where
 R:∀r na nb out g ac bc,Rs lt a b r->Q (.done (some r,na,nb,out,g,ac,bc)) st
 N:∀na nb out g ac bc,OutHL lt a b out na nb->1<=na->na<=a.size->2<=nb->nb<=b.size->na+nb<=N->Q (.done (none,na,nb,out,g,ac,bc)) st/\Q (.yield (none,na,nb,out,g,ac,bc)) st
def HiP(lt:Keyed->Keyed->Bool)(a b:Array Keyed)(st:SortSt)(x:Nat):ForInStep HiT->SortSt->Prop:=fun r st'=>match r with
 | .done c=>Like st st'/\((∃r na nb out g ac bc,c=(some r,na,nb,out,g,ac,bc)/\Rs lt a b r)\/∃na nb out g ac bc,c=(none,na,nb,out,g,ac,bc)/\OutHL lt a b out na nb/\1<=na/\na<=a.size/\2<=nb/\nb<=b.size/\na+nb+x+2<=a.size+b.size)
 | .yield c=>Like st st'/\∃na nb out g ac bc,c=(none,na,nb,out,g,ac,bc)/\OutHL lt a b out na nb/\1<=na/\na<=a.size/\2<=nb/\nb<=b.size/\na+nb+x+2<=a.size+b.size
section
variable{a b out:Array Keyed}{na nb g ac bc N:Nat}{Q:ForInStep HiT->SortSt->Prop}
theorem Zjw(SA:So lt a.toList)(SB:So lt b.toList)(q:HiQ lt a b st N Q)(ho:OutHL lt a b out na nb)(h1:1<=na)(h2:na<=a.size)(h3:2<=nb)(h4:nb<=b.size)(hN:na+nb<=N)(hp:∀p,a[na-1]?= some p->∀y∈b.toList.take nb,Le lt y p) :
  wpS (model prog w) A E s (hi3 a b na nb out g ac bc) Q st:=by
 unfold hi3;refine wpS_bind (Zv (by lia) fun p4 w4 e4=>?_);have o4:=ho.pushA SA h1 e4 (hp p4 e4);by_cases f1:(na-1 == 0)=true
 ·rw[if_pos f1];exact wpS_pure (q.R _ _ _ _ _ _ _ (o4.doneA SB f1))
 rw[if_neg f1];have n4 : ¬ na-1=0:=fun e=>f1 (by simp[e]);have z:=q.N _ _ _ g ac bc o4 (by lia) (by lia) h3 h4 (by lia);by_cases f2:(decide (ac<7)&&decide (bc<7))=true
 ·rw[if_pos f2];exact wpS_pure z.1
 ·rw[if_neg f2];exact wpS_pure z.2
theorem ZfZ(o:Swo lt)(hc:ZgP prog w A s κ Ok lt)(hk:kindOf st= κ)(ha:∀p∈a.toList,Ok p)(hb:∀p∈b.toList,Ok p)(hb0:∀p,b[0]?= some p->∀y∈a.toList,Le lt p y)(SA:So lt a.toList)(SB:So lt b.toList)(q:HiQ lt a b st N Q)(ho:OutHL lt a b out na nb)(h1:1<=na)(h2:na<=a.size)(h3:2<=nb)(h4:nb<=b.size)(hN:na+nb<=N)(hp:∀p,b[nb-1]?= some p->∀y∈a.toList.take na,Le lt y p)
  {T:Keyed->Option Nat->StateT SortSt Sem (ForInStep HiT)} (hT:∀p k,T p (some k)=if nb-1-k > 0 then(if(k == 1)=true then pure (.done (some (b.extract 0 k++a.extract 0 na++(out.push p++(b.extract k (nb-1)).reverse).reverse),na,k,out.push p++(b.extract k (nb-1)).reverse,g,ac,nb-1-k))
     else if(k == 0)=true then pure (.done (some (a.extract 0 na++b.extract 0 k++(out.push p++(b.extract k (nb-1)).reverse).reverse),na,k,out.push p++(b.extract k (nb-1)).reverse,g,ac,nb-1-k))
     else hi3 a b na k (out.push p++(b.extract k (nb-1)).reverse) g ac (nb-1-k))
    else hi3 a b na (nb-1) (out.push p) g ac (nb-1-k)) :
  wpS (model prog w) A E s (elem' b (nb-1) >>= fun p=>if(nb-1 == 1)=true then pure (.done (some (b.extract 0 (nb-1)++a.extract 0 na++(out.push p).reverse),na,nb-1,out.push p,g,ac,bc))
   else elem' a (na-1) >>= fun q=>Zfo true q b 0 (nb-1) (nb-1-1) >>= T p) Q st:=by
 refine wpS_bind (Zv (by lia) fun p3 w3 e3=>?_);have o2:=ho.pushB SB (by lia) e3 (hp p3 e3);by_cases c3:(nb-1 == 1)=true
 ·rw[if_pos c3];exact wpS_pure (q.R _ _ _ _ _ _ _ (o2.firstL SA SB hb0 c3))
 rw[if_neg c3];have n3 : ¬ nb-1=1:=fun e=>c3 (by simp[e]);refine wpS_bind (Zv (by lia) fun q3 v3 u3=>?_);refine wpS_bind (Zag o hc hk (ha q3 v3) hb (by lia) (by lia) (Zfu SB _ _) fun k2 hk2 G1 G2=>?_);rw[hT];by_cases k20:nb-1-k2 > 0
 ·rw[if_pos k20];have o3:=o2.extB SB (k:=k2) (by lia) (fun x hx=>ZeC o SA (by lia) u3 (Zk6 G2 x hx));by_cases c4:(k2 == 1)=true
  ·rw[if_pos c4];exact wpS_pure (q.R _ _ _ _ _ _ _ (o3.firstL SA SB hb0 c4))
  rw[if_neg c4];by_cases c5:(k2 == 0)=true
  ·rw[if_pos c5];exact wpS_pure (q.R _ _ _ _ _ _ _ (o3.doneB SA c5))
  rw[if_neg c5];have n5 : ¬ k2=1:=fun e=>c4 (by simp[e]);have n6 : ¬ k2=0:=fun e=>c5 (by simp[e]);exact Zjw SA SB q o3 h1 h2 (by lia) (by lia) (by lia) fun p e=>by rw[Z5 e u3];exact Zjq G1 o
 ·rw[if_neg k20];exact Zjw SA SB q o2 h1 h2 (by lia) (by lia) (by lia) fun p e=>by rw[Z5 e u3];exact Zjq (fun i hi=>G1 i (by lia)) o
end
set_option maxHeartbeats 2000000 in
theorem ZeN{a b:Array Keyed}{Q:Array Keyed->SortSt->Prop}(o:Swo lt)(hc:ZgP prog w A s κ Ok lt)(hk:kindOf st= κ)(ha:∀p∈a.toList,Ok p)(hb:∀p∈b.toList,Ok p)(ha1:1<=a.size)(hb1:1<=b.size)(SA:So lt a.toList)(SB:So lt b.toList)(hb0:∀p,b[0]?= some p->∀y∈a.toList,Le lt p y)(LA:∀x∈b.toList,∀q,a[a.size-1]?= some q->Le lt x q)
  (h:∀r st',Like st st'->Rs lt a b r->Q r st'):wpS (model prog w) A E s (ZiJ a b) Q st:=by
 refine wpS_bind (wpS_lift (wpAny_rule ⟨rfl,?_⟩));refine wpS_bind (Zv (by lia) fun p hp he=>?_)
 try dsimp -zeta only
 have o0:OutHL lt a b #[p] (a.size-1) b.size:=Zkz SA ha1 he LA;by_cases c1:(a.size-1 == 0)=true
 ·rw[if_pos c1];exact wpS_pure (h _ _ (Like.refl _) (o0.doneA SB c1))
 rw[if_neg c1];by_cases c2:(b.size == 1)=true
 ·rw[if_pos c2];exact wpS_pure (h _ _ (Like.refl _) (o0.firstL SA SB hb0 c2))
 rw[if_neg c2];have n1:1<b.size:=by
  have : ¬ b.size=1:=fun e=>c2 (by simp[e]);lia
 have n2:1<a.size:=by
  have : ¬ a.size-1=0:=fun e=>c1 (by simp[e]);lia
 refine wpS_bind (wpS_get ?_);refine wpS_bind (wpS_mono (wpS_forRange (I:=fun x c st'=>Like st st'/\∃na nb out g,c=(none,na,nb,out,g)/\OutHL lt a b out na nb/\1<=na/\na<=a.size/\2<=nb/\nb<=b.size/\na+nb+x+1<=a.size+b.size)
  (Q:=fun c st'=>Like st st'/\∃r na nb out g,c=(some r,na,nb,out,g)/\Rs lt a b r) ?_ ?_ ⟨Like.refl _,_,_,_,_,rfl,o0,by lia,by lia,by lia,by lia,by lia⟩) ?_)
 ·rintro x c st1 _ hx ⟨lk,na,nb,out,g,rfl,ho,h1,h2,h3,h4,hxx⟩
  try dsimp -zeta only
  refine wpS_bind (wpS_mono (wpS_forRange (I:=fun y c st'=>Like st st'/\∃na nb out ac bc,c=(none,na,nb,out,ac,bc)/\OutHL lt a b out na nb/\1<=na/\na<=a.size/\2<=nb/\nb<=b.size/\na+nb+x+1+(if y=0 then 0 else 1)<=a.size+b.size)
   (Q:=fun c st'=>Like st st'/\((∃r na nb out ac bc,c=(some r,na,nb,out,ac,bc)/\Rs lt a b r)\/∃na nb out ac bc,c=(none,na,nb,out,ac,bc)/\OutHL lt a b out na nb/\1<=na/\na<=a.size/\2<=nb/\nb<=b.size/\na+nb+x+2<=a.size+b.size)) ?_ ?_ ⟨lk,na,nb,out,0,0,rfl,ho,h1,h2,h3,h4,by simp;lia⟩) ?_)
  ·rintro y c st2 _ hy ⟨lk2,na,nb,out,ac,bc,rfl,ho,h1,h2,h3,h4,hxx⟩;have hxx2:na+nb+x+1<=a.size+b.size:=by split at hxx <;> lia
   try dsimp only
   refine wpS_bind (Zv (by lia) fun p hp ep=>?_);refine wpS_bind (Zv (by lia) fun q hq eq=>?_);refine wpS_bind (ZcY hc (lk2.kind.trans hk) (hb p hp) (ha q hq) ?_);cases hbw:lt p q with
   | true =>
    try dsimp only
    rw[if_pos rfl];refine wpS_bind (Zv (by lia) fun p2 hp2 ep2=>?_);have o1:=ho.pushA SA h1 ep2 (by rw[Z5 ep2 eq];exact ZeC o SB (by lia) ep (o.le_of hbw));by_cases d1:(na-1 == 0)=true
    ·rw[if_pos d1];exact wpS_pure ⟨lk2,.inl ⟨_,_,_,_,_,_,rfl,(o1.doneA SB d1)⟩⟩
    rw[if_neg d1];have m1 : ¬ na-1=0:=fun e=>d1 (by simp[e]);by_cases d2:ac+1>=g
    ·rw[if_pos d2];exact wpS_pure ⟨lk2,.inr ⟨_,_,_,_,_,rfl,o1,by lia,by lia,h3,h4,by lia⟩⟩
    ·rw[if_neg d2];exact wpS_pure ⟨lk2,_,_,_,_,_,rfl,o1,by lia,by lia,h3,h4,by rw[if_neg (by lia)];lia⟩
   | false =>
    try dsimp only
    rw[if_neg Bool.false_ne_true];refine wpS_bind (Zv (by lia) fun p2 hp2 ep2=>?_);have o1:=ho.pushB SB (by lia) ep2 (by rw[Z5 ep2 ep];exact ZeC o SA h1 eq hbw);by_cases d1:(nb-1 == 1)=true
    ·rw[if_pos d1];exact wpS_pure ⟨lk2,.inl ⟨_,_,_,_,_,_,rfl,(o1.firstL SA SB hb0 d1)⟩⟩
    rw[if_neg d1];have m1 : ¬ nb-1=1:=fun e=>d1 (by simp[e]);by_cases d2:bc+1>=g
    ·rw[if_pos d2];exact wpS_pure ⟨lk2,.inr ⟨_,_,_,_,_,rfl,o1,h1,h2,by lia,by lia,by lia⟩⟩
    ·rw[if_neg d2];exact wpS_pure ⟨lk2,_,_,_,_,_,rfl,o1,h1,h2,by lia,by lia,by rw[if_neg (by lia)];lia⟩
  ·rintro c st2 ⟨lk2,na,nb,out,ac,bc,rfl,ho,h1,h2,h3,h4,hxx⟩;refine⟨lk2,.inr ⟨_,_,_,_,_,rfl,ho,h1,h2,h3,h4,?_⟩⟩;rw[if_neg (by lia)] at hxx;lia
  ·rintro c st2 ⟨lk2,⟨r,na,nb,out,ac,bc,rfl,hr⟩|⟨na,nb,out,ac,bc,rfl,ho,h1,h2,h3,h4,hxx⟩⟩
   ·exact wpS_pure ⟨lk2,_,_,_,_,_,rfl,hr⟩
   try dsimp -zeta only
   refine wpS_bind (wpS_lift (wpAny_rule ⟨rfl,?_⟩))
   try dsimp -zeta only
   refine wpS_bind (wpS_mono (wpS_forRange (I:=fun y c st'=>Like st st'/\∃na nb out g ac bc,c=(none,na,nb,out,g,ac,bc)/\OutHL lt a b out na nb/\1<=na/\na<=a.size/\2<=nb/\nb<=b.size/\na+nb+x+2<=a.size+b.size)
    (Q:=fun c st'=>Like st st'/\((∃r na nb out g ac bc,c=(some r,na,nb,out,g,ac,bc)/\Rs lt a b r)\/∃na nb out g ac bc,c=(none,na,nb,out,g,ac,bc)/\OutHL lt a b out na nb/\1<=na/\na<=a.size/\2<=nb/\nb<=b.size/\na+nb+x+2<=a.size+b.size)) ?_ ?_ ⟨lk2,na,nb,out,_,_,_,rfl,ho,h1,h2,h3,h4,hxx⟩) ?_)
   ·rintro y c st3 _ hy ⟨lk3,na,nb,out,g3,ac,bc,rfl,ho,h1,h2,h3,h4,hxx⟩
    try dsimp only
    refine wpS_mono (Q:=HiP lt a b st x) ?_ (fun r st' h=>by cases r <;> exact h)
    have hiq:∀{st4},Like st st4->HiQ lt a b st4 (na+nb) (HiP lt a b st x):=fun lk4=>⟨fun r na nb out g ac bc hr=>⟨lk4,.inl ⟨r,na,nb,out,g,ac,bc,rfl,hr⟩⟩,fun na nb out g ac bc ho h1 h2 h3 h4 hN=>⟨⟨lk4,.inr ⟨na,nb,out,g,ac,bc,rfl,ho,h1,h2,h3,h4,by lia⟩⟩,⟨lk4,na,nb,out,g,ac,bc,rfl,ho,h1,h2,h3,h4,by lia⟩⟩⟩;by_cases g1:g3 > 1
    ·rw[if_pos g1];refine wpS_bind (wpS_modify ?_);have lk4:=lk3.trans (ZaE st3 (g3-1));refine wpS_bind (Zv (by lia) fun p0 w0 e0=>?_);refine wpS_bind (Zag o hc (lk4.kind.trans hk) (hb p0 w0) ha (by lia) (by lia) (Zfu SA _ _) fun k hk1 F1 F2=>?_);dsimp only;by_cases k0:na-k > 0
     ·rw[if_pos k0];have o1:=ho.extA SA (k:=k) (by lia) (fun x hx=>ZeC o SB (by lia) e0 (Zkq F2 o x hx));by_cases c1:(k == 0)=true
      ·rw[if_pos c1];exact wpS_pure ⟨lk4,.inl ⟨_,_,_,_,_,_,_,rfl,(o1.doneA SB c1)⟩⟩
      rw[if_neg c1];have n1 : ¬ k=0:=fun e=>c1 (by simp[e]);refine ZfZ o hc (lk4.kind.trans hk) ha hb hb0 SA SB (N:=na+nb) (hiq lk4) o1 (by lia) (by lia) h3 h4 (by lia) (fun p e=>by rw[Z5 e e0];exact Zgf F1) ?_;exact fun _ _=>rfl
     ·rw[if_neg k0];refine ZfZ o hc (lk4.kind.trans hk) ha hb hb0 SA SB (N:=na+nb) (hiq lk4) ho h1 h2 h3 h4 (Nat.le_refl _) (fun p e=>by rw[Z5 e e0];exact Zgf fun i hi=>F1 i (by lia)) ?_;exact fun _ _=>rfl
    ·rw[if_neg g1];refine wpS_bind (wpS_modify ?_);have lk4:=lk3.trans (ZaE st3 g3);refine wpS_bind (Zv (by lia) fun p0 w0 e0=>?_);refine wpS_bind (Zag o hc (lk4.kind.trans hk) (hb p0 w0) ha (by lia) (by lia) (Zfu SA _ _) fun k hk1 F1 F2=>?_);dsimp only;by_cases k0:na-k > 0
     ·rw[if_pos k0];have o1:=ho.extA SA (k:=k) (by lia) (fun x hx=>ZeC o SB (by lia) e0 (Zkq F2 o x hx));by_cases c1:(k == 0)=true
      ·rw[if_pos c1];exact wpS_pure ⟨lk4,.inl ⟨_,_,_,_,_,_,_,rfl,(o1.doneA SB c1)⟩⟩
      rw[if_neg c1];have n1 : ¬ k=0:=fun e=>c1 (by simp[e]);refine ZfZ o hc (lk4.kind.trans hk) ha hb hb0 SA SB (N:=na+nb) (hiq lk4) o1 (by lia) (by lia) h3 h4 (by lia) (fun p e=>by rw[Z5 e e0];exact Zgf F1) ?_;exact fun _ _=>rfl
     ·rw[if_neg k0];refine ZfZ o hc (lk4.kind.trans hk) ha hb hb0 SA SB (N:=na+nb) (hiq lk4) ho h1 h2 h3 h4 (Nat.le_refl _) (fun p e=>by rw[Z5 e e0];exact Zgf fun i hi=>F1 i (by lia)) ?_;exact fun _ _=>rfl
   ·rintro c st3 ⟨lk3,na,nb,out,g3,ac,bc,rfl,ho,h1,h2,h3,h4,hxx⟩;exact⟨lk3,.inr ⟨_,_,_,_,_,_,rfl,ho,h1,h2,h3,h4,hxx⟩⟩
   ·rintro c st3 ⟨lk3,⟨r,na,nb,out,g3,ac,bc,rfl,hr⟩|⟨na,nb,out,g3,ac,bc,rfl,ho,h1,h2,h3,h4,hxx⟩⟩
    ·exact wpS_pure ⟨lk3,_,_,_,_,_,rfl,hr⟩
    ·try dsimp only
     refine wpS_bind (wpS_modify ?_);exact wpS_pure ⟨lk3.trans (ZaE _ _),_,_,_,_,rfl,ho,h1,h2,h3,h4,by lia⟩
 ·rintro c st1 ⟨lk,na,nb,out,g,rfl,ho,h1,h2,h3,h4,hx⟩;exfalso;lia
 ·rintro c st1 ⟨lk,r,na,nb,out,g,rfl,hr⟩;exact wpS_pure (h r st1 lk hr)
end
structure Pl(lo hi:Nat)(st st':SortSt):Prop where
 pm:Pm st st'
 out:∀i,i<lo\/hi<=i->(arrOf st')[i]?= (arrOf st)[i]?
theorem Pl.refl(lo hi:Nat)(st:SortSt):Pl lo hi st st:=⟨Pm.refl _,fun _ _=>rfl⟩
theorem Pl.trans{lo hi:Nat}{a b c:SortSt}(x:Pl lo hi a b)(y:Pl lo hi b c):Pl lo hi a c:=⟨x.pm.trans y.pm,fun i h=>(y.out i h).trans (x.out i h)⟩
theorem Pl.mirror{lo hi i j:Nat}(st:SortSt)(h1:lo<=i)(h2:j<=hi)(hj:j<=(arrOf st).size):Pl lo hi st (setArr st (mirror (arrOf st) i j ((j-i) / 2))):=⟨Pm.mirror st i j,fun k hk=>by
 show(PyProof.Rows.mirror (arrOf st) i j ((j-i) / 2))[k]?= _;rw[getElem?_mirror_all hj,if_neg (by lia)]⟩
theorem Pl.bubble{lo hi src dst:Nat}(st:SortSt)(h1:lo<=dst)(h2:dst<=src)(h3:src<hi)(hs:src<(arrOf st).size):Pl lo hi st (setArr st (bubble (arrOf st) src (src-dst))):=⟨Pm.bubble st src dst,fun k hk=>by
 show(PyProof.Rows.bubble (arrOf st) src (src-dst))[k]?= _;rw[getElem?_bubble hs _ (by lia),if_neg (by lia),if_neg (by lia)]⟩
section
variable{lt:Keyed->Keyed->Bool}{arr:Array Keyed}{lo hi m:Nat}{p q:Keyed}
def Dn(lt:Keyed->Keyed->Bool)(arr:Array Keyed)(i j:Nat):Prop := ∀x y p q,i<=x->x<y->y<j->arr[x]?= some p->arr[y]?= some q->Le lt q p
def Eqv(lt:Keyed->Keyed->Bool)(arr:Array Keyed)(i j:Nat):Prop := ∀x y p q,i<=x->x<j->i<=y->y<j->arr[x]?= some p->arr[y]?= some q->Le lt p q
theorem Zjj:Up lt arr lo (lo+1):=fun x y _ _ h1 h2 h3=>by lia
theorem ZkG:Dn lt arr lo (lo+1):=fun x y _ _ h1 h2 h3=>by lia
theorem Up.ext(o:Swo lt)(h:Up lt arr lo m)(hm:lo<m)(hp:arr[m-1]?= some p)(hq:arr[m]?= some q)(hle:Le lt p q):Up lt arr lo (m+1):=fun x y u v h1 h2 h3 eu ev=>by
 by_cases hy:y<m
 ·exact h x y u v h1 h2 hy eu ev
 obtain rfl:y=m:=by lia
 rw[hq] at ev;cases ev;by_cases hx:x=y-1
 ·rw[hx,hp] at eu;cases eu;exact hle
 ·exact o.le_trans (h x (y-1) u p h1 (by lia) (by lia) eu hp) hle
theorem Dn.ext(o:Swo lt)(h:Dn lt arr lo m)(hm:lo<m)(hp:arr[m-1]?= some p)(hq:arr[m]?= some q)(hle:Le lt q p):Dn lt arr lo (m+1):=fun x y u v h1 h2 h3 eu ev=>by
 by_cases hy:y<m
 ·exact h x y u v h1 h2 hy eu ev
 obtain rfl:y=m:=by lia
 rw[hq] at ev;cases ev;by_cases hx:x=y-1
 ·rw[hx,hp] at eu;cases eu;exact hle
 ·exact o.le_trans hle (h x (y-1) u p h1 (by lia) (by lia) eu hp)
theorem Dn.mirror(h:Dn lt arr lo hi)(hs:hi<=arr.size):Up lt (mirror arr lo hi ((hi-lo) / 2)) lo hi:=fun x y u v h1 h2 h3 eu ev=>by
 rw[getElem?_mirror_all hs,if_pos (by lia)] at eu ev;exact h (lo+hi-1-y) (lo+hi-1-x) v u (by lia) (by lia) (by lia) ev eu
theorem Up.mirror(h:Up lt arr lo hi)(hs:hi<=arr.size):Dn lt (mirror arr lo hi ((hi-lo) / 2)) lo hi:=fun x y u v h1 h2 h3 eu ev=>by
 rw[getElem?_mirror_all hs,if_pos (by lia)] at eu ev;exact h (lo+hi-1-y) (lo+hi-1-x) v u (by lia) (by lia) (by lia) ev eu
theorem Dn.turn(h:Dn lt arr lo hi)(he:Eqv lt arr m hi)(hm:lo<=m)(hs:hi<=arr.size):Dn lt (PyProof.Rows.mirror arr m hi ((hi-m) / 2)) lo hi:=fun x y u v h1 h2 h3 eu ev=>by
 rw[getElem?_mirror_all hs] at eu ev;by_cases hy:m<=y/\y<hi
 ·rw[if_pos hy] at ev;by_cases hx:m<=x/\x<hi
  ·rw[if_pos hx] at eu;exact he _ _ _ _ (by lia) (by lia) (by lia) (by lia) ev eu
  ·rw[if_neg hx] at eu;exact h x (m+hi-1-y) u v h1 (by lia) (by lia) eu ev
 ·rw[if_neg hy] at ev;rw[if_neg (by lia)] at eu;exact h x y u v h1 h2 h3 eu ev
end
section
variable{prog:Program}{w:World}{A:Around}{E:Value->Shared->Prop}{s:Shared}{κ : SortKind}{Ok:Keyed->Prop}{st:SortSt}{lt:Keyed->Keyed->Bool}
theorem Zah{i j:Nat}{Q:Option Bool->SortSt->Prop}(hc:ZgP prog w A s κ Ok lt)(hk:kindOf st= κ)(ho:∀p∈(arrOf st).toList,Ok p)(hi:i<(arrOf st).size)(hj:j<(arrOf st).size)(h:∀p q,(arrOf st)[i]?= some p->(arrOf st)[j]?= some q->Q (some (lt p q)) st):wpS (model prog w) A E s (ltAt' i j) Q st:=by
 rw[ltAt'_eq];refine wpS_bind (wpS_get ?_);refine wpS_bind (Zv hi fun p hp e1=>wpS_bind (Zv hj fun q hq e2=>?_));exact ZcY hc hk (ho p hp) (ho q hq) (h p q e1 e2)
theorem ZaV{i j:Nat}{Q:PUnit->SortSt->Prop}(h:Q ⟨⟩ (setArr st (mirror (arrOf st) i j ((j-i) / 2)))):wpS (model prog w) A E s (reverseSlice' i j) Q st:=by
 rw[reverseSlice'_eq];exact wpS_modify h
theorem ZhB{i j:Nat}{Q:PUnit->SortSt->Prop}(h:Q ⟨⟩ (setArr st (bubble (arrOf st) i (i-j)))):wpS (model prog w) A E s (moveDown' i j) Q st:=by
 rw[moveDown'_eq];exact wpS_modify h
theorem ZkS(o:Swo lt){arr:Array Keyed}{lo k l:Nat}{pv:Keyed}(h:Up lt arr lo (lo+k))(hs:lo+k<arr.size)(hl:l<=k)(ep:arr[lo+k]?= some pv)(h1:∀i p,i<l->arr[lo+i]?= some p->Le lt p pv)(h2:∀i p,l<=i->i<k->arr[lo+i]?= some p->lt pv p=true) :
  Up lt (bubble arr (lo+k) (lo+k-(lo+l))) lo (lo+k+1):=fun x y u v a1 a2 a3 eu ev=>by
 rw[getElem?_bubble hs _ (by lia)] at eu ev;rw[show lo+k-(lo+k-(lo+l))=lo+l by lia] at eu ev;by_cases hy:y=lo+l
 ·rw[if_pos hy,ep] at ev;cases ev;rw[if_neg (by lia),if_neg (by lia)] at eu;exact h1 (x-lo) u (by lia) (by rw[show lo+(x-lo)=x by lia];exact eu)
 rw[if_neg hy] at ev;by_cases hx:x=lo+l
 ·rw[if_pos hx,ep] at eu;cases eu;rw[if_pos (by lia)] at ev;exact o.le_of (h2 (y-1-lo) v (by lia) (by lia) (by rw[show lo+(y-1-lo)=y-1 by lia];exact ev))
 rw[if_neg hx] at eu;by_cases hy2:lo+l<y/\y<=lo+k
 ·rw[if_pos hy2] at ev;by_cases hx2:lo+l<x/\x<=lo+k
  ·rw[if_pos hx2] at eu;exact h (x-1) (y-1) u v (by lia) (by lia) (by lia) eu ev
  ·rw[if_neg hx2] at eu;exact h x (y-1) u v (by lia) (by lia) (by lia) eu ev
 ·rw[if_neg hy2] at ev;rw[if_neg (by lia)] at eu;exact h x y u v (by lia) (by lia) (by lia) eu ev
set_option maxHeartbeats 1000000 in
theorem Zfj{lo n ok:Nat}{Q:Bool->SortSt->Prop}(o:Swo lt)(hc:ZgP prog w A s κ Ok lt)(hk:kindOf st= κ)(ho:∀p∈(arrOf st).toList,Ok p)(hn:lo+n<=(arrOf st).size)(hok:ok<=n)(hn1:1<=n)(hu:Up lt (arrOf st) lo (lo+ok))(h:∀st',Pl lo (lo+n) st st'->Up lt (arrOf st') lo (lo+n)->Q true st'):wpS (model prog w) A E s (binarySort' lo n ok) Q st:=by
 have hu0:Up lt (arrOf st) lo (lo+max ok 1):=by
  by_cases h0:ok=0
  ·rw[h0];exact Zjj
  ·rw[show max ok 1=ok by lia];exact hu
 refine wpS_bind (wpS_mono (wpS_forRange (I:=fun x c st'=>c=(none,())/\Pl lo (lo+n) st st'/\Up lt (arrOf st') lo (lo+x)) (Q:=fun c st'=>c=(none,())/\Pl lo (lo+n) st st'/\Up lt (arrOf st') lo (lo+n)) ?_ ?_ ⟨rfl,Pl.refl _ _ _,hu0⟩) ?_)
 ·rintro k c st1 hk1 hkn ⟨rfl,pl,u1⟩
  try dsimp only
  have hsz:=pl.pm.size;obtain⟨pv,epv⟩:∃pv,(arrOf st1)[lo+k]?= some pv:=⟨_,getElem?_pos _ (lo+k) (by lia)⟩;refine wpS_bind (wpS_mono (wpS_forRange (I:=fun y c st'=>st'=st1/\∃l r,c=(none,l,r)/\l<=r/\r<=k/\(∀i p,i<l->(arrOf st1)[lo+i]?= some p->Le lt p pv)/\(∀i p,r<=i->i<k->(arrOf st1)[lo+i]?= some p->lt pv p=true)/\r-l+y<=k)
   (Q:=fun c st'=>st'=st1/\∃l r,c=(none,l,r)/\l=r/\r<=k/\(∀i p,i<l->(arrOf st1)[lo+i]?= some p->Le lt p pv)/\(∀i p,r<=i->i<k->(arrOf st1)[lo+i]?= some p->lt pv p=true)) ?_ ?_ ⟨rfl,0,k,rfl,by lia,by lia,fun i p hi=>by lia,fun i p h1 h2=>by lia,by lia⟩) ?_)
  ·rintro y c st2 _ _ ⟨rfl,l,r,rfl,h1,h2,h3,h4,h5⟩
   try dsimp only
   by_cases hlr:l>=r
   ·rw[if_pos hlr];exact wpS_pure ⟨rfl,l,r,rfl,by lia,h2,h3,h4⟩
   rw[if_neg hlr];refine wpS_bind (Zah hc (pl.pm.kind.trans hk) (pl.pm.ok ho) (by lia) (by lia) fun p q e1 e2=>?_);rw[epv] at e1;cases e1;cases hb:lt pv q with
   | true =>
    refine wpS_pure ⟨rfl,_,_,rfl,by lia,by lia,h3,fun i p hi1 hi2 ei=>?_,by lia⟩;by_cases e:i=(l+r) / 2
    ·rw[e,e2] at ei;cases ei;exact hb
    ·exact o.lt_le hb (u1 _ _ q p (by lia) (show lo+(l+r) / 2<lo+i by lia) (by lia) e2 ei)
   | false =>
    refine wpS_pure ⟨rfl,_,_,rfl,by lia,by lia,fun i p hi1 ei=>?_,h4,by lia⟩;by_cases e:i=(l+r) / 2
    ·rw[e,e2] at ei;cases ei;exact hb
    ·exact o.le_trans (u1 _ _ p q (by lia) (show lo+i<lo+(l+r) / 2 by lia) (by lia) ei e2) hb
  ·rintro c st2 ⟨rfl,l,r,rfl,h1,h2,h3,h4,h5⟩;exact⟨rfl,l,r,rfl,by lia,h2,h3,h4⟩
  ·rintro c st2 ⟨rfl,l,r,rfl,rfl,h2,h3,h4⟩
   try dsimp only
   refine wpS_bind (ZhB ?_);exact wpS_pure ⟨rfl,pl.trans (Pl.bubble st2 (by lia) (by lia) (by lia) (by lia)),ZkS o u1 (by lia) h2 epv h3 h4⟩
 ·rintro c st1 ⟨rfl,pl,u1⟩;rw[show max (max ok 1) n=n by lia] at u1;exact⟨rfl,pl,u1⟩
 ·rintro c st1 ⟨rfl,pl,u1⟩;exact wpS_pure (h st1 pl u1)
set_option maxHeartbeats 4000000 in
theorem ZgG{lo nrem:Nat}{Q:Option Nat->SortSt->Prop}(o:Swo lt)(hc:ZgP prog w A s κ Ok lt)(hk:kindOf st= κ)(ho:∀p∈(arrOf st).toList,Ok p)(h1:1<=nrem)(hn:lo+nrem<=(arrOf st).size)(h:∀n st',1<=n->n<=nrem->Pl lo (lo+nrem) st st'->Up lt (arrOf st') lo (lo+n)->Q (some n) st'):wpS (model prog w) A E s (countRun' lo nrem) Q st:=by
 refine wpS_bind (wpS_mono (wpS_forRange (I:=fun x c st'=>st'=st/\∃n,c=(none,n)/\n=x/\Up lt (arrOf st) lo (lo+n)) (Q:=fun c st'=>st'=st/\∃n,c=(none,n)/\1<=n/\n<=nrem/\Up lt (arrOf st) lo (lo+n)/\(n=nrem\/∀p q,(arrOf st)[lo+n]?= some p->(arrOf st)[lo+n-1]?= some q->lt p q=true)) ?_ ?_ ⟨rfl,1,rfl,rfl,Zjj⟩) ?_)
 ·rintro x c st1 hx1 hx ⟨rfl,n,rfl,rfl,u1⟩
  try dsimp only
  refine wpS_bind (Zah hc hk ho (by lia) (by lia) fun p q e1 e2=>?_);cases hb:lt p q with
  | true=>exact wpS_pure ⟨rfl,n,rfl,by lia,by lia,u1,.inr fun p' q' f1 f2=>by rw[e1] at f1;rw[e2] at f2;cases f1;cases f2;exact hb⟩
  | false=>exact wpS_pure ⟨rfl,n+1,rfl,rfl,u1.ext (m:=lo+n) o (by lia) e2 e1 hb⟩
 ·rintro c st1 ⟨rfl,n,rfl,rfl,u1⟩;exact⟨rfl,_,rfl,by lia,by lia,u1,.inl (by lia)⟩
 ·rintro c st1 ⟨rfl,n,rfl,n1,n2,u1,hstop⟩
  try dsimp only
  by_cases e1:(n == nrem)=true
  ·rw[if_pos e1];exact wpS_pure (h n st1 n1 n2 (Pl.refl _ _ _) u1)
  rw[if_neg e1];have n3:n<nrem:=by
   have : ¬ n=nrem:=fun e=>e1 (by simp[e]);lia
  have hstop2:=hstop.resolve_left (by lia);obtain⟨pn,epn⟩:∃p,(arrOf st1)[lo+n]?= some p:=⟨_,getElem?_pos _ (lo+n) (by lia)⟩;obtain⟨pm,epm⟩:∃p,(arrOf st1)[lo+n-1]?= some p:=⟨_,getElem?_pos _ (lo+n-1) (by lia)⟩;have hless:=hstop2 pn pm epn epm;by_cases e2:n > 1
  ·rw[if_pos e2];refine wpS_bind (Zah hc hk ho (by lia) (by lia) fun p q f1 f2=>?_);cases hb:lt p q with
   | true =>
    try dsimp only
    rw[if_pos rfl];exact wpS_pure (h n st1 n1 n2 (Pl.refl _ _ _) u1)
   | false =>
    try dsimp only
    rw[if_neg Bool.false_ne_true];refine wpS_bind (ZaV ?_);have p2:=Pl.mirror (lo:=lo) (hi:=lo+nrem) (i:=lo) (j:=lo+n) st1 (by lia) (by lia) (by lia);have d2:Dn lt (arrOf (setArr st1 (mirror (arrOf st1) lo (lo+n) ((lo+n-lo) / 2)))) lo (lo+n):=u1.mirror (by lia);have d3:Dn lt (arrOf (setArr st1 (mirror (arrOf st1) lo (lo+n) ((lo+n-lo) / 2)))) lo (lo+(n+1)):=by
     refine d2.ext (m:=lo+n) o (by lia) (p:=p) (q:=pn) ?_ ?_ ?_
     ·show(mirror (arrOf st1) lo (lo+n) ((lo+n-lo) / 2))[lo+n-1]?= some p;rw[getElem?_mirror_all (by lia),if_pos (by lia),show lo+(lo+n)-1-(lo+n-1)=lo by lia];exact f1
     ·show(mirror (arrOf st1) lo (lo+n) ((lo+n-lo) / 2))[lo+n]?= some pn;rw[getElem?_mirror_all (by lia),if_neg (by lia)];exact epn
     ·rw[epm] at f2;cases f2;exact o.le_trans (o.le_of hless) hb
    generalize setArr st1 (mirror (arrOf st1) lo (lo+n) ((lo+n-lo) / 2))=st2 at p2 d3;refine wpS_bind (wpS_lift (wpAny_rule ⟨rfl,?_⟩));refine wpS_bind (wpS_mono (wpS_forRange (I:=fun x c st'=>Pl lo (lo+nrem) st1 st'/\∃n q,c=(none,n,q)/\n=x/\1<=n/\q+1<=n/\Dn lt (arrOf st') lo (lo+n)/\Eqv lt (arrOf st') (lo+n-(q+1)) (lo+n)) (Q:=fun c st'=>Pl lo (lo+nrem) st1 st'/\∃n q,c=(none,n,q)/\1<=n/\n<=nrem/\q+1<=n/\Dn lt (arrOf st') lo (lo+n)/\Eqv lt (arrOf st') (lo+n-(q+1)) (lo+n)) ?_ ?_ ⟨p2,n+1,0,rfl,rfl,by lia,by lia,d3,fun x y u v a1 a2 a3 a4 eu ev=>by obtain rfl:x=y:=(by lia);rw[eu] at ev;cases ev;exact o.le_refl _⟩) ?_)
    ·rintro x c st3 hx1 hx ⟨p3,n,q,rfl,rfl,m1,m2,d3,q3⟩;have z3:=p3.pm.size
     try dsimp only
     refine wpS_bind (Zah hc (p3.pm.kind.trans hk) (p3.pm.ok ho) (by lia) (by lia) fun p1 p0 e1 e0=>?_);cases hb:lt p1 p0 with
     | true =>
      try dsimp only
      rw[if_pos rfl];by_cases q0:q > 0
      ·rw[if_pos q0];refine wpS_bind (ZaV ?_);have p4:=Pl.mirror (lo:=lo) (hi:=lo+nrem) (i:=lo+n-(q+1)) (j:=lo+n) st3 (by lia) (by lia) (by lia);have d4:=d3.turn q3 (by lia) (by lia);refine wpS_pure ⟨p3.trans p4,n+1,0,rfl,rfl,by lia,by lia,?_,fun x y u v a1 a2 a3 a4 eu ev=>by obtain rfl:x=y:=(by lia);rw[eu] at ev;cases ev;exact o.le_refl _⟩;obtain⟨p5,e5⟩:∃p5,(arrOf (setArr st3 (mirror (arrOf st3) (lo+n-(q+1)) (lo+n) ((lo+n-(lo+n-(q+1))) / 2))))[lo+n-1]?= some p5:=⟨_,getElem?_pos _ (lo+n-1) (by show _<(mirror _ _ _ _).size;rw[mirror_size];lia)⟩;refine d4.ext (m:=lo+n) o (by lia) e5 (q:=p1) ?_ ?_
       ·show(mirror (arrOf st3) (lo+n-(q+1)) (lo+n) ((lo+n-(lo+n-(q+1))) / 2))[lo+n]?= some p1;rw[getElem?_mirror_all (by lia),if_neg (by lia)];exact e1
       ·have e6:(mirror (arrOf st3) (lo+n-(q+1)) (lo+n) ((lo+n-(lo+n-(q+1))) / 2))[lo+n-1]?= some p5:=e5;rw[getElem?_mirror_all (by lia),if_pos (by lia)] at e6;exact o.le_trans (o.le_of hb) (q3 _ _ p0 p5 (show lo+n-(q+1)<=lo+n-1 by lia) (by lia) (by lia) (by lia) e0 e6)
      ·rw[if_neg q0];exact wpS_pure ⟨p3,n+1,0,rfl,rfl,by lia,by lia,d3.ext (m:=lo+n) o (by lia) e0 e1 (o.le_of hb),fun x y u v a1 a2 a3 a4 eu ev=>by obtain rfl:x=y:=(by lia);rw[eu] at ev;cases ev;exact o.le_refl _⟩
     | false =>
      try dsimp only
      rw[if_neg Bool.false_ne_true];refine wpS_bind (Zah hc (p3.pm.kind.trans hk) (p3.pm.ok ho) (by lia) (by lia) fun p0' p1' e0' e1'=>?_);rw[e0] at e0';rw[e1] at e1';cases e0';cases e1';cases hb2:lt p0 p1 with
      | true=>exact wpS_pure ⟨p3,n,q,rfl,m1,by lia,m2,d3,q3⟩
      | false =>
       refine wpS_pure ⟨p3,n+1,q+1,rfl,rfl,by lia,by lia,d3.ext (m:=lo+n) o (by lia) e0 e1 hb2,fun x y u v a1 a2 a3 a4 eu ev=>?_⟩;have one:∀x u,lo+(n+1)-(q+1+1)<=x->x<lo+(n+1)->(arrOf st3)[x]?= some u->Le lt u p0/\Le lt p0 u:=fun x u a1 a2 eu=>by
        by_cases hx:x=lo+n
        ·rw[hx,e1] at eu;cases eu;exact⟨hb2,hb⟩
        ·exact⟨q3 x (lo+n-1) u p0 (by lia) (by lia) (by lia) (by lia) eu e0,q3 (lo+n-1) x p0 u (by lia) (by lia) (by lia) (by lia) e0 eu⟩
       exact o.le_trans (one x u a1 a2 eu).1 (one y v a3 a4 ev).2
    ·rintro c st3 ⟨p3,n',q,rfl,rfl,m1,m2,d3,q3⟩;exact⟨p3,_,q,rfl,m1,by lia,m2,d3,q3⟩
    ·rintro c st3 ⟨p3,n,q,rfl,m1,mn,m2,d3,q3⟩;have z3:=p3.pm.size
     try dsimp only
     by_cases q0:q > 0
     ·rw[if_pos q0];refine wpS_bind (ZaV ?_);have p4:=Pl.mirror (lo:=lo) (hi:=lo+nrem) (i:=lo+n-(q+1)) (j:=lo+n) st3 (by lia) (by lia) (by lia);have d4:=d3.turn q3 (by lia) (by lia);have z4:=p4.pm.size;generalize hst4:setArr st3 (mirror (arrOf st3) (lo+n-(q+1)) (lo+n) ((lo+n-(lo+n-(q+1))) / 2))=st4 at p4 z4;have d5:Dn lt (arrOf st4) lo (lo+n):=by rw[<- hst4];exact d4
      refine wpS_bind (ZaV ?_);have p6:=(p3.trans p4).trans (Pl.mirror (lo:=lo) (hi:=lo+nrem) (i:=lo) (j:=lo+n) st4 (by lia) (by lia) (by lia));have u6:Up lt (arrOf (setArr st4 (mirror (arrOf st4) lo (lo+n) ((lo+n-lo) / 2)))) lo (lo+n):=d5.mirror (by lia);have z6:=p6.pm.size;generalize setArr st4 (mirror (arrOf st4) lo (lo+n) ((lo+n-lo) / 2))=st5 at p6 u6 z6;refine wpS_bind (wpS_mono (wpS_forRange (I:=fun x c st'=>st'=st5/\∃k,c=(none,k)/\k=x/\Up lt (arrOf st5) lo (lo+k)) (Q:=fun c st'=>st'=st5/\∃k,c=(none,k)/\n<=k/\k<=nrem/\Up lt (arrOf st5) lo (lo+k)) ?_ ?_ ⟨rfl,n,rfl,rfl,u6⟩) ?_)
      ·rintro x c st7 hx1 hx2 ⟨rfl,k,rfl,rfl,u7⟩
       try dsimp only
       refine wpS_bind (Zah hc (p6.pm.kind.trans hk) (p6.pm.ok ho) (by lia) (by lia) fun p q e1 e2=>?_);cases hb:lt p q with
       | true=>exact wpS_pure ⟨rfl,k,rfl,by lia,by lia,u7⟩
       | false=>exact wpS_pure ⟨rfl,k+1,rfl,rfl,u7.ext (m:=lo+k) o (by lia) e2 e1 hb⟩
      ·rintro c st7 ⟨rfl,k,rfl,rfl,u7⟩;exact⟨rfl,max n nrem,rfl,by lia,by lia,u7⟩
      ·rintro c st7 ⟨rfl,k,rfl,k1,k2,u7⟩;exact wpS_pure (h k _ (by lia) k2 p6 u7)
     ·rw[if_neg q0];refine wpS_bind (ZaV ?_);have p6:=p3.trans (Pl.mirror (lo:=lo) (hi:=lo+nrem) (i:=lo) (j:=lo+n) st3 (by lia) (by lia) (by lia));have u6:Up lt (arrOf (setArr st3 (mirror (arrOf st3) lo (lo+n) ((lo+n-lo) / 2)))) lo (lo+n):=d3.mirror (by lia);have z6:=p6.pm.size;generalize setArr st3 (mirror (arrOf st3) lo (lo+n) ((lo+n-lo) / 2))=st5 at p6 u6 z6;refine wpS_bind (wpS_mono (wpS_forRange (I:=fun x c st'=>st'=st5/\∃k,c=(none,k)/\k=x/\Up lt (arrOf st5) lo (lo+k)) (Q:=fun c st'=>st'=st5/\∃k,c=(none,k)/\n<=k/\k<=nrem/\Up lt (arrOf st5) lo (lo+k)) ?_ ?_ ⟨rfl,n,rfl,rfl,u6⟩) ?_)
      ·rintro x c st7 hx1 hx2 ⟨rfl,k,rfl,rfl,u7⟩
       try dsimp only
       refine wpS_bind (Zah hc (p6.pm.kind.trans hk) (p6.pm.ok ho) (by lia) (by lia) fun p q e1 e2=>?_);cases hb:lt p q with
       | true=>exact wpS_pure ⟨rfl,k,rfl,by lia,by lia,u7⟩
       | false=>exact wpS_pure ⟨rfl,k+1,rfl,rfl,u7.ext (m:=lo+k) o (by lia) e2 e1 hb⟩
      ·rintro c st7 ⟨rfl,k,rfl,rfl,u7⟩;exact⟨rfl,max n nrem,rfl,by lia,by lia,u7⟩
      ·rintro c st7 ⟨rfl,k,rfl,k1,k2,u7⟩;exact wpS_pure (h k _ (by lia) k2 p6 u7)
  ·rw[if_neg e2];have p2:=Pl.refl lo (lo+nrem) st1;have d3:Dn lt (arrOf st1) lo (lo+(n+1)):=by
    obtain rfl:n=1:=by lia
    exact ZkG.ext (m:=lo+1) o (by lia) epm epn (o.le_of hless)
   refine wpS_bind (wpS_lift (wpAny_rule ⟨rfl,?_⟩));refine wpS_bind (wpS_mono (wpS_forRange (I:=fun x c st'=>Pl lo (lo+nrem) st1 st'/\∃n q,c=(none,n,q)/\n=x/\1<=n/\q+1<=n/\Dn lt (arrOf st') lo (lo+n)/\Eqv lt (arrOf st') (lo+n-(q+1)) (lo+n)) (Q:=fun c st'=>Pl lo (lo+nrem) st1 st'/\∃n q,c=(none,n,q)/\1<=n/\n<=nrem/\q+1<=n/\Dn lt (arrOf st') lo (lo+n)/\Eqv lt (arrOf st') (lo+n-(q+1)) (lo+n)) ?_ ?_ ⟨p2,n+1,0,rfl,rfl,by lia,by lia,d3,fun x y u v a1 a2 a3 a4 eu ev=>by obtain rfl:x=y:=(by lia);rw[eu] at ev;cases ev;exact o.le_refl _⟩) ?_)
   ·rintro x c st3 hx1 hx ⟨p3,n,q,rfl,rfl,m1,m2,d3,q3⟩;have z3:=p3.pm.size
    try dsimp only
    refine wpS_bind (Zah hc (p3.pm.kind.trans hk) (p3.pm.ok ho) (by lia) (by lia) fun p1 p0 e1 e0=>?_);cases hb:lt p1 p0 with
    | true =>
     try dsimp only
     rw[if_pos rfl];by_cases q0:q > 0
     ·rw[if_pos q0];refine wpS_bind (ZaV ?_);have p4:=Pl.mirror (lo:=lo) (hi:=lo+nrem) (i:=lo+n-(q+1)) (j:=lo+n) st3 (by lia) (by lia) (by lia);have d4:=d3.turn q3 (by lia) (by lia);refine wpS_pure ⟨p3.trans p4,n+1,0,rfl,rfl,by lia,by lia,?_,fun x y u v a1 a2 a3 a4 eu ev=>by obtain rfl:x=y:=(by lia);rw[eu] at ev;cases ev;exact o.le_refl _⟩;obtain⟨p5,e5⟩:∃p5,(arrOf (setArr st3 (mirror (arrOf st3) (lo+n-(q+1)) (lo+n) ((lo+n-(lo+n-(q+1))) / 2))))[lo+n-1]?= some p5:=⟨_,getElem?_pos _ (lo+n-1) (by show _<(mirror _ _ _ _).size;rw[mirror_size];lia)⟩;refine d4.ext (m:=lo+n) o (by lia) e5 (q:=p1) ?_ ?_
      ·show(mirror (arrOf st3) (lo+n-(q+1)) (lo+n) ((lo+n-(lo+n-(q+1))) / 2))[lo+n]?= some p1;rw[getElem?_mirror_all (by lia),if_neg (by lia)];exact e1
      ·have e6:(mirror (arrOf st3) (lo+n-(q+1)) (lo+n) ((lo+n-(lo+n-(q+1))) / 2))[lo+n-1]?= some p5:=e5;rw[getElem?_mirror_all (by lia),if_pos (by lia)] at e6;exact o.le_trans (o.le_of hb) (q3 _ _ p0 p5 (show lo+n-(q+1)<=lo+n-1 by lia) (by lia) (by lia) (by lia) e0 e6)
     ·rw[if_neg q0];exact wpS_pure ⟨p3,n+1,0,rfl,rfl,by lia,by lia,d3.ext (m:=lo+n) o (by lia) e0 e1 (o.le_of hb),fun x y u v a1 a2 a3 a4 eu ev=>by obtain rfl:x=y:=(by lia);rw[eu] at ev;cases ev;exact o.le_refl _⟩
    | false =>
     try dsimp only
     rw[if_neg Bool.false_ne_true];refine wpS_bind (Zah hc (p3.pm.kind.trans hk) (p3.pm.ok ho) (by lia) (by lia) fun p0' p1' e0' e1'=>?_);rw[e0] at e0';rw[e1] at e1';cases e0';cases e1';cases hb2:lt p0 p1 with
     | true=>exact wpS_pure ⟨p3,n,q,rfl,m1,by lia,m2,d3,q3⟩
     | false =>
      refine wpS_pure ⟨p3,n+1,q+1,rfl,rfl,by lia,by lia,d3.ext (m:=lo+n) o (by lia) e0 e1 hb2,fun x y u v a1 a2 a3 a4 eu ev=>?_⟩;have one:∀x u,lo+(n+1)-(q+1+1)<=x->x<lo+(n+1)->(arrOf st3)[x]?= some u->Le lt u p0/\Le lt p0 u:=fun x u a1 a2 eu=>by
       by_cases hx:x=lo+n
       ·rw[hx,e1] at eu;cases eu;exact⟨hb2,hb⟩
       ·exact⟨q3 x (lo+n-1) u p0 (by lia) (by lia) (by lia) (by lia) eu e0,q3 (lo+n-1) x p0 u (by lia) (by lia) (by lia) (by lia) e0 eu⟩
      exact o.le_trans (one x u a1 a2 eu).1 (one y v a3 a4 ev).2
   ·rintro c st3 ⟨p3,n',q,rfl,rfl,m1,m2,d3,q3⟩;exact⟨p3,_,q,rfl,m1,by lia,m2,d3,q3⟩
   ·rintro c st3 ⟨p3,n,q,rfl,m1,mn,m2,d3,q3⟩;have z3:=p3.pm.size
    try dsimp only
    by_cases q0:q > 0
    ·rw[if_pos q0];refine wpS_bind (ZaV ?_);have p4:=Pl.mirror (lo:=lo) (hi:=lo+nrem) (i:=lo+n-(q+1)) (j:=lo+n) st3 (by lia) (by lia) (by lia);have d4:=d3.turn q3 (by lia) (by lia);have z4:=p4.pm.size;generalize hst4:setArr st3 (mirror (arrOf st3) (lo+n-(q+1)) (lo+n) ((lo+n-(lo+n-(q+1))) / 2))=st4 at p4 z4;have d5:Dn lt (arrOf st4) lo (lo+n):=by rw[<- hst4];exact d4
     refine wpS_bind (ZaV ?_);have p6:=(p3.trans p4).trans (Pl.mirror (lo:=lo) (hi:=lo+nrem) (i:=lo) (j:=lo+n) st4 (by lia) (by lia) (by lia));have u6:Up lt (arrOf (setArr st4 (mirror (arrOf st4) lo (lo+n) ((lo+n-lo) / 2)))) lo (lo+n):=d5.mirror (by lia);have z6:=p6.pm.size;generalize setArr st4 (mirror (arrOf st4) lo (lo+n) ((lo+n-lo) / 2))=st5 at p6 u6 z6;refine wpS_bind (wpS_mono (wpS_forRange (I:=fun x c st'=>st'=st5/\∃k,c=(none,k)/\k=x/\Up lt (arrOf st5) lo (lo+k)) (Q:=fun c st'=>st'=st5/\∃k,c=(none,k)/\n<=k/\k<=nrem/\Up lt (arrOf st5) lo (lo+k)) ?_ ?_ ⟨rfl,n,rfl,rfl,u6⟩) ?_)
     ·rintro x c st7 hx1 hx2 ⟨rfl,k,rfl,rfl,u7⟩
      try dsimp only
      refine wpS_bind (Zah hc (p6.pm.kind.trans hk) (p6.pm.ok ho) (by lia) (by lia) fun p q e1 e2=>?_);cases hb:lt p q with
      | true=>exact wpS_pure ⟨rfl,k,rfl,by lia,by lia,u7⟩
      | false=>exact wpS_pure ⟨rfl,k+1,rfl,rfl,u7.ext (m:=lo+k) o (by lia) e2 e1 hb⟩
     ·rintro c st7 ⟨rfl,k,rfl,rfl,u7⟩;exact⟨rfl,max n nrem,rfl,by lia,by lia,u7⟩
     ·rintro c st7 ⟨rfl,k,rfl,k1,k2,u7⟩;exact wpS_pure (h k _ (by lia) k2 p6 u7)
    ·rw[if_neg q0];refine wpS_bind (ZaV ?_);have p6:=p3.trans (Pl.mirror (lo:=lo) (hi:=lo+nrem) (i:=lo) (j:=lo+n) st3 (by lia) (by lia) (by lia));have u6:Up lt (arrOf (setArr st3 (mirror (arrOf st3) lo (lo+n) ((lo+n-lo) / 2)))) lo (lo+n):=d3.mirror (by lia);have z6:=p6.pm.size;generalize setArr st3 (mirror (arrOf st3) lo (lo+n) ((lo+n-lo) / 2))=st5 at p6 u6 z6;refine wpS_bind (wpS_mono (wpS_forRange (I:=fun x c st'=>st'=st5/\∃k,c=(none,k)/\k=x/\Up lt (arrOf st5) lo (lo+k)) (Q:=fun c st'=>st'=st5/\∃k,c=(none,k)/\n<=k/\k<=nrem/\Up lt (arrOf st5) lo (lo+k)) ?_ ?_ ⟨rfl,n,rfl,rfl,u6⟩) ?_)
     ·rintro x c st7 hx1 hx2 ⟨rfl,k,rfl,rfl,u7⟩
      try dsimp only
      refine wpS_bind (Zah hc (p6.pm.kind.trans hk) (p6.pm.ok ho) (by lia) (by lia) fun p q e1 e2=>?_);cases hb:lt p q with
      | true=>exact wpS_pure ⟨rfl,k,rfl,by lia,by lia,u7⟩
      | false=>exact wpS_pure ⟨rfl,k+1,rfl,rfl,u7.ext (m:=lo+k) o (by lia) e2 e1 hb⟩
     ·rintro c st7 ⟨rfl,k,rfl,rfl,u7⟩;exact⟨rfl,max n nrem,rfl,by lia,by lia,u7⟩
     ·rintro c st7 ⟨rfl,k,rfl,k1,k2,u7⟩;exact wpS_pure (h k _ (by lia) k2 p6 u7)
end
theorem Zhm:∀{l:List (Nat×Nat×Nat)}{lo hi:Nat},Cov l lo hi->∀z∈l,lo<=z.1
 | [],_,_,_,z,hz=>(nomatch hz)
 | x::r,lo,hi,⟨a,b,c⟩,z,hz=>by
  rcases List.mem_cons.mp hz with rfl|hz
  ·lia
  ·have:=Zhm c z hz;lia
theorem Zji:∀{l:List (Nat×Nat×Nat)}{lo hi:Nat},Cov l lo hi->∀z∈l,z.1+z.2.1<=hi
 | [],_,_,_,z,hz=>(nomatch hz)
 | x::r,lo,hi,⟨a,b,c⟩,z,hz=>by
  rcases List.mem_cons.mp hz with rfl|hz
  ·have:=c.le;lia
  ·exact Zji c z hz
theorem ZdF:∀{l:List (Nat×Nat×Nat)}{i lo hi sa na p sb nb q:Nat},Cov l lo hi->l[i]?= some (sa,na,p)->l[i+1]?= some (sb,nb,q) ->
  ∀z∈(l.set i (sa,na+nb,p)).eraseIdx (i+1),z=(sa,na+nb,p)\/z∈l/\(z.1+z.2.1<=sa\/sb+nb<=z.1)
 | x::y::r,0,lo,hi,sa,na,p,sb,nb,q,⟨a,b,c1,c2,c3⟩,h1,h2,z,hz=>by
  have e1:x=(sa,na,p):=by simpa using h1
  have e2:y=(sb,nb,q):=by simpa using h2
  subst e1;subst e2;have hz':z∈(sa,na+nb,p)::r:=hz;rcases List.mem_cons.mp hz' with hz|hz
  ·exact .inl hz
  ·refine .inr ⟨List.mem_cons_of_mem _ (List.mem_cons_of_mem _ hz),.inr ?_⟩;have:=Zhm c3 z hz;have c1':sb=lo+na:=c1;have this':lo+na+nb<=z.1:=this;lia
 | x::r,i+1,lo,hi,sa,na,p,sb,nb,q,⟨a,b,c⟩,h1,h2,z,hz=>by
  have h1':r[i]?= some (sa,na,p):=by simpa using h1
  have hz':z∈x::((r.set i (sa,na+nb,p)).eraseIdx (i+1)):=hz;rcases List.mem_cons.mp hz' with rfl|hz
  ·refine .inr ⟨List.mem_cons_self ..,.inl ?_⟩;have:=Zhm c _ (List.mem_of_getElem? h1');have this':lo+z.2.1<=sa:=this;lia
  ·rcases ZdF (l:=r) (i:=i) c h1' (by simpa using h2) z hz with h|⟨h,h'⟩
   ·exact .inl h
   ·exact .inr ⟨List.mem_cons_of_mem _ h,h'⟩
 | [x],0,_,_,_,_,_,_,_,_,_,_,h2,_,_=>by simp at h2
 | [],_,_,_,_,_,_,_,_,_,_,h1,_,_,_=>by simp at h1
theorem ZgX{L r:List Keyed}{m:Nat}(h:m+r.length<=L.length)(x:Nat):(L.take m++r++L.drop (m+r.length))[x]?= if x<m then L[x]? else if x<m+r.length then r[x-m]? else L[x]? := by
 have hm:(L.take m).length=m:=by rw[List.length_take];lia
 by_cases h1:x<m
 ·rw[if_pos h1,List.append_assoc,List.getElem?_append_left (by lia),List.getElem?_take_of_lt h1]
 rw[if_neg h1];by_cases h2:x<m+r.length
 ·rw[if_pos h2,List.getElem?_append_left (by rw[List.length_append];lia),List.getElem?_append_right (by lia),hm]
 ·rw[if_neg h2,List.getElem?_append_right (by rw[List.length_append];lia),List.getElem?_drop,List.length_append,hm]
  congr 1
  lia
section
variable{lt:Keyed->Keyed->Bool}{κ : SortKind}
structure SBL(lt:Keyed->Keyed->Bool)(a₀ : Array Keyed)(κ : SortKind)(hi:Nat)(st:SortSt):Prop where
 sb:SB a₀ κ hi st
 ups:∀z∈(pendingOf st).toList,Up lt (arrOf st) z.1 (z.1+z.2.1)
theorem Up.same{arr arr':Array Keyed}{i j:Nat}(h:Up lt arr i j)(e:∀x,i<=x->x<j->arr'[x]?= arr[x]?):Up lt arr' i j:=fun x y p q h1 h2 h3 ep eq=>by
 rw[e x (by lia) (by lia)] at ep;rw[e y (by lia) (by lia)] at eq;exact h x y p q h1 h2 h3 ep eq
theorem SBL.pl{a₀ : Array Keyed}{hi hi':Nat}{st st':SortSt}(x:SBL lt a₀ κ hi st)(p:Pl hi hi' st st'):SBL lt a₀ κ hi st':=⟨x.sb.pm p.pm,fun z hz=>by
 rw[p.pm.pend] at hz;have h1:=Zji x.sb.cov z hz;exact(x.ups z hz).same fun i _ h=>p.out i (.inl (by lia))⟩
end
section
variable{prog:Program}{w:World}{A:Around}{E:Value->Shared->Prop}{s:Shared}{κ : SortKind}{Ok:Keyed->Prop}{st:SortSt}{lt:Keyed->Keyed->Bool}
set_option maxHeartbeats 4000000 in
theorem Zbv{a₀ : Array Keyed}{hi i:Nat}{Q:Bool->SortSt->Prop}(o:Swo lt)(hc:ZgP prog w A s κ Ok lt)(h0:∀p∈a₀.toList,Ok p)(hL:SBL lt a₀ κ hi st)(hh:hi<=a₀.size)(hi1:i+1<(pendingOf st).size)
  (h:∀st',SBL lt a₀ κ hi st'->(∀x,hi<=x->(arrOf st')[x]?= (arrOf st)[x]?)->(pendingOf st').size+1=(pendingOf st).size->Q true st'):wpS (model prog w) A E s (mergeAt' i) Q st:=by
 have hB:=hL.sb;refine wpS_bind (wpS_get ?_);obtain⟨⟨sa,na,p⟩,e1⟩:∃x,(pendingOf st)[i]?= some x:=⟨_,getElem?_pos _ i (by lia)⟩;obtain⟨⟨sb,nb,q⟩,e2⟩:∃x,(pendingOf st)[i+1]?= some x:=⟨_,getElem?_pos _ (i+1) hi1⟩;obtain⟨k1,k2,k3,k4,k5⟩:=hB.cov.at (i:=i) (by rw[<- e1];simp) (by rw[<- e2];simp);have e3:((pendingOf st)[i]?,(pendingOf st)[i+1]?)=(some (sa,na,p),some (sb,nb,q)):=by rw[e1,e2]
 have hsz:=hB.size;have l1:(pendingOf st).toList[i]?= some (sa,na,p):=by rw[<- e1];simp
 have l2:(pendingOf st).toList[i+1]?= some (sb,nb,q):=by rw[<- e2];simp
 have ua:Up lt (arrOf st) sa (sa+na):=hL.ups _ (List.mem_of_getElem? l1);have ub:Up lt (arrOf st) sb (sb+nb):=hL.ups _ (List.mem_of_getElem? l2);have oth:=ZdF hB.cov l1 l2;show wpS _ _ _ _ (match ((pendingOf st)[i]?,(pendingOf st)[i+1]?) with|(some (sa,na,power),some (sb,nb,_))=>_|_=>_) Q st
 rw[e1,e2];dsimp only;have hpl:(((pendingOf st).setIfInBounds i (sa,na+nb,p)).eraseIdxIfInBounds (i+1)).toList=((pendingOf st).toList.set i (sa,na+nb,p)).eraseIdx (i+1):=by
  simp
 have hps:((((pendingOf st).setIfInBounds i (sa,na+nb,p)).eraseIdxIfInBounds (i+1)).size+1=(pendingOf st).size):=by
  have:=congrArg List.length hpl;rw[Array.length_toList,List.length_eraseIdx,List.length_set,Array.length_toList,if_pos hi1] at this;lia
 have hB1:SB a₀ κ hi (SortSt.mk' (kindOf st) (arrOf st) (((pendingOf st).setIfInBounds i (sa,na+nb,p)).eraseIdxIfInBounds (i+1)) (gallopOf st) (failedOf st)):=⟨hB.arr,hB.kind,hB.fail,by
  show Cov (((pendingOf st).setIfInBounds i (sa,na+nb,p)).eraseIdxIfInBounds (i+1)).toList 0 hi;rw[hpl];exact k5⟩
 have hok:=hB.ok h0;have fin:∀st':SortSt,SB a₀ κ hi st'->(pendingOf st').toList=((pendingOf st).toList.set i (sa,na+nb,p)).eraseIdx (i+1)->(∀x,x<sa\/sb+nb<=x->(arrOf st')[x]?= (arrOf st)[x]?)->Up lt (arrOf st') sa (sa+(na+nb))->SBL lt a₀ κ hi st':=fun st' hB' hp he hu=>⟨hB',fun z hz=>by
  rw[hp] at hz;rcases oth z hz with rfl|⟨hz,hd⟩
  ·exact hu
  ·exact(hL.ups z hz).same fun x h1 h2=>he x (by lia)⟩
 have exm:∀(arr:Array Keyed)(x y:Nat){p:Keyed},p∈(arr.extract x y).toList->p∈arr.toList:=fun arr x y p hp=>by
  rw[Array.toList_extract,List.extract_eq_drop_take] at hp;exact List.mem_of_mem_drop (List.mem_of_mem_take hp)
 refine wpS_bind (Zj1 ?_);refine wpS_bind (Zv (arr:=arrOf st) (by lia) fun p1 m1 ep1=>?_);refine wpS_bind (Zag (a:=arrOf st) o hc hB1.kind (hok p1 m1) hok (by lia) (by lia) ua fun k hk F1 F2=>?_);dsimp only;have low1:∀i u,i<k->(arrOf st)[sa+i]?= some u->Le lt u p1:=fun i u hi eu=>by
  have h3:=F1 i hi;unfold BV at h3;rw[eu] at h3;have h4:(!lt p1 u)=true:=h3;show lt p1 u=false
  simpa using h4
 have hig1:∀i u,k<=i->i<na->(arrOf st)[sa+i]?= some u->Le lt p1 u:=fun i u h1 h2 eu=>by
  have h3:=F2 i h1 h2;unfold BV at h3;rw[eu] at h3;have h4:(!lt p1 u)=false:=h3;exact o.le_of (by simpa using h4)
 have p1le:∀y v,sb<=y->y<sb+nb->(arrOf st)[y]?= some v->Le lt p1 v:=fun y v h1 h2 ev=>by
  by_cases e:y=sb
  ·rw[e,ep1] at ev;cases ev;exact o.le_refl _
  ·exact ub sb y p1 v (by lia) (by lia) h2 ep1 ev
 by_cases c1:(na-k == 0)=true
 ·rw[if_pos c1];have ek:k=na:=by
   have:=eq_of_beq c1;lia
  refine wpS_pure (h _ (fin _ hB1 hpl (fun _ _=>rfl) ?_) (fun _ _=>rfl) hps);intro x y u v a1 a2 a3 eu ev;have eu':(arrOf st)[x]?= some u:=eu;have ev':(arrOf st)[y]?= some v:=ev;by_cases hy:y<sb
  ·exact ua x y u v a1 a2 (by lia) eu' ev'
  by_cases hx:sb<=x
  ·exact ub x y u v hx a2 (by lia) eu' ev'
  exact o.le_trans (low1 (x-sa) u (by lia) (by rw[show sa+(x-sa)=x by lia];exact eu')) (p1le y v (by lia) (by lia) ev')
 rw[if_neg c1];have n1 : ¬ na-k=0:=fun e=>c1 (by simp[e]);refine wpS_bind (Zv (arr:=arrOf st) (by lia) fun p2 m2 ep2=>?_);refine wpS_bind (Zag (a:=arrOf st) o hc hB1.kind (hok p2 m2) hok (by lia) (by lia) ub fun nb' hnb G1 G2=>?_);dsimp only;have ep2':(arrOf st)[sb-1]?= some p2:=by
  rw[<- ep2]
  congr 1
  lia
 have lep2:∀x u,sa<=x->x<sb->(arrOf st)[x]?= some u->Le lt u p2:=fun x u h1 h2 eu=>by
  by_cases e:x=sb-1
  ·rw[e,ep2'] at eu;cases eu;exact o.le_refl _
  ·exact ua x (sb-1) u p2 h1 (by lia) (by lia) eu ep2'
 have low2:∀i u,i<nb'->(arrOf st)[sb+i]?= some u->Le lt u p2:=fun i u hi eu=>by
  have h3:=G1 i hi;unfold BV at h3;rw[eu] at h3;exact o.le_of h3
 have hig2:∀i u,nb'<=i->i<nb->(arrOf st)[sb+i]?= some u->Le lt p2 u:=fun i u h1 h2 eu=>by
  have h3:=G2 i h1 h2;unfold BV at h3;rw[eu] at h3;exact h3
 by_cases c2:(nb' == 0)=true
 ·rw[if_pos c2];have ek:nb'=0:=eq_of_beq c2;refine wpS_pure (h _ (fin _ hB1 hpl (fun _ _=>rfl) ?_) (fun _ _=>rfl) hps);intro x y u v a1 a2 a3 eu ev;have eu':(arrOf st)[x]?= some u:=eu;have ev':(arrOf st)[y]?= some v:=ev;by_cases hy:y<sb
  ·exact ua x y u v a1 a2 (by lia) eu' ev'
  by_cases hx:sb<=x
  ·exact ub x y u v hx a2 (by lia) eu' ev'
  exact o.le_trans (lep2 x u a1 (by lia) eu') (hig2 (y-sb) v (by lia) (by lia) (by rw[show sb+(y-sb)=y by lia];exact ev'))
 rw[if_neg c2];have n2 : ¬ nb'=0:=fun e=>c2 (by simp[e]);have xs:((arrOf st).extract (sa+k) sb).size=na-k:=by
  rw[Array.size_extract];lia
 have ys:((arrOf st).extract sb (sb+nb')).size=nb':=by
  rw[Array.size_extract];lia
 have SX:So lt ((arrOf st).extract (sa+k) sb).toList:=List.pairwise_iff_getElem.mpr fun x y hx hy hxy=>by
  rw[Array.length_toList] at hx hy;have ex:((arrOf st).extract (sa+k) sb)[x]?= (arrOf st)[sa+k+x]? := by rw[Array.getElem?_extract,if_pos (by lia)]
  have ey:((arrOf st).extract (sa+k) sb)[y]?= (arrOf st)[sa+k+y]? := by rw[Array.getElem?_extract,if_pos (by lia)]
  rw[<- Array.getElem?_toList,List.getElem?_eq_getElem (by rw[Array.length_toList];exact hx)] at ex;rw[<- Array.getElem?_toList,List.getElem?_eq_getElem (by rw[Array.length_toList];exact hy)] at ey;exact ua _ _ _ _ (by lia) (show sa+k+x<sa+k+y by lia) (by lia) ex.symm ey.symm
 have SY:So lt ((arrOf st).extract sb (sb+nb')).toList:=List.pairwise_iff_getElem.mpr fun x y hx hy hxy=>by
  rw[Array.length_toList] at hx hy;have ex:((arrOf st).extract sb (sb+nb'))[x]?= (arrOf st)[sb+x]? := by rw[Array.getElem?_extract,if_pos (by lia)]
  have ey:((arrOf st).extract sb (sb+nb'))[y]?= (arrOf st)[sb+y]? := by rw[Array.getElem?_extract,if_pos (by lia)]
  rw[<- Array.getElem?_toList,List.getElem?_eq_getElem (by rw[Array.length_toList];exact hx)] at ex;rw[<- Array.getElem?_toList,List.getElem?_eq_getElem (by rw[Array.length_toList];exact hy)] at ey;exact ub _ _ _ _ (by lia) (show sb+x<sb+y by lia) (by lia) ex.symm ey.symm
 have HB0:∀p,((arrOf st).extract sb (sb+nb'))[0]?= some p->∀y∈((arrOf st).extract (sa+k) sb).toList,Le lt p y:=fun p ep y hy=>by
  rw[Array.getElem?_extract,if_pos (by lia),Nat.add_zero,ep1] at ep;cases ep;obtain⟨m,h1,h2,e⟩:=ZbB hy;exact hig1 (m-sa) y (by lia) (by lia) (by rw[show sa+(m-sa)=m by lia];exact e)
 have HLA:∀x∈((arrOf st).extract sb (sb+nb')).toList,∀q,((arrOf st).extract (sa+k) sb)[((arrOf st).extract (sa+k) sb).size-1]?= some q->Le lt x q:=fun x hx q eq=>by
  rw[xs,Array.getElem?_extract,if_pos (by lia),show sa+k+(na-k-1)=sb-1 by lia,ep2'] at eq;cases eq;obtain⟨m,h1,h2,e⟩:=ZbB hx;exact low2 (m-sb) x (by lia) (by rw[show sb+(m-sb)=m by lia];exact e)
 have whole:∀(r:Array Keyed)(arr':Array Keyed),Rs lt ((arrOf st).extract (sa+k) sb) ((arrOf st).extract sb (sb+nb')) r->r.toList.length=(na-k)+nb'->arr'.toList=(arrOf st).toList.take (sa+k)++r.toList++(arrOf st).toList.drop (sa+k+r.toList.length) ->
   (∀x,x<sa\/sb+nb<=x->arr'[x]?= (arrOf st)[x]?)/\Up lt arr' sa (sa+(na+nb)):=fun r arr' hr hrl ha=>by
  have get:∀x,arr'[x]?= if x<sa+k then(arrOf st)[x]? else if x<sa+k+r.toList.length then r.toList[x-(sa+k)]? else(arrOf st)[x]? := fun x=>by
   rw[<- Array.getElem?_toList,ha,ZgX (by have hll:(arrOf st).toList.length=(arrOf st).size:=Array.length_toList;lia),Array.getElem?_toList]
  have inr:∀u,u∈r.toList->(∃m,sa+k<=m/\m<sb/\(arrOf st)[m]?= some u)\/∃m,sb<=m/\m<sb+nb'/\(arrOf st)[m]?= some u:=fun u hu=>by
   rcases List.mem_append.mp (hr.perm.mem_iff.mp hu) with hu|hu
   ·exact .inl (ZbB hu)
   ·exact .inr (ZbB hu)
  refine⟨fun x hx=>?_,fun x y u v a1 a2 a3 eu ev=>?_⟩
  ·rw[get];by_cases h1:x<sa+k
   ·rw[if_pos h1]
   ·rw[if_neg h1,if_neg (by lia)]
  rw[get] at eu ev;by_cases hx1:x<sa+k
  ·rw[if_pos hx1] at eu;have hu1:=low1 (x-sa) u (by lia) (by rw[show sa+(x-sa)=x by lia];exact eu);by_cases hy1:y<sa+k
   ·rw[if_pos hy1] at ev;exact ua x y u v a1 a2 (by lia) eu ev
   rw[if_neg hy1] at ev;by_cases hy2:y<sa+k+r.toList.length
   ·rw[if_pos hy2] at ev;rcases inr v (List.mem_of_getElem? ev) with⟨m,b1,b2,e⟩|⟨m,b1,b2,e⟩
    ·exact ua x m u v a1 (by lia) (by lia) eu e
    ·exact o.le_trans hu1 (p1le m v b1 (by lia) e)
   ·rw[if_neg hy2] at ev;exact o.le_trans hu1 (p1le y v (by lia) (by lia) ev)
  rw[if_neg hx1] at eu;rw[if_neg (by lia)] at ev;by_cases hx2:x<sa+k+r.toList.length
  ·rw[if_pos hx2] at eu;by_cases hy2:y<sa+k+r.toList.length
   ·rw[if_pos hy2] at ev;obtain⟨hx3,rfl⟩:=List.getElem?_eq_some_iff.mp eu;obtain⟨hy3,rfl⟩:=List.getElem?_eq_some_iff.mp ev;exact(List.pairwise_iff_getElem.mp hr.sort) _ _ hx3 hy3 (by lia)
   ·rw[if_neg hy2] at ev;rcases inr u (List.mem_of_getElem? eu) with⟨m,b1,b2,e⟩|⟨m,b1,b2,e⟩
    ·exact o.le_trans (lep2 m u (by lia) b2 e) (hig2 (y-sb) v (by lia) (by lia) (by rw[show sb+(y-sb)=y by lia];exact ev))
    ·exact ub m y u v b1 (by lia) (by lia) e ev
  ·rw[if_neg hx2] at eu;rw[if_neg (by lia)] at ev;exact ub x y u v (by lia) a2 (by lia) eu ev
 by_cases c3:na-k<=nb'
 ·rw[if_pos c3];refine wpS_bind (Zex (a:=(arrOf st).extract (sa+k) sb) (b:=(arrOf st).extract sb (sb+nb')) o hc hB1.kind (fun p hp=>hok p (exm _ _ _ hp)) (fun p hp=>hok p (exm _ _ _ hp)) (by rw[xs];lia) (by rw[ys];lia) SX SY HB0 HLA fun r st2 lk hr=>?_);refine wpS_bind (wpS_modify ?_);refine wpS_bind (wpS_get ?_);have hf:failedOf st2=none:=lk.fail.trans hB.fail;have hr2:r.toList.Perm (((arrOf st).toList.drop (sa+k)).take ((na-k)+nb')):=by
   refine hr.perm.trans (List.Perm.of_eq ?_);rw[Array.toList_extract,Array.toList_extract,Zjk _ (by lia) (by lia)]
   congr 1
   lia
  have hrl:r.toList.length=(na-k)+nb':=by
   rw[hr2.length_eq,List.length_take,List.length_drop,Array.length_toList];lia
  show wpS _ _ _ _ (pure (failedOf st2).isNone) Q _;rw[hf];have hnew:(List.foldl (fun(a:Array Keyed)(x:Keyed×Nat)=>a.setIfInBounds (sa+k+x.2) x.1) (arrOf st2) r.toList.zipIdx).toList=(arrOf st).toList.take (sa+k)++r.toList++(arrOf st).toList.drop (sa+k+r.toList.length):=by
   rw[lk.arr,ZhE _ _ _ (by show sa+k+r.toList.length<=(arrOf st).size;lia)]
  obtain⟨w1,w2⟩:=whole r _ hr hrl hnew;refine wpS_pure (h _ (fin _ ⟨?_,lk.kind.trans hB.kind,hf,?_⟩ (by show(pendingOf st2).toList=_;rw[lk.pend];exact hpl) w1 w2) (fun x hx=>w1 x (.inr (by lia))) ?_)
  ·show(List.foldl (fun(a:Array Keyed)(x:Keyed×Nat)=>a.setIfInBounds (sa+k+x.2) x.1) (arrOf st2) r.toList.zipIdx).toList.Perm a₀.toList;rw[hnew];exact(Zgq hr2 hrl).trans hB.arr
  ·show Cov (pendingOf st2).toList 0 hi;rw[lk.pend];exact hB1.cov
  ·show(pendingOf st2).size+1=_;rw[lk.pend];exact hps
 ·rw[if_neg c3];refine wpS_bind (ZeN (a:=(arrOf st).extract (sa+k) sb) (b:=(arrOf st).extract sb (sb+nb')) o hc hB1.kind (fun p hp=>hok p (exm _ _ _ hp)) (fun p hp=>hok p (exm _ _ _ hp)) (by rw[xs];lia) (by rw[ys];lia) SX SY HB0 HLA fun r st2 lk hr=>?_);refine wpS_bind (wpS_modify ?_);refine wpS_bind (wpS_get ?_);have hf:failedOf st2=none:=lk.fail.trans hB.fail;have hr2:r.toList.Perm (((arrOf st).toList.drop (sa+k)).take ((na-k)+nb')):=by
   refine hr.perm.trans (List.Perm.of_eq ?_);rw[Array.toList_extract,Array.toList_extract,Zjk _ (by lia) (by lia)]
   congr 1
   lia
  have hrl:r.toList.length=(na-k)+nb':=by
   rw[hr2.length_eq,List.length_take,List.length_drop,Array.length_toList];lia
  show wpS _ _ _ _ (pure (failedOf st2).isNone) Q _;rw[hf];have hnew:(List.foldl (fun(a:Array Keyed)(x:Keyed×Nat)=>a.setIfInBounds (sa+k+x.2) x.1) (arrOf st2) r.toList.zipIdx).toList=(arrOf st).toList.take (sa+k)++r.toList++(arrOf st).toList.drop (sa+k+r.toList.length):=by
   rw[lk.arr,ZhE _ _ _ (by show sa+k+r.toList.length<=(arrOf st).size;lia)]
  obtain⟨w1,w2⟩:=whole r _ hr hrl hnew;refine wpS_pure (h _ (fin _ ⟨?_,lk.kind.trans hB.kind,hf,?_⟩ (by show(pendingOf st2).toList=_;rw[lk.pend];exact hpl) w1 w2) (fun x hx=>w1 x (.inr (by lia))) ?_)
  ·show(List.foldl (fun(a:Array Keyed)(x:Keyed×Nat)=>a.setIfInBounds (sa+k+x.2) x.1) (arrOf st2) r.toList.zipIdx).toList.Perm a₀.toList;rw[hnew];exact(Zgq hr2 hrl).trans hB.arr
  ·show Cov (pendingOf st2).toList 0 hi;rw[lk.pend];exact hB1.cov
  ·show(pendingOf st2).size+1=_;rw[lk.pend];exact hps
end
section
variable{prog:Program}{w:World}{A:Around}{E:Value->Shared->Prop}{s:Shared}{κ : SortKind}{Ok:Keyed->Prop}{st:SortSt}{lt:Keyed->Keyed->Bool}
set_option maxHeartbeats 4000000 in
theorem Zhi{a₀ : Array Keyed}{Q:Unit->SortSt->Prop}(o:Swo lt)(hc:ZgP prog w A s κ Ok lt)(h0:∀p∈a₀.toList,Ok p)(hB:SBL lt a₀ κ 0 st)(h:∀st',(arrOf st').toList.Perm a₀.toList->So lt (arrOf st').toList->failedOf st'=none->Q () st'):wpS (model prog w) A E s sortRuns' Q st:=by
 refine wpS_bind (wpS_get ?_);have hsz:=hB.sb.size;show wpS _ _ _ _ (forIn [:(arrOf st).size] _ _ >>= _) Q st;rw[hsz];refine wpS_bind (wpS_mono (wpS_forRange (I:=fun x c st'=>∃lo,c=(none,lo)/\lo<=a₀.size/\SBL lt a₀ κ lo st'/\x<=lo) (Q:=fun c st'=>∃lo,c=(none,lo)/\lo=a₀.size/\SBL lt a₀ κ lo st') ?_ (fun c st' ⟨lo,z1,z2,z3,z4⟩=>⟨lo,z1,by lia,z3⟩) ⟨0,rfl,Nat.zero_le _,hB,Nat.le_refl _⟩) ?_)
 ·rintro x c st1 _ hx ⟨lo,rfl,hlo,hB1,hxl⟩
  try dsimp only
  by_cases c1:lo>=a₀.size
  ·rw[if_pos c1];exact wpS_pure ⟨lo,rfl,by lia,hB1⟩
  rw[if_neg c1];have hs1:=hB1.sb.size;refine wpS_bind (ZgG o hc hB1.sb.kind (hB1.sb.ok h0) (by lia) (by lia) fun n st2 n1 n2 p2 u2=>?_);have hB2:=hB1.pl p2;have hs2:=hB2.sb.size
  try dsimp only
  show wpS _ _ _ _ (if n<minRun' a₀.size a₀.size 0 then _ else _) _ st2
  by_cases c2:n<minRun' a₀.size a₀.size 0
  ·rw[if_pos c2];refine wpS_bind (wpS_lift (wpAny_rule ⟨rfl,?_⟩));refine wpS_bind (Zfj o hc hB2.sb.kind (hB2.sb.ok h0) (by show lo+min (a₀.size-lo) (minRun' a₀.size a₀.size 0)<=_;lia) (by show n<=min (a₀.size-lo) (minRun' a₀.size a₀.size 0);lia) (by show 1<=min (a₀.size-lo) (minRun' a₀.size a₀.size 0);lia) u2 fun st3 p3 u3=>?_);rw[if_neg (by decide)];have hB3:=hB2.pl p3;have u3':Up lt (arrOf st3) lo (lo+min (a₀.size-lo) (minRun' a₀.size a₀.size 0)):=u3;have hN:1<=min (a₀.size-lo) (minRun' a₀.size a₀.size 0):=by lia
   refine wpS_bind (wpS_get ?_);cases hb:(pendingOf st3).back? with
   | none =>
    dsimp only;refine wpS_bind (wpS_modify ?_);refine wpS_pure ⟨lo+min (a₀.size-lo) (minRun' a₀.size a₀.size 0),rfl,by lia,⟨⟨hB3.sb.arr,hB3.sb.kind,hB3.sb.fail,?_⟩,fun z hz=>?_⟩,by lia⟩
    ·show Cov ((pendingOf st3).push (lo,min (a₀.size-lo) (minRun' a₀.size a₀.size 0),0)).toList 0 (lo+min (a₀.size-lo) (minRun' a₀.size a₀.size 0));rw[Array.toList_push];exact hB3.sb.cov.push hN
    ·have hz':z∈((pendingOf st3).push (lo,min (a₀.size-lo) (minRun' a₀.size a₀.size 0),0)).toList:=hz;rw[Array.toList_push] at hz';rcases List.mem_append.mp hz' with hz'|hz'
     ·exact hB3.ups z hz'
     ·rw[List.mem_singleton.mp hz'];exact u3'
   | some t =>
    obtain⟨s1,n1,q⟩:=t;dsimp only;refine wpS_bind (wpS_mono (wpS_forRange (I:=fun _ c st'=>c=(none,())/\SBL lt a₀ κ lo st'/\∀x,lo<=x->(arrOf st')[x]?= (arrOf st3)[x]?) (Q:=fun c st'=>c=(none,())/\SBL lt a₀ κ lo st'/\∀x,lo<=x->(arrOf st')[x]?= (arrOf st3)[x]?) ?_ (fun _ _ z=>z) ⟨rfl,hB3,fun _ _=>rfl⟩) ?_)
    ·rintro y c st4 _ _ ⟨rfl,hB4,hO4⟩;refine wpS_bind (wpS_get ?_);by_cases g1:(pendingOf st4).size > 1
     ·rw[if_pos g1];obtain⟨⟨a1,a2,older⟩,e⟩:∃x,(pendingOf st4)[(pendingOf st4).size-2]?= some x:=⟨_,getElem?_pos _ _ (by lia)⟩;rw[e];dsimp only
      split
      ·exact wpS_pure ⟨rfl,hB4,hO4⟩
      ·refine wpS_bind (Zbv o hc h0 hB4 hlo (by show(pendingOf st4).size-2+1<(pendingOf st4).size;lia) fun st5 hB5 hO5 _=>?_);rw[if_neg (by decide)];exact wpS_pure ⟨rfl,hB5,fun x hx=>(hO5 x hx).trans (hO4 x hx)⟩
     ·rw[if_neg g1];exact wpS_pure ⟨rfl,hB4,hO4⟩
    ·rintro c st4 ⟨rfl,hB4,hO4⟩;dsimp only;refine wpS_bind (wpS_modify ?_);refine wpS_bind (wpS_modify ?_);refine wpS_pure ⟨lo+min (a₀.size-lo) (minRun' a₀.size a₀.size 0),rfl,by lia,⟨⟨hB4.sb.arr,hB4.sb.kind,hB4.sb.fail,?_⟩,fun z hz=>?_⟩,by lia⟩
     ·show Cov (Array.push ((pendingOf st4).modify _ _) (lo,min (a₀.size-lo) (minRun' a₀.size a₀.size 0),0)).toList 0 (lo+min (a₀.size-lo) (minRun' a₀.size a₀.size 0));rw[Array.toList_push,Array.toList_modify];refine Cov.push ?_ hN;refine Cov.last _ (fun x=>?_) _ hB4.sb.cov;exact⟨rfl,rfl⟩
     ·change z∈(Array.push ((pendingOf st4).modify _ _) (lo,min (a₀.size-lo) (minRun' a₀.size a₀.size 0),0)).toList at hz;rw[Array.toList_push,Array.toList_modify] at hz;rcases List.mem_append.mp hz with hz|hz
      ·obtain⟨i,hi⟩:=List.mem_iff_getElem?.mp hz;rw[List.getElem?_modify] at hi;obtain⟨z0,hz0,rfl⟩:=Option.map_eq_some_iff.mp hi;have h1:=hB4.ups z0 (List.mem_of_getElem? hz0)
       split
       ·exact h1
       ·exact h1
      ·rw[List.mem_singleton.mp hz];exact u3'.same fun x h1 _=>hO4 x h1
  ·rw[if_neg c2];have hB3:=hB2;have hN:=n1;have u3':=u2;refine wpS_bind (wpS_get ?_);cases hb:(pendingOf st2).back? with
   | none =>
    dsimp only;refine wpS_bind (wpS_modify ?_);refine wpS_pure ⟨lo+n,rfl,by lia,⟨⟨hB3.sb.arr,hB3.sb.kind,hB3.sb.fail,?_⟩,fun z hz=>?_⟩,by lia⟩
    ·show Cov ((pendingOf st2).push (lo,n,0)).toList 0 (lo+n);rw[Array.toList_push];exact hB3.sb.cov.push hN
    ·have hz':z∈((pendingOf st2).push (lo,n,0)).toList:=hz;rw[Array.toList_push] at hz';rcases List.mem_append.mp hz' with hz'|hz'
     ·exact hB3.ups z hz'
     ·rw[List.mem_singleton.mp hz'];exact u3'
   | some t =>
    obtain⟨s1,n1,q⟩:=t;dsimp only;refine wpS_bind (wpS_mono (wpS_forRange (I:=fun _ c st'=>c=(none,())/\SBL lt a₀ κ lo st'/\∀x,lo<=x->(arrOf st')[x]?= (arrOf st2)[x]?) (Q:=fun c st'=>c=(none,())/\SBL lt a₀ κ lo st'/\∀x,lo<=x->(arrOf st')[x]?= (arrOf st2)[x]?) ?_ (fun _ _ z=>z) ⟨rfl,hB3,fun _ _=>rfl⟩) ?_)
    ·rintro y c st4 _ _ ⟨rfl,hB4,hO4⟩;refine wpS_bind (wpS_get ?_);by_cases g1:(pendingOf st4).size > 1
     ·rw[if_pos g1];obtain⟨⟨a1,a2,older⟩,e⟩:∃x,(pendingOf st4)[(pendingOf st4).size-2]?= some x:=⟨_,getElem?_pos _ _ (by lia)⟩;rw[e];dsimp only
      split
      ·exact wpS_pure ⟨rfl,hB4,hO4⟩
      ·refine wpS_bind (Zbv o hc h0 hB4 hlo (by show(pendingOf st4).size-2+1<(pendingOf st4).size;lia) fun st5 hB5 hO5 _=>?_);rw[if_neg (by decide)];exact wpS_pure ⟨rfl,hB5,fun x hx=>(hO5 x hx).trans (hO4 x hx)⟩
     ·rw[if_neg g1];exact wpS_pure ⟨rfl,hB4,hO4⟩
    ·rintro c st4 ⟨rfl,hB4,hO4⟩;dsimp only;refine wpS_bind (wpS_modify ?_);refine wpS_bind (wpS_modify ?_);refine wpS_pure ⟨lo+n,rfl,by lia,⟨⟨hB4.sb.arr,hB4.sb.kind,hB4.sb.fail,?_⟩,fun z hz=>?_⟩,by lia⟩
     ·show Cov (Array.push ((pendingOf st4).modify _ _) (lo,n,0)).toList 0 (lo+n);rw[Array.toList_push,Array.toList_modify];refine Cov.push ?_ hN;refine Cov.last _ (fun x=>?_) _ hB4.sb.cov;exact⟨rfl,rfl⟩
     ·change z∈(Array.push ((pendingOf st4).modify _ _) (lo,n,0)).toList at hz;rw[Array.toList_push,Array.toList_modify] at hz;rcases List.mem_append.mp hz with hz|hz
      ·obtain⟨i,hi⟩:=List.mem_iff_getElem?.mp hz;rw[List.getElem?_modify] at hi;obtain⟨z0,hz0,rfl⟩:=Option.map_eq_some_iff.mp hi;have h1:=hB4.ups z0 (List.mem_of_getElem? hz0)
       split
       ·exact h1
       ·exact h1
      ·rw[List.mem_singleton.mp hz];exact u3'.same fun x h1 _=>hO4 x h1
 ·rintro c st1 ⟨lo,rfl,rfl,hB1⟩
  try dsimp only
  refine wpS_bind (wpS_mono (wpS_forRange (I:=fun x c st'=>c=(none,())/\SBL lt a₀ κ a₀.size st'/\(pendingOf st').size+x<=a₀.size+1) (Q:=fun c st'=>c=(none,())/\SBL lt a₀ κ a₀.size st'/\(pendingOf st').size<=1) ?_ (fun c st' ⟨z1,z2,z3⟩=>⟨z1,z2,by lia⟩) ⟨rfl,hB1,by have:=hB1.sb.cov.le;rw[Array.length_toList] at this;lia⟩) ?_)
  ·rintro x c st2 _ _ ⟨rfl,hB2,hp2⟩
   try dsimp only
   refine wpS_bind (wpS_get ?_)
   try dsimp only
   by_cases c2:(pendingOf st2).size<=1
   ·rw[if_pos c2];exact wpS_pure ⟨rfl,hB2,c2⟩
   ·rw[if_neg c2];have hx:∀b:Bool,(if b=true then(pendingOf st2).size-2-1 else(pendingOf st2).size-2)+1<(pendingOf st2).size:=fun b=>by
     cases b
     ·rw[if_neg Bool.false_ne_true];lia
     ·rw[if_pos rfl];lia
    refine wpS_bind (Zbv o hc h0 hB2 (Nat.le_refl _) (hx _) fun st3 hB3 _ hs3=>?_);rw[if_neg (by decide)];exact wpS_pure ⟨rfl,hB3,by lia⟩
  ·rintro c st2 ⟨rfl,hB2,hp2⟩;refine wpS_pure (h st2 hB2.sb.arr ?_ hB2.sb.fail);have hz2:=hB2.sb.size;have hcov:=hB2.sb.cov;have hups:=hB2.ups;have hpl:(pendingOf st2).toList.length<=1:=by rw[Array.length_toList];exact hp2
   match hl:(pendingOf st2).toList,hpl with
   | [],_ =>
    rw[hl] at hcov;have h0:0=a₀.size:=hcov;refine Zko (n:=0) (fun x y _ _ _ _ h3=>by lia) (by lia)
   | [z],_ =>
    rw[hl] at hcov hups;obtain⟨z1,z2,z3⟩:=hcov;have z3':0+z.2.1=a₀.size:=z3;have hu:=hups z (List.mem_singleton.mpr rfl);rw[z1,z3'] at hu;exact Zko hu (by lia)
end
end Srd
namespace Srd
open PySem PyProof.Rows Srt PySem.W
section
variable{prog:Program}{w:World}{A:Around}{E:Value->Shared->Prop}{s:Shared}
def Zbf(prog:Program)(w:World)(A:Around)(lv:Value->Value->Bool)(vs:List Value)(s:Shared):Prop :=
 ∃ κ,(∀(Q:SortKind->Shared->Prop)(E:Value->Shared->Prop),Q κ s->wpAny (model prog w) A (keyKind' vs.toArray) Q E s)/\ZgP prog w A s κ (fun p=>p∈(pairsOf vs).toList) fun x y=>lv x.1 y.1
theorem ZcL{vs:List Value}{p:Keyed}(h:p∈(pairsOf vs).toList):p.1=p.2:=by
 rw[pairsOf_toList] at h;obtain⟨i,hi⟩:=List.mem_iff_getElem?.mp h;rw[List.getElem?_zip_eq_some] at hi;have:=hi.1.symm.trans hi.2;exact Option.some.inj this
theorem ZiH{lt:Keyed->Keyed->Bool}{vs:List Value}(h:vs.length<2):So lt (pairsOf vs).toList:=List.pairwise_iff_getElem.mpr fun i j hi hj hij=>by
 rw[Array.length_toList,pairsOf_size] at hi hj;lia
theorem Zil{lv:Value->Value->Bool}{vs:List Value}{xs:Array Keyed}(hp:xs.toList.Perm (pairsOf vs).toList)(h:So (fun x y=>lv x.1 y.1) xs.toList):(xs.map (·.2)).toList.Pairwise (fun u v=>lv v u=false):=by
 rw[Array.toList_map,List.pairwise_map];refine List.Pairwise.imp_of_mem (fun{x y} hx hy hxy=>?_) h;have hxy':lv y.1 x.1=false:=hxy;rw[ZcL (hp.mem_iff.mp hx),ZcL (hp.mem_iff.mp hy)] at hxy';exact hxy'
theorem Zfs{lv:Value->Value->Bool}(o:Swo fun x y=>lv x.1 y.1){a:Addr}{vs:List Value}{n:Nat}{P:Fin->Shared->Prop}(ho:s.heap.get? a=some (seqObj "list" vs.toArray n)) (hlen:vs.length<=90000)
  (hc:∀h6:Heap,(∀b o,b≠a->s.heap.get? b=some o->h6.get? b=some o)->2<=vs.length->Zbf prog w A lv vs { s with heap:=h6 })
  (h:∀out:Array Value,out.toList.Perm vs->out.toList.Pairwise (fun u v=>lv v u=false)->P (.done (.ret .none)) { s with heap:=sortedHeap s.heap a vs out }):wpAny (model prog w) A (Builtin.«list.sort» ⟨[.ref a],[]⟩) P E s:=by
 have hv:vs.toArray.size<=sizeLine:=by rw[List.size_toArray,sizeLine_eq];lia
 have ha:a<s.heap.objs.size:=Heap.lt_size ho;obtain⟨e1,ho1⟩:∃e1,(s.heap.update a (Obj.mapSeq fun _=>#[])).get? a=some (seqObj "list" #[] e1):=⟨_,get?_update_seq ho (fun _=>#[])⟩;rw[list_sort_plain];refine wpAny_bind (listItems_at ho rfl (wpAny_bind (listUpdate_at ho rfl (wpAny_bind (seqEpoch_at ho1 rfl (wpAny_bind (wpAny_newTuple (wpAny_bind (wpAny_newList (wpAny_holding ?_)))))))  hv (Nat.zero_le _))));have nT:a≠(s.heap.update a (Obj.mapSeq fun _=>#[])).objs.size:=by rw[Heap.size_update];exact Nat.ne_of_lt ha
 have nL:a≠((s.heap.update a (Obj.mapSeq fun _=>#[])).push (seqObj "tuple" vs.toArray 0)).objs.size:=by rw[size_push',Heap.size_update];exact Nat.ne_of_lt (Nat.lt_succ_of_lt ha)
 have ho6:(((s.heap.update a (Obj.mapSeq fun _=>#[])).push (seqObj "tuple" vs.toArray 0)).push (seqObj "list" #[] 0)).get? a=some (seqObj "list" #[] e1):=by
  rw[Heap.get?_push_ne _ _ _ nL,Heap.get?_push_ne _ _ _ nT];exact ho1
 have hkeep:∀b o,b≠a->s.heap.get? b=some o->(((s.heap.update a (Obj.mapSeq fun _=>#[])).push (seqObj "tuple" vs.toArray 0)).push (seqObj "list" #[] 0)).get? b=some o:=fun b o hb e=>by
  refine Heap.get?_push_of_some _ (Heap.get?_push_of_some _ ?_);rw[Heap.get?_update_other _ _ hb.symm];exact e
 show wpAny (model prog w) A _ P E { s with heap:=((s.heap.update a (Obj.mapSeq fun _=>#[])).push (seqObj "tuple" vs.toArray 0)).push (seqObj "list" #[] 0) };dsimp only;by_cases h2:vs.toArray.size<2
 ·rw[if_pos h2,if_pos h2];refine wpAny_bind (wpAny_pure ?_);rw[StateT.run_pure];refine wpAny_bind (wpAny_pure (wpAny_bind (seqEpoch_at ho6 rfl (wpAny_bind (listUpdate_at ho6 rfl ?_ (Nat.zero_le _) ?_)))))
  ·simp only[bne_self_eq_false,Bool.false_eq_true,if_false];exact wpAny_pure (h _ (ZeA (xs:=pairsOf vs) (List.Perm.refl _)) (Zil (xs:=pairsOf vs) (List.Perm.refl _) (ZiH (by rw[List.size_toArray] at h2;exact h2))))
  ·show((pairsOf vs).map (·.2)).size<=_;rw[Array.size_map,pairsOf_size,sizeLine_eq];lia
 ·rw[if_neg h2,if_neg h2];rw[List.size_toArray] at h2;obtain⟨κ,hkk,hcm⟩:=hc _ hkeep (by lia);refine wpAny_bind (hkk _ _ ?_);refine wpAny_bind (wpAny_mono (Zhi (a₀ := pairsOf vs) (Q:=fun _ st'=>(arrOf st').toList.Perm (pairsOf vs).toList/\So (fun x y=>lv x.1 y.1) (arrOf st').toList/\failedOf st'=none) o hcm (fun p hp=>hp) ⟨⟨List.Perm.refl _,rfl,rfl,rfl⟩,fun z hz=>(nomatch hz)⟩ fun st' a1 a3 a2=>⟨a1,a3,a2⟩) ?_ fun _ _ e=>e)
  rintro⟨⟨⟩,st'⟩ s' ⟨rfl,hp,hso,hf⟩;dsimp only;refine wpAny_bind (seqEpoch_at ho6 rfl (wpAny_bind (listUpdate_at ho6 rfl ?_ (Nat.zero_le _) ?_)))
  ·rw[hf];simp only[bne_self_eq_false,Bool.false_eq_true,if_false];exact wpAny_pure (h _ (ZeA hp) (Zil hp hso))
  ·have hp':(arrOf st').toList.Perm (pairsOf vs).toList:=hp;have:=hp'.length_eq;rw[Array.length_toList,Array.length_toList,pairsOf_size] at this;show((arrOf st').map (·.2)).size<=_;rw[Array.size_map,sizeLine_eq];lia
theorem Z8{lv:Value->Value->Bool}(o:Swo fun x y=>lv x.1 y.1){v:Value}{C:List Value->Prop}{Q:Value->Shared->Prop}
  (hcol:∀(Q':List Value->Shared->Prop)(E':Value->Shared->Prop),(∀(ys:List Value)(h':Heap)(tk:Nat)(d:Drawn),(∀b o,s.heap.get? b=some o->h'.get? b=some o)->C ys->ys.length<=90000->s.heap.objs.size<=h'.objs.size->Q' ys { s with heap:=h',toks:=tk,drawn:=d })->wpAny (model prog w) A.in1 (collect v) Q' E' s)
  (hc:∀(ys:List Value)(h6:Heap)(tk:Nat)(d:Drawn),C ys->(∀b o,s.heap.get? b=some o->h6.get? b=some o)->2<=ys.length->Zbf prog w A.in1.in1 lv ys { s with heap:=h6,toks:=tk,drawn:=d })
  (q:∀(p:Addr)(ys:List Value)(out:Array Value)(h':Heap)(tk:Nat)(d:Drawn)(c:Nat),C ys->out.toList.Perm ys->out.toList.Pairwise (fun u v=>lv v u=false)->(∀b o,s.heap.get? b=some o->h'.get? b=some o)->h'.get? p=some (seqObj "list" out c)->s.heap.objs.size<=p->out.size<=90000->Q (.ref p) { s with heap:=h',toks:=tk,drawn:=d }) :
  wpAny (model prog w) A (call (.builtin "sorted") [v]) Q E s:=by
 refine Calls.call_function_entry kind_sorted plain_sorted entry_sorted (args_sorted1 _) ?_;unfold Builtin.«sorted»;refine wpAny_bind (m:=checkCount "sorted" 1 1 _) (wpAny_pure (wpAny_bind (hcol _ _ fun ys h1 tk d k1 hC hyl hle=>wpAny_bind (wpAny_newList ?_ (by rw[sizeLine_eq];lia)))));have hoL:(h1.push (seqObj "list" ys.toArray 0)).get? h1.objs.size=some (seqObj "list" ys.toArray 0):=Heap.get?_push_size _ rfl;have keep:∀b o,s.heap.get? b=some o->(h1.push (seqObj "list" ys.toArray 0)).get? b=some o:=fun b o e=>Heap.get?_push_of_some _ (k1 b o e);have hbp:∀b o,s.heap.get? b=some o->h1.objs.size≠b:=fun b o e=>Nat.ne_of_gt (Nat.lt_of_lt_of_le (Heap.lt_size e) hle);change wpAny _ _ _ _ _ { s with heap:=h1.push (seqObj "list" ys.toArray 0),toks:=tk,drawn:=d };refine wpAny_bind (wpAny_holding (wpAny_call_entry slot_list_sort ⟨_,hoL,rfl⟩ entry_list_sort (Zfs (s:={ s with heap:=h1.push (seqObj "list" ys.toArray 0),toks:=tk,drawn:=d }) o hoL (by lia) (fun h6 k6 h2=>hc ys h6 tk d hC (fun b o e=>k6 b o (hbp b o e).symm (keep b o e)) h2) fun out hp hso=>⟨_,rfl,?_⟩) (args_list_sort _)));generalize h1.push (seqObj "list" ys.toArray 0)=h5 at hoL keep;obtain⟨e1,ho1⟩:∃e1,(h5.update h1.objs.size (Obj.mapSeq fun _=>#[])).get? h1.objs.size=some (seqObj "list" #[] e1):=⟨_,get?_update_seq hoL (fun _=>#[])⟩;have ho6:=Heap.get?_push_of_some (seqObj "list" #[] 0) (Heap.get?_push_of_some (seqObj "tuple" ys.toArray 0) ho1);have hol:out.size<=90000:=by rw[<- Array.length_toList,hp.length_eq];exact hyl
 refine wpAny_pure ⟨_,rfl,q h1.objs.size ys out (sortedHeap h5 h1.objs.size ys out) tk d _ hC hp hso (fun b o e=>?_) (get?_update_seq ho6 (fun _=>out)) hle hol⟩;unfold sortedHeap;rw[Heap.get?_update_other _ _ (hbp b o e)];refine Heap.get?_push_of_some _ (Heap.get?_push_of_some _ ?_);rw[Heap.get?_update_other _ _ (hbp b o e)];exact keep b o e
def Zgu:Value->Int
 | .int i _=>i
 | _=>0
def iLt(u v:Value):Bool:=decide (Zgu u<Zgu v)
theorem Zfx:Swo fun x y=>iLt x.1 y.1:=⟨fun x y h=>decide_eq_false (by have:=of_decide_eq_true h;lia),fun x y z h1 h2=>decide_eq_false (by have:=of_decide_eq_false h1;have:=of_decide_eq_false h2;lia)⟩
theorem Za8{vs:List Value}(hv:∀v∈vs,∃i t,v=Value.int i t)(h2:2<=vs.length):Zbf prog w A iLt vs s:=by
 refine⟨oneType',fun Q E hq=>kas_kind (T:=.type "int") h2 (fun v hm=>?_) rfl rfl hq,?_⟩
 ·obtain⟨i,t,rfl⟩:=hv v hm;exact Looks.of_pure rfl
 ·intro x y hx hy E;rw[pairsOf_toList] at hx hy;obtain⟨i,t,e⟩:=hv _ (mem_zip_self hx).2;obtain⟨i',t',e'⟩:=hv _ (mem_zip_self hy).2;rw[e,e',keyLt'_oneType];refine oneLt_int ⟨rfl,?_⟩;show decide (i<i')=decide (Zgu x.1<Zgu y.1);rw[e,e'];rfl
end
section
variable{prog:Program}{w:World}{A:Around}{E:Value->Shared->Prop}{s:Shared}{T:String}{r d:Addr}{n:Nat}{P:Nat->Value->Prop}{OK:Heap->Prop}
theorem ZcQ{Q:List Value->Shared->Prop}(K:KdlSrc prog w T r d n P OK)(hh:A.handled=none)(hok:OK s.heap)(hn:n<=sizeLine)
  (q:∀(acc:Array Value)(h':Heap)(tk:Nat),(∀b o,s.heap.get? b=some o->h'.get? b=some o)->ItemsOf P acc n->s.heap.objs.size<=h'.objs.size->Q acc.toList { s with heap:=h',toks:=tk }):wpAny (model prog w) A (collect (.ref r)) Q E s:=by
 unfold collect;refine wpAny_bind (wpAny_runValue (codeAny_builtin entry_proto_collect' ?_));change wpAny _ _ (do again (.builtin "list.__iadd__" ⟨[<- newList [],.ref r],[]⟩)) _ _ s;refine wpAny_bind (wpAny_newList (wpAny_pure ⟨Code.quiet_builtin _ (by decide +kernel),codeAny_builtin entry_list_iadd' ?_⟩));change wpAny _ A.in1 (Builtin.List.listExtendWith (.ref s.heap.objs.size) (.ref r) (.ref s.heap.objs.size)) _ _ { s with heap:=s.heap.push (seqObj "list" #[] 0) };have hlt:=K.there _ hok;refine kdl_extend (R:=wants (fun v s'=>wpAny (model prog w) A (match v with
     | Value.ref a=>do
      let o <- load a
      match o.data with
      | .seq xs _=>pure xs.toList
      | _=>unsupported "internal:collect"
     | _=>unsupported "internal:collect") Q E s') E) (s:={ s with heap:=s.heap.push (seqObj "list" #[] 0) }) K hh (K.keep _ _ hok fun b _ o e=>Heap.get?_push_of_some _ e) s.heap.objs.size (Nat.ne_of_gt hlt.1) (Nat.ne_of_gt hlt.2) _ 0 (Heap.get?_push_size _ rfl) (fun h' tk acc c kp hS hit=>?_) hn
 refine wpAny_bind (wpAny_load hS ?_);refine wpAny_pure ?_;exact q acc h' tk (fun b o e=>kp b o (Nat.ne_of_lt (Heap.lt_size e)) (Heap.get?_push_of_some _ e)) hit (Nat.le_of_lt (Heap.lt_size hS))
end
end Srd
namespace Srd
open PySem PyProof.Rows
theorem ZeS:typeLookup (.type "list") "keys" = pure none:=by rw[typeLookup_type,builtinLookup_eq_fast];kernel_rfl
theorem Za7:isSubtype (.type "AttributeError") (.type "AttributeError")=pure true:=by rw[isSubtype_type];kernel_rfl
section
variable{prog:Program}{w:World}{A:Around}{E:Value->Shared->Prop}{h:Heap}{g:Array GenState}{d:Drawn}{t:Nat}{os:OsState}{a:Addr}
theorem ZgD{α : Type}{Q : α -> Shared->Prop}{o:Value}{name msg:Str}(hh:A.handled=none)(hm:msg.length<=sizeLine)(hq:∀(x:Addr) (h':Heap) (tk:Nat),(∀b u,h.get? b=some u->h'.get? b=some u)->(∃ob,h'.get? x=some ob/\ob.cls=.type "AttributeError")->h.objs.size<=h'.objs.size->E (.ref x) ⟨h',g,d,tk,os⟩) :
  wpAny (model prog w) A (raiseAttrError o name msg:Sem α) Q E ⟨h,g,d,t,os⟩:=by
 unfold raiseAttrError
 repeat (any_goals (first|assumption|wp_step))
 refine wpAny_of_eq Za7 ?_;rw[if_neg (by decide)];generalize hfa:(if((Manifest.find? "AttributeError").elim false fun t=>t.mro.contains "StopIteration" || t.mro.contains "SystemExit")=true then [Value.str msg t].headD Value.none else Value.none)=fa
 have k1:∀b u,h.get? b=some u->(h.push { cls:=Value.type "tuple",data:=Data.seq #[Value.str msg t] }).get? b=some u:=fun b u e=>Heap.get?_push_of_some _ e;have z1:(h.push { cls:=Value.type "tuple",data:=Data.seq #[Value.str msg t] }).objs.size=h.objs.size+1:=Heap.size_push ..;generalize h.push { cls:=Value.type "tuple",data:=Data.seq #[Value.str msg t] }=h1 at k1 z1;have e1:(h1.push { cls:=Value.type "AttributeError",data:=Data.fields (#[Value.ref h.objs.size,Value.none,Value.none,Value.none,Value.bool false,fa]++ownMembersOf (Value.type "AttributeError") [Value.str msg t]) }).get? h1.objs.size=some { cls:=Value.type "AttributeError",data:=Data.fields (#[Value.ref h.objs.size,Value.none,Value.none,Value.none,Value.bool false,fa]++ownMembersOf (Value.type "AttributeError") [Value.str msg t]) }:=Heap.get?_push_size _ rfl;have k2:∀b u,h.get? b=some u->(h1.push { cls:=Value.type "AttributeError",data:=Data.fields (#[Value.ref h.objs.size,Value.none,Value.none,Value.none,Value.bool false,fa]++ownMembersOf (Value.type "AttributeError") [Value.str msg t]) }).get? b=some u:=fun b u e=>Heap.get?_push_of_some _ (k1 b u e);have z2:(h1.push { cls:=Value.type "AttributeError",data:=Data.fields (#[Value.ref h.objs.size,Value.none,Value.none,Value.none,Value.bool false,fa]++ownMembersOf (Value.type "AttributeError") [Value.str msg t]) }).objs.size=h1.objs.size+1:=Heap.size_push ..;generalize h1.push { cls:=Value.type "AttributeError",data:=Data.fields (#[Value.ref h.objs.size,Value.none,Value.none,Value.none,Value.bool false,fa]++ownMembersOf (Value.type "AttributeError") [Value.str msg t]) }=h2 at e1 k2 z2;refine wpAny_bind (wpAny_load e1 ?_);dsimp only;have v6:(#[Value.ref h.objs.size,Value.none,Value.none,Value.none,Value.bool false,fa]++ownMembersOf (Value.type "AttributeError") [Value.str msg t])[6]?= some unsetMember:=rfl;have v7:(#[Value.ref h.objs.size,Value.none,Value.none,Value.none,Value.bool false,fa]++ownMembersOf (Value.type "AttributeError") [Value.str msg t])[7]?= some unsetMember:=rfl;refine wpAny_ite_split (fun hab=>absurd hab (by rw[v6,v7];decide)) (fun _=>wpAny_ite_split (fun hab=>absurd hab (by rw[v6,v7];decide)) (fun _=>wpAny_pure ?_));rw[if_pos rfl];refine wpAny_bind (wpAny_rule (wpAny_bind (wpAny_typeOf (T := "AttributeError") ⟨_,e1,rfl⟩ ?_)));dsimp only;unfold layMembers;refine wpAny_bind (wpAny_load e1 ?_);dsimp only;refine wpAny_update e1 ?_;unfold raiseNew;refine wpAny_bind (wpAny_handled ?_);rw[hh];refine wpAny_throw (hq _ _ _ (fun b u e=>?_) ?_ ?_)
 ·rw[Heap.get?_update_other _ _ (show h1.objs.size≠b from fun z=>?_)]
  ·exact k2 b u e
  ·have:=Heap.lt_size e;have h3:h1.objs.size<h.objs.size:=z ▸ this;lia
 ·exact⟨_,Heap.get?_update_self _ e1 rfl,rfl⟩
 ·rw[Heap.size_update];show h.objs.size<=h2.objs.size;lia
theorem Zc8{tk:Tok}{Q:Fin->Shared->Prop}{its:Array Value}{n:Nat}{sl:Array (Option Value)}(hh:A.handled=none)(hx:h.get? a=some { cls:=.type "list",dict:=none,data:=.seq its n,slots:=sl }) (hq:∀(x:Addr)(h':Heap)(tk:Nat),(∀b u,h.get? b=some u->h'.get? b=some u)->(∃ob,h'.get? x=some ob/\ob.cls=.type "AttributeError")->h.objs.size<=h'.objs.size->E (.ref x) ⟨h',g,d,tk,os⟩) :
  wpAny (model prog w) A (Builtin.«object.__getattribute__» ⟨[.ref a,.str "keys" tk],[]⟩) Q E ⟨h,g,d,t,os⟩:=by
 have hT:(⟨h,g,d,t,os⟩:Shared).TypeIs (.ref a) "list" := ⟨_,hx,rfl⟩;have f4:=ZeS
 repeat (any_goals (first|assumption|with_reducible apply ZgD hh|wp_step))
 decide +kernel
theorem Zc9:typeLookup (.type "list") "__getattr__" = pure none:=by rw[typeLookup_type,builtinLookup_eq_fast];kernel_rfl
theorem Zdz{tk:Tok}{R:Result->Shared->Prop}{its:Array Value}{n:Nat}{sl:Array (Option Value)}(hh:A.handled=none)(hx:h.get? a=some { cls:=.type "list",dict:=none,data:=.seq its n,slots:=sl }) (hq:∀(x:Addr)(h':Heap)(tk:Nat),(∀b u,h.get? b=some u->h'.get? b=some u)->(∃ob,h'.get? x=some ob/\ob.cls=.type "AttributeError")->h.objs.size<=h'.objs.size->R (.error (.ref x)) ⟨h',g,d,tk,os⟩) :
  codeAny (model prog w) A (.call (.builtin "list.__getattribute__") ⟨[.ref a,.str "keys" tk],[]⟩) R ⟨h,g,d,t,os⟩ :=
 codeAny_call_builtin F.slot_list_getattribute.plain F.entry_list_ga (F.slot_list_getattribute.check _ _ _ _ _ _ _ _ (show(⟨h,g,d,t,os⟩:Shared).TypeIs (.ref a) "list" from⟨_,hx,rfl⟩) (F.args_list_getattribute_2 _ _) (Zc8 hh hx hq))
theorem Zew{tk:Tok}{Q:Value->Shared->Prop}{its:Array Value}{n:Nat}{sl:Array (Option Value)}(hh:A.handled=none)(hx:h.get? a=some { cls:=.type "list",dict:=none,data:=.seq its n,slots:=sl }) (hq:∀(x:Addr)(h':Heap)(tk:Nat),(∀b u,h.get? b=some u->h'.get? b=some u)->(∃ob,h'.get? x=some ob/\ob.cls=.type "AttributeError")->h.objs.size<=h'.objs.size->E (.ref x) ⟨h',g,d,tk,os⟩) :
  wpAny (model prog w) A (getAttrBy (.ref a) (.str "keys" tk) false) Q E ⟨h,g,d,t,os⟩:=by
 have hT:(⟨h,g,d,t,os⟩:Shared).TypeIs (.ref a) "list" := ⟨_,hx,rfl⟩;have f2:=F.slot_list_getattribute.lookup;have f3:=F.slot_list_getattribute.bind (.ref a);have f4:=Zc9
 repeat (any_goals (first|assumption|wp_step))
 refine Zdz hh hx fun x h' tk' k1 k2 k3=>?_;obtain⟨ob,e2,c2⟩:=k2;dsimp only;unfold getattributeRaised;refine wpAny_bind (wpAny_isInstance (T := "AttributeError") (b:=true) ⟨ob,e2,c2⟩ Za7 ?_);rw[if_pos rfl];unfold hookBehind;rw[if_neg (by decide)];refine wpAny_bind (wpAny_of_eq f4 ?_);unfold hookOrError attributeErrorLeaves;dsimp only;rw[if_pos (by decide)];exact wpAny_bind (wpAny_throw (hq x h' tk' k1 ⟨ob,e2,c2⟩ k3))
theorem Zdw{Q:Option Value->Shared->Prop}{its:Array Value}{n:Nat}{sl:Array (Option Value)}(hh:A.handled=none)(hx:h.get? a=some { cls:=.type "list",dict:=none,data:=.seq its n,slots:=sl }) (hq:∀(h':Heap)(tk:Nat),(∀b u,h.get? b=some u->h'.get? b=some u)->h.objs.size<=h'.objs.size->Q none ⟨h',g,d,tk,os⟩) :
  wpAny (model prog w) A (getAttr? (.ref a) "keys") Q E ⟨h,g,d,t,os⟩:=by
 unfold getAttr? getAttrBy?
 repeat (any_goals (first|assumption|with_reducible apply Zew hh hx|wp_step))
 intro x h' tk' k1 k2 k3;obtain⟨ob,e2,c2⟩:=k2;dsimp only;refine wpAny_bind (wpAny_isInstance (T := "AttributeError") (b:=true) ⟨ob,e2,c2⟩ Za7 ?_);rw[if_pos rfl];exact wpAny_pure (hq h' tk' k1 k3)
end
theorem ZaA:entryFor table "dict.update.loop" = some Builtin.«dict.update.loop» := entryFor_of_tree (by kernel_rfl)
theorem ZW:plainId "dict.update.loop" = true:=by decide +kernel
section
variable{prog:Program}{w:World}{K:Type}[DecidableEq K]{knd:KeyKind prog w K}{A:Around}{E:Value->Shared->Prop}{R:Result->Shared->Prop}
def ZhN(knd:KeyKind prog w K)(h:Heap)(v:Value)(k:K)(u:Value):Prop := ∃b o n uk,v=.ref b/\h.get? b=some o/\o.cls=.type "tuple" /\ o.data=.seq #[uk,u] n/\knd.is k uk=true
def Zhv(knd:KeyKind prog w K)(h0:Heap)(d:Addr)(items:Array Value)(ps:List (K×Value)):Prop:=items.size=ps.length/\∀(i:Nat) v p,items[i]?= some v->ps[i]?= some p->∀h:Heap,(∀b o,b<d->h0.get? b=some o->h.get? b=some o)->ZhN knd h v p.1 p.2
theorem pair_items{s:Shared}{v:Value}{k:K}{u:Value}{Q:List Value->Shared->Prop}(hp:ZhN knd s.heap v k u)(q:∀uk,knd.is k uk=true->Q [uk,u] s):wpAny (model prog w) A (Builtin.Dict.pairItems v) Q E s:=by
 obtain⟨b,o,n,uk,rfl,ho,hc,hd,hk⟩:=hp;unfold Builtin.Dict.pairItems;refine wpAny_bind (wpAny_typeOf (T := "tuple") ⟨o,ho,hc⟩ ?_);rw[if_pos (by decide)];refine wpAny_bind (wpAny_seqItems ho hd (wpAny_pure (q uk hk)))
set_option maxHeartbeats 1000000 in
theorem Zh5{h0:Heap}{D I l:Addr}{items:Array Value}{ps:List (K×Value)}(hh:A.in1.handled=none)(ht:Zhv knd h0 D items ps)(hDI:D<I)(hlI:l≠I)(hn:items.size<=100000):∀(k i:Nat)(j:Int)(jt:Tok)(s:Shared),items.size-i=k->i<=items.size->(s.heap.IsListIter I l i/\s.heap.IsList l items)->l<D->s.heap.DictOf knd D (merged [] (ps.take i))->(∀b o,b<D->h0.get? b=some o->s.heap.get? b=some o) ->
   (∀h' tk,h'.DictOf knd D (merged [] ps)->(∀b o,b<D->h0.get? b=some o->h'.get? b=some o)->R (.ok (.ret .none)) { s with heap:=h',toks:=tk })->codeAny (model prog w) A (.builtin "dict.update.loop" ⟨[.ref D,.ref I,.int j jt,.none],[]⟩) R s:=by
 have W:=Walks.list (prog:=prog) (w:=w) (A:=A.in1) hh I l hlI items;have DK:∀{h h':Heap}{kvs:List (K×Value)},h.DictOf knd D kvs->(∀b o,b<=D->h.get? b=some o->h'.get? b=some o)->h'.DictOf knd D kvs:=fun{h h' kvs} ⟨o,es,ep,ho,r⟩ hk=>⟨o,es,ep,hk D o (Nat.le_refl _) ho,r⟩;intro k
 induction k with
 | zero =>
  intro i j jt s hk hi hst hlD hd hb hR;obtain rfl:i=items.size:=by lia
  refine codeAny_builtin ZaA ?_;rw[Around.under_plainId ZW _];change wpAny _ A.in1 (pyNext (.ref I) >>= _) _ _ s;refine wpAny_bind (W.done s _ _ hst fun h' tk hm=>?_);change wpAny _ A.in1 (Builtin.Dict.addKeywords D [] >>= fun _=>ret Value.none) _ _ _;refine wpAny_bind ?_;unfold Builtin.Dict.addKeywords;refine wpAny_pure (wpAny_pure ?_);rw[ht.1,List.take_length] at hd;exact hR h' tk (DK hd fun b o hb' e=>hm b o (fun z=>Nat.lt_irrefl _ (Nat.lt_of_le_of_lt (List.mem_singleton.mp z ▸ hb') hDI)) e) fun b o hb' e=>hm b o (fun z=>Nat.lt_irrefl _ (Nat.lt_trans (List.mem_singleton.mp z ▸ hb') hDI)) (hb b o hb' e)
 | succ k ih =>
  intro i j jt s hk hi hst hlD hd hb hR;have hlt:i<items.size:=by lia
  refine codeAny_builtin ZaA ?_;rw[Around.under_plainId ZW _];change wpAny _ A.in1 (pyNext (.ref I) >>= _) _ _ s;refine wpAny_bind (W.item i s _ _ hlt hst fun v h' tk hP hst' hm=>?_);have hd':h'.DictOf knd D (merged [] (ps.take i)):=DK hd fun b o hb' e=>hm b o (fun z=>Nat.lt_irrefl _ (Nat.lt_of_le_of_lt (List.mem_singleton.mp z ▸ hb') hDI)) e;have hb1:∀b o,b<D->h0.get? b=some o->h'.get? b=some o:=fun b o hb' e=>hm b o (fun z=>Nat.lt_irrefl _ (Nat.lt_trans (List.mem_singleton.mp z ▸ hb') hDI)) (hb b o hb' e);have hpl:i<ps.length:=by have:=ht.1;lia
  have hp:=ht.2 i v ps[i] hP (List.getElem?_eq_getElem hpl) h' hb1;refine wpAny_bind (wpAny_holding (wpAny_bind (wpAny_tryCatch (pair_items (s:={ s with heap:=h',toks:=tk }) hp fun uk huk=>?_))));dsimp only;have hml:(merged [] (ps.take i)).length<=sizeLine:=by
   have:=merged_length_le ([]:List (K×Value)) (ps.take i);rw[List.length_take] at this;have h0l:([]:List (K×Value)).length=0:=rfl;have:=ht.1;rw[sizeLine_eq];lia
  refine wpAny_holding (wpAny_dictSet_pairs (s:={ s with heap:=h',toks:=tk }) (hsz:=hml) huk hd' fun h2 hd2 sb=>?_);have hk2:∀b o,b≠D->h'.get? b=some o->h2.get? b=some o:=fun b o hb e=>(sb.2 b hb).trans e;refine wpAny_pure ⟨plainId_quiet ZW _,ih (i+1) (j+1) 0 _ (by lia) hlt ?_ hlD ?_ (fun b o hb' e=>hk2 b o (Nat.ne_of_lt hb') (hb1 b o hb' e)) fun h3 tk3 hw3 hb3=>hR h3 tk3 hw3 hb3⟩
  ·refine W.frame _ h' h2 hst' fun b hb o e=>hk2 b o (fun z=>?_) e;simp only[List.mem_cons,List.not_mem_nil,or_false] at hb;rcases hb with rfl|rfl
   ·exact Nat.lt_irrefl _ (z ▸ hDI)
   ·exact Nat.lt_irrefl _ (z ▸ hlD)
  ·rw[merged_take_succ [] ps i ps[i] (List.getElem?_eq_getElem hpl)];exact hd2
set_option maxHeartbeats 1000000 in
theorem Zdf{s:Shared}{l:Addr}{items:Array Value}{n:Nat}{sl:Array (Option Value)}{ps:List (K×Value)}{Q:Value->Shared->Prop}(hh:A.handled=none)(hl:s.heap.get? l=some { cls:=.type "list",dict:=none,data:=.seq items n,slots:=sl }) (ht:Zhv knd s.heap s.heap.objs.size items ps) (hn:items.size<=100000)
  (q:∀(h':Heap)(tk:Nat),h'.DictOf knd s.heap.objs.size (merged [] ps)->(∀b o,s.heap.get? b=some o->h'.get? b=some o)->Q (.ref s.heap.objs.size) { s with heap:=h',toks:=tk }) :
  wpAny (model prog w) A (call (.type "dict") [.ref l]) Q E s:=by
 refine callType_codes (Q₁ := fun obj s₁=>obj=.ref s.heap.objs.size/\s₁ = { s with heap:=s.heap.push { cls:=.type "dict",data:=.dict #[] } }) F.kt_called_dict (F.kt_typeCall_dict_1 _) F.entry_dict_init (kt_code_dict_new _ ⟨rfl,rfl⟩) ?_;rintro obj s₁ ⟨rfl,rfl⟩;have hnew:(s.heap.push { cls:=.type "dict",data:=.dict #[] }).DictOf knd s.heap.objs.size []:=Heap.DictOf.new s.heap;have hl1:(s.heap.push { cls:=.type "dict",data:=.dict #[] }).get? l=some { cls:=.type "list",dict:=none,data:=.seq items n,slots:=sl }:=Heap.get?_push_of_some _ hl;have hlD:l<s.heap.objs.size:=Heap.lt_size hl;have k0:∀b o,b<s.heap.objs.size->s.heap.get? b=some o->(s.heap.push { cls:=.type "dict",data:=.dict #[] }).get? b=some o:=fun b o _ e=>Heap.get?_push_of_some _ e;have z0:(s.heap.push { cls:=.type "dict",data:=.dict #[] }).objs.size=s.heap.objs.size+1:=Heap.size_push ..;refine⟨hnew.typeIs,F.args_dict_init_2 _ _,?_⟩;generalize s.heap.push { cls:=.type "dict",data:=.dict #[] }=h1 at hnew hl1 k0 z0;unfold Builtin.«dict.__init__»;refine wpAny_bind ?_;unfold Builtin.Dict.selfAndRest;refine wpAny_bind (wpAny_notOrdered_dict hnew.typeIs ?_);show wpAny _ _ (pure (s.heap.objs.size,[Value.ref l])) _ _ _;refine wpAny_pure ?_;show wpAny _ _ (Builtin.Dict.updateFrom "dict.__init__" s.heap.objs.size (.ref l) [] .none) _ _ _;unfold Builtin.Dict.updateFrom;refine wpAny_bind (wpAny_typeOf (T := "list") ⟨_,hl1,rfl⟩ ?_);rw[if_pos (by decide)];refine wpAny_bind (Zdw hh hl1 fun h2 tk2 k2 z2=>?_);rw[if_pos (show(none:Option Value).isNone=true from rfl)];refine wpAny_bind (wpAny_rule ?_);have hl2:=k2 _ _ hl1;have hL2:h2.IsList l items:=⟨_,hl2,rfl,n,rfl⟩;refine wpAny_bind (wpAny_pyIter_list hL2 ?_);have hd2:h2.DictOf knd s.heap.objs.size []:=let ⟨o,es,ep,ho,r⟩:=hnew;⟨o,es,ep,k2 _ _ ho,r⟩;have hd3:(h2.push { cls:=.type "list_iterator",data:=.fields #[.ref l,.int 0 0] }).DictOf knd s.heap.objs.size []:=hd2.push _;have hsz:s.heap.objs.size<h2.objs.size:=by lia
 refine wpAny_pure ⟨plainId_quiet ZW _,?_⟩;refine Zh5 (knd:=knd) (h0:=s.heap) (by simpa using hh) ht hsz (Nat.ne_of_lt (Nat.lt_trans hlD hsz)) hn (items.size-0) 0 0 0 _ rfl (Nat.zero_le _) ⟨⟨_,Heap.get?_push_size _ rfl,rfl,rfl⟩,hL2.push _⟩ hlD hd3 (fun b o hb e=>Heap.get?_push_of_some _ (k2 _ _ (k0 b o hb e))) fun h' tk hd' hb'=>?_;exact⟨rfl,q h' tk hd' fun b o e=>hb' b o (Heap.lt_size e) e⟩
end
end Srd
namespace L2
open PySem PySem.Spec PyProof.Rows PySem.W
def putAll(kvs:List (Key×V)):List (Key×V):=kvs.foldl (fun m kv=>putK m kv.1 kv.2) []
theorem Zbz:∀(kvs m:List (Key×V)),(kvs.foldl (fun m kv=>putK m kv.1 kv.2) m).length<=m.length+kvs.length
 | [],m=>Nat.le_refl _
 | kv::kvs,m=>by
  have h1:=Zbz kvs (putK m kv.1 kv.2);have h2:=ZaZ m kv.1 kv.2;rw[List.length_cons,List.foldl_cons];lia
theorem Zcf(kvs:List (Key×V)):(putAll kvs).length<=kvs.length:=by
 have:=Zbz kvs [];rw[List.length_nil,Nat.zero_add] at this;exact this
theorem Zju:∀{kvs:List (Key×V)}{ps:List (Key×Value)}{m:List (Key×V)}{m':List (Key×Value)},KV kvs ps->KV m m'->KV (kvs.foldl (fun m kv=>putK m kv.1 kv.2) m) (merged m' ps)
 | _,_,_,_,.nil,h=>h
 | _,_,m,m',.cons (a:=kv) (b:=p) r t,h=>by
  have e:p.1=kv.1:=r.1.symm;have h1:=h.put kv.1 r.2;have h2:=Zju t h1;show KV (List.foldl _ (putK m kv.1 kv.2) _) (merged (stored m' p.1 p.2) _);rw[e];exact h2
section
variable{X:Cx}
theorem Za4(hc:X.calm=true):Zb2 X (.type "dict") (fun xs H Q=>∃l ys kvs,xs=[.ref l]/\SqL X.K H l ys/\ys.length<=90000/\Paired (fun(y:V)(kv:Key×V)=>∃t,y=.ref t/\H t=some (.tup [kV kv.1,kv.2])) ys kvs/\∀d,H d=none->Q (.ref d) (upd H d (.dK (putAll kvs)))):=by
 intro pins s σ H xs us Q I r h;obtain⟨l,ys,kvs,rfl,hq,hlen,hp,q⟩:=h;obtain⟨u,rfl,ru⟩:=vals1 r;cases ru;obtain⟨its,rv,⟨o,n,ho,ocl,odi,oda⟩,hz⟩:=I.list hq;have hl:=rv.length;obtain⟨ocls,odict,odata,oslots⟩:=o;simp only at ocl odi oda;subst ocl odi oda;have key:∀{ys:List V}{kvs:List (Key×V)}{its:List Value},Paired (fun(y:V)(kv:Key×V)=>∃t,y=.ref t/\H t=some (.tup [kV kv.1,kv.2])) ys kvs->Vals ys its->∃ps:List (Key×Value),KV kvs ps/\its.length=ps.length/\∀(i:Nat) v p,its[i]?= some v->ps[i]?= some p->Srd.ZhN (Zn X.prog X.w) s.heap v p.1 p.2:=by
  intro ys kvs its hp
  induction hp generalizing its with
  | nil =>
   intro rv;cases rv;exact⟨[],.nil,rfl,fun i v p h=>(nomatch h)⟩
  | @cons y kv ys kvs r t ih =>
   intro rv;cases rv with
   | @cons _ v _ its ry rr =>
    obtain⟨ps,h1,h2,h3⟩:=ih rr;obtain⟨ta,rfl,ht⟩:=r;obtain rfl:v=Value.ref ta:=ry;obtain⟨_,us,rus,o,ho,hc',n,hd⟩:=I.hok ta _ ht;obtain⟨u1,u2,rfl,r1,r2⟩:=Vals.two rus;refine⟨(kv.1,u2)::ps,.cons ⟨rfl,r2⟩ h1,by rw[List.length_cons,List.length_cons,h2],fun i v p e1 e2=>?_⟩;cases i with
    | zero =>
     injection e1 with e1;injection e2 with e2;subst e1 e2;exact⟨ta,o,n,u1,rfl,ho,hc',hd,ZfJ r1⟩
    | succ i=>exact h3 i v p e1 e2
 obtain⟨ps,h1,h2,h3⟩:=key hp rv;refine Srd.Zdf (knd:=Zn X.prog X.w) (ps:=ps) (I.ok.hd hc) ho ⟨by rw[List.size_toArray];exact h2,fun i v p e1 e2 h' hk=>?_⟩ (by rw[List.size_toArray];lia) fun h' tk hd' hk=>?_
 ·obtain⟨b,o,n,uk,e,ho2,r⟩:=h3 i v p (by rw[<- e1];simp) e2;exact⟨b,o,n,uk,e,hk b o (Heap.lt_size ho2) ho2,r⟩
 ·have hkl:kvs.length=ps.length:=h1.length;have hpl:=Zcf kvs;exact⟨.ref _,_,I.laid (t':=tk) (fun b o e=>hk b o e) (Nat.le_refl _) (show Z4 X.prog X.w _ h' _ (.dK (putAll kvs)) from⟨by rw[sizeLine_eq];lia,beq_eq_false_iff_ne.mpr (Ne.symm (Nat.ne_of_lt I.big)),_,Zju h1 .nil,hd'⟩),rfl,q _ (I.hok.fresh (Nat.le_refl _))⟩
theorem ZeF{zs:List V}{ns:List Int}(h:zs.Perm (ns.map V.int)):∃ms:List Int,zs=ms.map V.int/\ms.Perm ns:=by
 obtain⟨ms,rfl,_⟩:=ZfV zs fun z hz=>h.mem_iff.mp hz;refine⟨ms,rfl,?_⟩;have h2:=h.filterMap (fun v=>match v with|V.int i=>some i|_=>none)
 simpa[List.filterMap_map,Function.comp_def] using h2
theorem Zff:∀{vs:List V}{us:List Value},Vals vs us->∀v∈vs,∃u∈us,RelV v u
 | _,_,.cons a t,v,hv=>by
  rcases List.mem_cons.mp hv with rfl|hv
  ·exact⟨_,List.mem_cons_self ..,a⟩
  ·obtain⟨u,hu,r⟩:=Zff t v hv;exact⟨u,List.mem_cons_of_mem _ hu,r⟩
theorem rising:∀{ms:List Int}{us:List Value},Vals (ms.map V.int) us->us.Pairwise (fun u v=>Srd.iLt v u=false)->ms.Pairwise (· <= ·)
 | [],_,_,_=>.nil
 | m::ms,us,r,h=>by
  cases r with
  | cons r rr =>
   obtain⟨t,rfl⟩:=r;obtain⟨h1,h2⟩:=List.pairwise_cons.mp h;refine List.pairwise_cons.mpr ⟨fun m' hm=>?_,rising rr h2⟩;obtain⟨u,hu,ru⟩:=Zff rr (V.int m') (List.mem_map.mpr ⟨m',hm,rfl⟩);obtain⟨t',rfl⟩:=ru;have:=of_decide_eq_false (h1 _ hu);have h3 : ¬ m'<m:=this;lia
theorem strictly{ms:List Int}(h:ms.Pairwise (· <= ·))(hn:ms.Nodup):ms.Pairwise (· < ·):=by
 refine List.pairwise_iff_getElem.mpr fun i j hi hj hij=>?_;have h1:=(List.pairwise_iff_getElem.mp h) i j hi hj hij;have h2:=(List.pairwise_iff_getElem.mp hn) i j hi hj hij;lia
theorem Zhl{P:Program}{w:World}{kvs:List (Key×V)}{ps:List (Key×Value)}(h:KV kvs ps):∀{es:List DictEntry}{ns:List Int},PySem.Pairs (Zn P w) es ps->kvs.map (·.1)=ns.map Sum.inl->Vals (ns.map V.int) (es.map (·.key)):=by
 have h':Paired (fun(p:Key×V)(q:Key×Value)=>p.1=q.1/\RelV p.2 q.2) kvs ps:=h;clear h
 induction h' with
 | nil =>
  intro es ns h2 e;cases h2;cases ns with
  | nil=>exact .nil
  | cons n ns=>cases e
 | cons r t ih =>
  intro es ns h2 e;cases h2 with
  | cons h1 h2 h3 =>
   cases ns with
   | nil=>cases e
   | cons n ns =>
    rw[List.map_cons,List.map_cons] at e;obtain⟨e1,e2⟩:=List.cons.inj e;refine .cons ?_ (ih h3 e2);rw[<- r.1,e1] at h1;have h1':ZeG (Sum.inl n) _=true:=h1;rcases ZV h1' with⟨i,t,he,hk⟩|⟨x,t,he,hk⟩
    ·cases he;exact⟨t,hk⟩
    ·cases he
theorem Zik:∀{kvs:List (Key×V)}{vs:List (Key×Value)},KV kvs vs->kvs.map (·.1)=vs.map (·.1)
 | _,_,.nil=>rfl
 | _,_,.cons r t=>by rw[List.map_cons,List.map_cons,r.1,Zik t]
theorem ZdA(hc:X.calm=true):Zb2 X (.builtin "sorted") (fun xs H Q=>∃(d:Addr)(kvs:List (Key×V))(ns:List Int),xs=[.ref d]/\H d=some (.dK kvs)/\kvs.length<=90000/\kvs.map (·.1)=ns.map Sum.inl/\∀(p:Addr)(ms:List Int),H p=none->ms.Perm ns->ms.Pairwise (· < ·)->Q (.ref p) (upd H p (.lst (ms.map V.int)))):=by
 intro pins s σ H xs us Q I r h;obtain⟨d,kvs,ns,rfl,hd,hlen,hkn,q⟩:=h;obtain⟨u,rfl,rx⟩:=vals1 r;obtain rfl:u=.ref d:=rx;obtain⟨hl,lo,vs,kv,o,es,ep,ho,hx,hdat,hko,hpr,hnd⟩:=ZiN I.hok hd;have hvals:=Zhl kv hpr hkn;have hkl:kvs.length=vs.length:=kv.length;have hnl:kvs.length=ns.length:=by have:=congrArg List.length hkn;simpa using this
 have hes:es.size=ns.length:=by
  have:=hvals.length
  simpa using this.symm
 have hnod:ns.Nodup:=by
  rw[<- Zik kv,hkn] at hnd;exact(List.pairwise_map.mp hnd).imp fun h e=>h (by rw[e])
 refine Srd.Z8 (C:=fun ys=>Vals (ns.map V.int) ys) Srd.Zfx (fun Q' E' hq=>?_) (fun ys h6 tk d6 hC k6 h2=>Srd.Za8 (fun v hv=>?_) h2) fun p ys out h' tk d6 c hC hperm hso kp e3 hle hos=>?_
 ·refine Srd.ZcQ (Zd7 lo) (I.ok.hd hc) (⟨o,ho,hx,hdat⟩:ZfP s.heap d es ep) (by rw[sizeLine_eq];lia) fun acc h' tk kp hit hle=>?_;have hacc:acc.toList=es.toList.map (·.key):=by
   refine List.ext_getElem? fun j=>?_;rw[Array.getElem?_toList,List.getElem?_map,Array.getElem?_toList];cases hj:acc[j]? with
   | none =>
    have h3:acc.size<=j:=Array.getElem?_eq_none_iff.mp hj;rw[hit.1] at h3;rw[Array.getElem?_eq_none h3];rfl
   | some v =>
    obtain⟨e,h1,rfl⟩:=hit.2 j v hj;rw[h1];rfl
  rw[hacc];exact hq _ h' tk s.drawn kp hvals (by rw[List.length_map,Array.length_toList];lia) hle
 ·obtain⟨y,hy,ry⟩:=ZbH hC v hv;obtain⟨i,_,rfl⟩:=List.mem_map.mp hy;obtain⟨t,rfl⟩:=ry;exact⟨i,t,rfl⟩
 ·obtain⟨zs,pz,rz⟩:=ZeL hperm hC;obtain⟨ms,rfl,pm⟩:=ZeF pz;have hzl:=rz.length;have I2:=I.laid (h':=h') (t':=tk) (a:=p) (o:=.lst (ms.map V.int)) (fun b o e=>kp b o e) hle (show Z4 X.prog X.w _ h' _ (.lst (ms.map V.int)) from⟨by rw[hzl,Array.length_toList,sizeLine_eq];lia,out.toList,c,rz,e3⟩);exact⟨.ref p,_,I2.draws (d:=d6),rfl,q p ms (I.hok.fresh hle) pm (strictly (rising rz hso) ((pm.nodup_iff).mpr hnod))⟩
end
end L2
namespace Stg
open PySem Sts
def tm(m:Nat):SetTable:={ mask:=m,place :=#[],dummies :=#[],finger:=0,led:=true,moves:=0,plain:=true }
theorem Zi4{t t':SetTable}(e:t.mask=t'.mask)(p:SetTable.Probe):t.advance p=t'.advance p:=by
 unfold SetTable.advance;rw[e]
theorem Zet{t t':SetTable}(e:t.mask=t'.mask):∀(n:Nat)(p:SetTable.Probe),Za6 t n p=Za6 t' n p
 | 0,_=>rfl
 | n+1,p=>by
  show Za6 t n (t.advance p)=Za6 t' n (t'.advance p);rw[Zi4 e,Zet e n]
theorem Zg0{t t':SetTable}(e:t.mask=t'.mask)(h:Int):t.probeStart h=t'.probeStart h:=by
 unfold SetTable.probeStart;rw[e]
def jn(m:Nat)(h:Int)(n:Nat):Nat:=(Za6 (tm m) n ((tm m).probeStart h)).j
theorem Zle(t:SetTable)(h:Int)(n:Nat):(Za6 t n (t.probeStart h)).j=jn t.mask h n:=by
 unfold jn;rw[Zg0 (t:=t) (t':=tm t.mask) rfl,Zet (t:=t) (t':=tm t.mask) rfl]
theorem Zep{m i:Nat}(h:i<=m):SetTable.runEnd m i<=m:=by
 unfold SetTable.runEnd
 split <;> lia
theorem ZhS(m i:Nat):i<=SetTable.runEnd m i:=by
 unfold SetTable.runEnd
 split <;> lia
theorem ZkM{m:Nat}{p:SetTable.Probe}(h:p.j+p.more<=m):((tm m).advance p).j+((tm m).advance p).more<=m:=by
 unfold SetTable.advance
 split
 ·show p.j+1+(p.more-1)<=m;lia
 ·have h1:(p.i*5+1+p.perturb / 32) % (m+1)<=m:=Nat.le_of_lt_succ (Nat.mod_lt _ (Nat.succ_pos m));have h2:=Zep h1;have h3:=ZhS m ((p.i*5+1+p.perturb / 32) % (m+1));show(p.i*5+1+p.perturb / 32) % (m+1)+(SetTable.runEnd m ((p.i*5+1+p.perturb / 32) % (m+1))-(p.i*5+1+p.perturb / 32) % (m+1))<=m;lia
theorem Zhb{m:Nat}:∀(n:Nat){p:SetTable.Probe},p.j+p.more<=m->(Za6 (tm m) n p).j+(Za6 (tm m) n p).more<=m
 | 0,_,h=>h
 | n+1,p,h=>Zhb n (ZkM h)
theorem ZiS(m:Nat)(h:Int):((tm m).probeStart h).j+((tm m).probeStart h).more<=m:=by
 have h1:SetTable.bits h % (m+1)<=m:=Nat.le_of_lt_succ (Nat.mod_lt _ (Nat.succ_pos m));have h2:=Zep h1;have h3:=ZhS m (SetTable.bits h % (m+1));show SetTable.bits h % (m+1)+(SetTable.runEnd m (SetTable.bits h % (m+1))-SetTable.bits h % (m+1))<=m;lia
theorem Zlv(m:Nat)(h:Int)(n:Nat):jn m h n<=m:=by
 have:=Zhb n (ZiS m h);unfold jn;lia
def Way(m:Nat)(U:Nat->Prop)(h:Int)(j:Nat):Prop := ∃n,jn m h n=j/\∀k,k<n->U (jn m h k)
theorem Way.mono{m:Nat}{U U':Nat->Prop}{h:Int}{j:Nat}(w:Way m U h j)(hu:∀y,y<=m->U y->U' y):Way m U' h j:=by
 obtain⟨n,e,hk⟩:=w;exact⟨n,e,fun k hkn=>hu _ (Zlv _ _ _) (hk k hkn)⟩
theorem Zi1(t:SetTable):∀(k:Nat)(p:SetTable.Probe),k<=p.more->(Za6 t k p).j=p.j+k
 | 0,_,_=>rfl
 | k+1,p,h=>by
  show(Za6 t k (t.advance p)).j=p.j+(k+1);have e:t.advance p= { p with j:=p.j+1,more:=p.more-1 }:=by
   unfold SetTable.advance;rw[if_pos (by lia)]
  rw[e,Zi1 t k _ (show k<=p.more-1 by lia)];show p.j+1+k=_;lia
theorem Zgl{m:Nat}{owner:Array (Option Nat)}:∀(fuel:Nat)(p:SetTable.Probe)(j:Nat),SetTable.layClean.free m owner fuel p.i p.perturb=some j->p.j=p.i->p.more=SetTable.runEnd m p.i-p.i ->
  ∃n,(Za6 (tm m) n p).j=j/\∀k,k<n->owner.getD (Za6 (tm m) k p).j (some 0)≠none
 | 0,p,j,h,_,_=>by
  unfold SetTable.layClean.free at h;cases h
 | fuel+1,p,j,h,hj,hm=>by
  unfold SetTable.layClean.free at h;have hge:=ZhS m p.i;cases hf:(List.range (SetTable.runEnd m p.i+1-p.i)).find? fun k=>(owner.getD (p.i+k) (some 0)).isNone with
  | some k' =>
   rw[hf] at h;have e:p.i+k'=j:=Option.some.inj h;obtain⟨h1,h2,h3⟩:=List.find?_range_eq_some.mp hf;have hk':k'<=p.more:=by
    have:=List.mem_range.mp h2;lia
   refine⟨k',by rw[Zi1 _ _ _ hk',hj];exact e,fun k hk hn=>?_⟩;rw[Zi1 _ _ _ (by lia),hj] at hn;have h4:=h3 k hk;rw[hn] at h4;cases h4
  | none =>
   rw[hf] at h;have h':SetTable.layClean.free m owner fuel (lp (tm m) p).i (lp (tm m) p).perturb=some j:=h;obtain⟨n',e,hk⟩:=Zgl fuel (lp (tm m) p) j h' rfl rfl;have hadv:=Zif (tm m) p.more p rfl;refine⟨p.more+1+n',by rw[Zbk,hadv];exact e,fun k hkn=>?_⟩;by_cases hlt:k<=p.more
   ·rw[Zi1 _ _ _ hlt,hj];have:=List.find?_eq_none.mp hf k (List.mem_range.mpr (by lia));intro hn;rw[hn] at this;exact this rfl
   ·have e2:k=p.more+1+(k-(p.more+1)):=by lia
    rw[e2,Zbk,hadv];exact hk _ (by lia)
def WO(m:Nat)(all:List Int)(owner:Array (Option Nat)):Prop := ∀j k,owner.getD j none=some k->∃x,all[k]?= some x/\Way m (fun y=>owner.getD y (some 0)≠none) x j
theorem ZfU{owner:Array (Option Nat)}{j y:Nat}{v d:Option Nat}(hy:y≠j):(owner.setIfInBounds j v).getD y d=owner.getD y d:=by
 simp only[Array.getD,Array.size_setIfInBounds]
 split
 ·rename_i hy2
  exact Array.getElem_setIfInBounds_ne (by simpa using hy2) (Ne.symm hy)
 ·rfl
theorem Zes{m:Nat}(hg:Good m)(all:List Int):∀(hs pre:List Int)(owner:Array (Option Nat)),all=pre++hs->Own m owner pre.length->WO m all owner->pre.length+hs.length<=m ->
  ∃owner',hs.foldl (fun(acc:Option (Array (Option Nat)×Nat)) h=>do
   let (owner,k) <- acc
   let j <- SetTable.layClean.free m owner (SetTable.turns m) (SetTable.bits h % (m+1)) (SetTable.bits h)
   pure (owner.setIfInBounds j (some k),k+1)) (some (owner,pre.length))=some (owner',pre.length+hs.length)/\Own m owner' (pre.length+hs.length)/\WO m all owner'
 | [],pre,owner,_,h,hw,_=>⟨owner,rfl,h,hw⟩
 | x::hs,pre,owner,ha,h,hw,hl=>by
  rw[List.length_cons] at hl;obtain⟨j,hj,ho⟩:=ZfS h (by lia);have hb:SetTable.bits x<2 ^ 64:=(Zb0 (SetTable.fresh 0 0 true) x).2.1;obtain⟨n,hn,e⟩:=ZeP (t:=tm m) (p:={ j:=0,more:=0,i:=SetTable.bits x % (m+1),perturb:=SetTable.bits x,dummy:=none }) hg hb hj;obtain⟨j',hf,ho'⟩:=ZcR ho n (SetTable.turns m) _ (by unfold SetTable.turns;have:n<=13+m:=hn;lia) e;have hf':SetTable.layClean.free m owner (SetTable.turns m) (SetTable.bits x % (m+1)) (SetTable.bits x)=some j':=hf;obtain⟨nw,ew,hkw⟩:=Zgl (m:=m) (owner:=owner) (SetTable.turns m) ((tm m).probeStart x) j' hf' rfl rfl;have hs':j'<owner.size:=by
   apply Classical.byContradiction;intro hn;rw[Array.getD,dif_neg hn] at ho';cases ho'
  have grow:∀y,owner.getD y (some 0)≠none->(owner.setIfInBounds j' (some pre.length)).getD y (some 0)≠none:=fun y hy=>by
   by_cases ey:y=j'
   ·rw[ey] at hy;exact absurd ho' hy
   ·rw[ZfU ey];exact hy
  have hw':WO m all (owner.setIfInBounds j' (some pre.length)):=fun y k hyk=>by
   by_cases ey:y=j'
   ·subst ey;have hk:k=pre.length:=by
     have:(owner.setIfInBounds y (some pre.length)).getD y none=some pre.length:=by simp[Array.getD,hs']
     rw[this] at hyk;exact(Option.some.inj hyk).symm
    subst hk;refine⟨x,by rw[ha];simp,nw,ew,fun k hk=>grow _ (hkw k hk)⟩
   ·rw[ZfU ey] at hyk;obtain⟨z,e1,e2⟩:=hw y k hyk;exact⟨z,e1,e2.mono fun y _ hy=>grow y hy⟩
  have hlen:(pre ++ [x]).length=pre.length+1:=by rw[List.length_append,List.length_singleton]
  obtain⟨owner',h1,h2,h3⟩:=Zes hg all hs (pre ++ [x]) _ (by rw[ha];simp) (by rw[hlen];exact Zhu h ho') hw' (by rw[hlen];lia);rw[hlen] at h1 h2;refine⟨owner',?_,by rw[List.length_cons,show pre.length+(hs.length+1)=pre.length+1+hs.length by lia];exact h2,h3⟩;rw[List.foldl_cons];simp only[Option.bind_eq_bind,Option.bind_some,hf',Option.pure_def];rw[List.length_cons,show pre.length+(hs.length+1)=pre.length+1+hs.length by lia];exact h1
theorem ZfO{m:Nat}{owner:Array (Option Nat)}{j k:Nat}:(j,k)∈Z7 m owner↔j<=m/\owner.getD j none=some k:=by
 unfold Z7;rw[List.mem_filterMap];constructor
 ·rintro⟨y,hy,e⟩;cases ho:owner.getD y none with
  | none=>rw[ho] at e;cases e
  | some v =>
   rw[ho] at e;have e':(y,v)=(j,k):=Option.some.inj e;cases e';exact⟨Nat.le_of_lt_succ (List.mem_range.mp hy),ho⟩
 ·rintro⟨hj,ho⟩;exact⟨j,List.mem_range.mpr (Nat.lt_succ_of_le hj),by rw[ho];rfl⟩
theorem ZiI{m:Nat}(hg:Good m)(fi mo:Nat)(led plain:Bool)(hs:Array Int)(hl:hs.size<=m){t:SetTable}{order:Array Nat}(e:SetTable.laid m fi mo led plain hs=some (t,order)) :
  ∀(i j k:Nat),t.place[i]?= some j->order[i]?= some k->∃x,hs[k]?= some x/\Way m (· ∈ t.place.toList) x j:=by
 have h0:Own m (Array.replicate (m+1) none) 0:=by
  refine⟨Array.size_replicate,?_⟩;have:Z7 m (Array.replicate (m+1) none)=[]:=by
   unfold Z7;rw[List.filterMap_eq_nil_iff];intro j hj;have:(Array.replicate (m+1) (none:Option Nat)).getD j none=none:=by
    simp[Array.getD]
   rw[this];rfl
  rw[this];exact List.Perm.refl _
 have hw0:WO m hs.toList (Array.replicate (m+1) none):=fun j k hjk=>by
  have:(Array.replicate (m+1) (none:Option Nat)).getD j none=none:=by simp[Array.getD]
  rw[this] at hjk;cases hjk
 obtain⟨owner,h1,h2,h3⟩:=Zes hg hs.toList hs.toList [] _ rfl h0 hw0 (by show 0+hs.toList.length<=m;rw[Array.length_toList];lia);have hc:SetTable.layClean m hs=some owner:=by
  unfold SetTable.layClean;rw[<- Array.foldl_toList];have:=congrArg (Option.map (·.1)) h1;exact this
 have e2:t= { mask:=m,place:=((Z7 m owner).map (·.1)).toArray,dummies :=#[],finger:=fi,led:=led,moves:=mo,plain:=plain }/\order=((Z7 m owner).map (·.2)).toArray:=by
  unfold SetTable.laid at e;rw[hc] at e;have e':=Option.some.inj e;exact⟨(congrArg Prod.fst e').symm,(congrArg Prod.snd e').symm⟩
 obtain⟨rfl,rfl⟩:=e2;intro i j k hj hk;have hj':(Z7 m owner)[i]?.map (·.1)=some j:=by
  rw[<- List.getElem?_map,<- hj];simp
 have hk':(Z7 m owner)[i]?.map (·.2)=some k:=by
  rw[<- List.getElem?_map,<- hk];simp
 cases hp:(Z7 m owner)[i]? with
 | none=>rw[hp] at hj';cases hj'
 | some pr =>
  rw[hp] at hj' hk';have ej:pr.1=j:=Option.some.inj hj';have ek:pr.2=k:=Option.some.inj hk';have hm:(j,k)∈Z7 m owner:=by
   rw[<- ej,<- ek];exact List.mem_of_getElem? hp
  obtain⟨x,e1,w⟩:=h3 j k (ZfO.mp hm).2;refine⟨x,by rw[<- Array.getElem?_toList];exact e1,w.mono fun y hy hu=>?_⟩;show y∈((Z7 m owner).map (·.1)).toArray.toList;have hsz:=h2.size;have hlt:y<owner.size:=by lia
  cases ho:owner.getD y none with
  | none =>
   exfalso;apply hu;simp only[Array.getD,hlt,dif_pos] at ho ⊢;exact ho
  | some v=>exact List.mem_map.mpr ⟨(y,v),ZfO.mpr ⟨hy,ho⟩,rfl⟩
theorem gm2{t:SetTable}(hd:t.dummies=#[])(ha:Nat->Int)(h:Int):∀(n fuel:Nat)(p:SetTable.Probe),p.dummy=none->n<fuel->t.slot (Za6 t n p).j=.empty ->
  (∃k,k<=n/\SetTable.probe.go t ha h fuel p=some (.empty (Za6 t k p).j none)/\t.slot (Za6 t k p).j=.empty/\∀m,m<k->∃i,t.slot (Za6 t m p).j=.live i/\(ha i == h)=false) \/
  ∃k i,k<n/\SetTable.probe.go t ha h fuel p=some (.candidate (Za6 t k p).j i (Za6 t (k+1) p))/\t.slot (Za6 t k p).j=.live i/\∀m,m<k->∃i,t.slot (Za6 t m p).j=.live i/\(ha i == h)=false
 | n,0,_,_,hn,_=>absurd hn (Nat.not_lt_zero _)
 | n,fuel+1,p,hp,hn,he=>by
  unfold SetTable.probe.go;cases hs:t.slot p.j with
  | empty=>exact .inl ⟨0,Nat.zero_le _,by rw[hp];rfl,hs,fun m hm=>absurd hm (Nat.not_lt_zero _)⟩
  | dummy =>
   exfalso;unfold SetTable.slot at hs;dsimp only at hs
   split at hs
   ·cases hs
   ·rw[hd] at hs;exact SetTable.Slot.noConfusion hs
  | live i =>
   dsimp only;cases n with
   | zero =>
    rw[show(Za6 t 0 p).j=p.j from rfl,hs] at he;cases he
   | succ n =>
    by_cases hh:(ha i == h)=true
    ·rw[if_pos hh];exact .inr ⟨0,i,Nat.succ_pos _,rfl,hs,fun m hm=>absurd hm (Nat.not_lt_zero _)⟩
    ·rw[if_neg hh];have hh':(ha i == h)=false:=by
      cases e:(ha i == h) with
      | true=>exact absurd e hh
      | false=>rfl
     have hdm:(t.advance p).dummy=none:=by
      unfold SetTable.advance
      split
      ·exact hp
      ·exact hp
     have ext:∀k,(∀m,m<k->∃i,t.slot (Za6 t m (t.advance p)).j=.live i/\(ha i == h)=false)->∀m,m<k+1->∃i,t.slot (Za6 t m p).j=.live i/\(ha i == h)=false:=fun k hk m hm=>by
      cases m with
      | zero=>exact⟨i,hs,hh'⟩
      | succ m=>exact hk m (by lia)
     rcases gm2 hd ha h n fuel (t.advance p) hdm (by lia) he with⟨k,hk,e,h1,h2⟩|⟨k,i',hk,e,h1,h2⟩
     ·exact .inl ⟨k+1,by lia,e,h1,ext k h2⟩
     ·exact .inr ⟨k+1,i',by lia,e,h1,ext k h2⟩
theorem ZhV{t:SetTable}{j i:Nat}(h:t.slot j=.live i):t.place[i]?= some j:=by
 unfold SetTable.slot at h;dsimp only at h
 split at h
 ·rename_i h2
  cases h;exact eq_of_beq h2
 ·split at h <;> cases h
section
variable{prog:Program}{w:World}{K:Type}[DecidableEq K]{knd:KeyKind prog w K}{A:Around}{E:Value->Shared->Prop}{s:Shared}
theorem ZbW{h:Heap}{x y:List K}{b:Addr}(h1:IsTupleKey knd h x b)(h2:IsTupleKey knd h y b):x=y:=by
 obtain⟨o,its,n,e1,_,e3,e4⟩:=h1;obtain⟨o',its',n',f1,_,f3,f4⟩:=h2;rw[e1] at f1;cases f1;rw[e3] at f3;cases f3;exact e4.inj f4
def Zaz(knd:KeyKind prog w K)(h:Heap)(ks:List K)(e:Int×Value):Prop := ∃b,e.2=.ref b/\IsTupleKey knd h ks b
structure TabS(knd:KeyKind prog w K)(h:Heap)(es:Array (Int×Value))(t:SetTable):Prop where
 tab:Tab es t
 ent:∀e∈es.toList,∃ks,Zaz knd h ks e/\e.1=tupleKeyHash knd ks
 way:∀(i:Nat) e j,es[i]?= some e->t.place[i]?= some j->Way t.mask (· ∈ t.place.toList) e.1 j
 one:es.toList.Pairwise fun e e'=>∀ks,Zaz knd h ks e -> ¬ Zaz knd h ks e'
theorem TabS.ents{h:Heap}{es:Array (Int×Value)}{t:SetTable}(x:TabS knd h es t):Zkp knd false h es:=fun e he=>by
 obtain⟨ks,⟨b,e1,e2⟩,_⟩:=x.ent e he;exact⟨ks,b,e1,e2⟩
theorem TabS.none{h:Heap}{es:Array (Int×Value)}{t:SetTable}(x:TabS knd h es t){ks:List K}{N:Nat}(he:t.slot (jn t.mask (tupleKeyHash knd ks) N)=.empty)
  (hp:∀m,m<N->∃i e,t.slot (jn t.mask (tupleKeyHash knd ks) m)=.live i/\es[i]?= some e /\ ¬ Zaz knd h ks e):∀e∈es.toList,¬ Zaz knd h ks e:=fun e hem hb=>by
 obtain⟨i0,hi0⟩:=List.mem_iff_getElem?.mp hem;rw[Array.getElem?_toList] at hi0;have hlt:=(Array.getElem?_eq_some_iff.mp hi0).1;obtain⟨ks',hb',hh⟩:=x.ent e hem;have ek:ks'=ks:=by
  obtain⟨b,e1,e2⟩:=hb;obtain⟨b',f1,f2⟩:=hb';rw[e1] at f1;cases f1;exact ZbW f2 e2
 subst ek;have hsz:=x.tab.size;have hj:t.place[i0]?= some t.place[i0]:=Array.getElem?_eq_getElem (by lia);obtain⟨n,en,hn⟩:=x.way i0 e _ hi0 hj;rw[hh] at en hn;have hmem:t.place[i0]∈t.place.toList:=Array.getElem_mem_toList (by lia);rcases Nat.lt_trichotomy n N with hlt2|heq|hgt
 ·obtain⟨i,e',h1,h2,h3⟩:=hp n hlt2;have h4:=ZhV h1;rw[en] at h4;have hi:i=i0:=by
   have l1:=(Array.getElem?_eq_some_iff.mp h4).1;have e5:t.place[i]=t.place[i0]:=(Array.getElem?_eq_some_iff.mp h4).2;rcases Nat.lt_trichotomy i i0 with z|z|z
   ·have:=Zce x.tab.ris z (by lia);lia
   ·exact z
   ·have:=Zce x.tab.ris z l1;lia
  rw[hi,hi0] at h2;cases h2;exact h3 hb
 ·rw[<- heq,en] at he;exact Zbu x.tab.ris he hmem
 ·exact Zbu x.tab.ris he (hn N hgt)
set_option maxHeartbeats 1000000 in
theorem Zh3{S a:Addr}{o:Obj}{es:Array (Int×Value)}{ep:Nat}{t:SetTable}{ks:List K}(hu:A.units<cLine)(ho:s.heap.get? S=some o)(hd:o.data=.set es ep t)(hT2:TabS knd s.heap es t)(hk:IsTupleKey knd s.heap ks a){Q:SetFound->Shared->Prop}
  (q0:(∃e∈es.toList,Zaz knd s.heap ks e)->Q (.there none) s) (q1:∀j,t.slot j=.empty->(∀e∈es.toList,¬ Zaz knd s.heap ks e)->Way t.mask (· ∈ t.place.toList) (tupleKeyHash knd ks) j->Q (.free j false) s) :
  ∀(fuel n c:Nat)(stand:Option SetTable.Probe),stand.getD (t.probeStart (tupleKeyHash knd ks))=Za6 t c (t.probeStart (tupleKeyHash knd ks))->(∀m,m<c->∃i e,t.slot (jn t.mask (tupleKeyHash knd ks) m)=.live i/\es[i]?= some e /\ ¬ Zaz knd s.heap ks e) ->
   t.slot (Za6 t n (stand.getD (t.probeStart (tupleKeyHash knd ks)))).j=.empty->n<10*SetTable.turns t.mask->n<fuel ->
  wpAny (model prog w) A (setSearchFrom S (.ref a) (tupleKeyHash knd ks) true fuel stand) Q E s
 | 0,n,_,_,_,_,_,_,hn=>absurd hn (Nat.not_lt_zero _)
 | fuel+1,n,c,stand,hst0,hpass,he,hn1,hn=>by
  have hT:=hT2.tab;have hE:=hT2.ents;have hdm:(stand.getD (t.probeStart (tupleKeyHash knd ks))).dummy=none:=by rw[hst0];exact ZdE t c _ (Zb0 t _).2.2
  unfold setSearchFrom;refine wpAny_bind (wpAny_setState_of ho hd hT.fits ?_);dsimp only;have hgw:t.gaveWay=false:=by
   unfold SetTable.gaveWay;rw[ZiA hT.good];rfl
  rw[hgw,if_neg (by decide)];have hat:∀m,(Za6 t m (stand.getD (t.probeStart (tupleKeyHash knd ks)))).j=jn t.mask (tupleKeyHash knd ks) (c+m):=fun m=>by rw[hst0,<- Zbk,Zle]
  have live_es:∀{j i},t.slot j=.live i->∃e,es[i]?= some e:=fun{j i} hl=>⟨_,Array.getElem?_eq_getElem (by have:=ZhD hl;rw[hT.size] at this;exact this)⟩;have hne:∀{i:Nat}{e:Int×Value},es[i]?= some e->(((es[i]?.map (·.1)).getD 0 == tupleKeyHash knd ks)=false) -> ¬ Zaz knd s.heap ks e:=fun{i e} hie hh hb=>by
   rw[hie] at hh;obtain⟨ks',hb',e2⟩:=hT2.ent e (by rw[<- Array.getElem?_toList] at hie;exact List.mem_of_getElem? hie);have ek:ks'=ks:=by
    obtain⟨b,f1,f2⟩:=hb;obtain⟨b',g1,g2⟩:=hb';rw[f1] at g1;cases g1;exact ZbW g2 f2
   rw[ek] at e2;have hh':(e.1 == tupleKeyHash knd ks)=false:=hh;rw[e2] at hh';simp at hh'
  generalize hst:stand.getD (t.probeStart (tupleKeyHash knd ks))=p at hdm he hat hst0
  split
  ·rename_i met hm
   unfold SetTable.probe at hm;rcases gm2 hT.none _ (tupleKeyHash knd ks) n _ p hdm hn1 he with⟨k,hkn,e,hj,hpk⟩|⟨k,i,hkn,e,hl,hpk⟩
   ·rw[e] at hm;cases hm;rw[hat k] at hj;have hall:∀m,m<c+k->∃i e,t.slot (jn t.mask (tupleKeyHash knd ks) m)=.live i/\es[i]?= some e /\ ¬ Zaz knd s.heap ks e:=fun m hm=>by
     by_cases hmc:m<c
     ·exact hpass m hmc
     ·obtain⟨i,h1,h2⟩:=hpk (m-c) (by lia);rw[hat,show c+(m-c)=m by lia] at h1;obtain⟨e,he2⟩:=live_es h1;exact⟨i,e,h1,he2,hne he2 h2⟩
    refine wpAny_pure ?_;rw[hat k];refine q1 _ hj (hT2.none hj hall) ⟨c+k,rfl,fun m hm=>?_⟩;obtain⟨i,_,h1,_⟩:=hall m hm;have:=ZhV h1;rw[<- Array.getElem?_toList] at this;exact List.mem_of_getElem? this
   ·rw[e] at hm;cases hm;have hi:=ZhD hl;rw[hT.size] at hi;obtain⟨ks',b,hb2,hb⟩:=hE es[i] (Array.getElem_mem_toList hi);have hmemi:es[i]∈es.toList:=Array.getElem_mem_toList hi;have hes:es[i]?= some (es[i].1,Value.ref b):=by rw[Array.getElem?_eq_getElem hi,<- hb2]
    have hsm:t.sameMemory t.moves t.mask=some true:=by
     unfold SetTable.sameMemory;rw[if_pos (beq_self_eq_true _)]
    have again:ks'≠ks->wpAny (model prog w) A (setSearchFrom S (.ref a) (tupleKeyHash knd ks) true fuel (some (Za6 t (k+1) p))) Q E s:=fun hneq=>by
     refine Zh3 hu ho hd hT2 hk q0 q1 fuel (n-(k+1)) (c+(k+1)) (some (Za6 t (k+1) p)) (by show Za6 t (k+1) p=_;rw[hst0,<- Zbk]) (fun m hm=>?_) (by
      show t.slot (Za6 t (n-(k+1)) (Za6 t (k+1) p)).j=.empty;rw[<- Zbk,show k+1+(n-(k+1))=n by lia];exact he) (by lia) (by lia)
     by_cases hmc:m<c
     ·exact hpass m hmc
     by_cases hmk:m<c+k
     ·obtain⟨i',h1,h2⟩:=hpk (m-c) (by lia);rw[hat,show c+(m-c)=m by lia] at h1;obtain⟨e,he2⟩:=live_es h1;exact⟨i',e,h1,he2,hne he2 h2⟩
     ·have em:m=c+k:=by lia
      rw[hat k,<- em] at hl;refine⟨i,es[i],hl,Array.getElem?_eq_getElem hi,fun⟨b',f1,f2⟩=>?_⟩;rw[hb2] at f1;cases f1;exact hneq (ZbW hb f2)
    dsimp only;rw[hes];dsimp only;have hst2:∀v∈(Array.filter (fun x=>x.fst == tupleKeyHash knd ks) es).toList.map (fun x=>x.snd),∃ks b,v=Value.ref b/\IsTupleKey knd s.heap ks b:=fun v hv=>by
     obtain⟨x,hx,rfl⟩:=List.mem_map.mp hv;rw[Array.toList_filter] at hx;exact hE x (List.mem_filter.mp hx).1
    cases hled:t.led with
    | false =>
     rw[if_pos (by decide)];refine wpAny_bind (Zkj hk _ hst2 ?_);rw[if_neg (by decide)];refine wpAny_bind (wpAny_holding (wpAny_eqBool_tuple hu hb hk (wpAny_bind (wpAny_setState_of ho hd hT.fits ?_))));by_cases heq:ks'=ks
     ·rw[decide_eq_true heq,if_pos (by decide)];exact wpAny_pure (q0 ⟨es[i],hmemi,b,hb2,heq ▸ hb⟩)
     ·rw[decide_eq_false heq,if_neg (by decide)];dsimp only;rw[hsm];dsimp only;rw[if_pos rfl,hl];dsimp only;rw[hes];dsimp only;refine wpAny_bind (wpAny_isSame_ref_self (wpAny_bind (wpAny_pure ?_)));rw[if_pos rfl];dsimp only;rw[if_neg (by decide)];exact again heq
    | true =>
     rw[if_neg (by decide)];refine wpAny_bind (wpAny_holding (wpAny_eqBool_tuple hu hb hk (wpAny_bind (wpAny_setState_of ho hd hT.fits ?_))));by_cases heq:ks'=ks
     ·rw[decide_eq_true heq,if_pos (by decide)];exact wpAny_pure (q0 ⟨es[i],hmemi,b,hb2,heq ▸ hb⟩)
     ·rw[decide_eq_false heq,if_neg (by decide)];dsimp only;rw[hsm];dsimp only;rw[if_pos rfl,hl];dsimp only;rw[hes];dsimp only;refine wpAny_bind (wpAny_isSame_ref_self (wpAny_bind (wpAny_pure ?_)));rw[if_pos rfl];dsimp only;rw[if_neg (by decide)];exact again heq
  ·rename_i hm
   exfalso;unfold SetTable.probe at hm;rcases gm2 hT.none _ (tupleKeyHash knd ks) n _ p hdm hn1 he with⟨k,hkn,e,hj,hpk⟩|⟨k,i,hkn,e,hl,hpk⟩
   ·exact hm _ e
   ·exact hm _ e
end
theorem ZbS{α : Type}(xs:Array α){p:Nat}(hp:p<=xs.size)(x : α)(i:Nat):(SetTable.insertAt xs p x)[i]?= if i<p then xs[i]? else if i=p then some x else xs[i-1]? := by
 have hl:(xs.toList.take p).length=p:=by rw[List.length_take,Array.length_toList];lia
 rw[<- Array.getElem?_toList,ZbX];by_cases h1:i<p
 ·rw[if_pos h1,List.getElem?_append_left (by lia),List.getElem?_take_of_lt h1,Array.getElem?_toList]
 rw[if_neg h1,List.getElem?_append_right (by lia),hl];by_cases h2:i=p
 ·rw[if_pos h2,h2,Nat.sub_self];rfl
 ·rw[if_neg h2,show i-p=(i-1-p)+1 by lia,List.getElem?_cons_succ,List.getElem?_drop,show p+(i-1-p)=i-1 by lia,Array.getElem?_toList]
section
variable{prog:Program}{w:World}{K:Type}[DecidableEq K]{knd:KeyKind prog w K}{A:Around}{E:Value->Shared->Prop}{s:Shared}
abbrev One(knd:KeyKind prog w K)(h:Heap)(l:List (Int×Value)):Prop:=l.Pairwise fun e e'=>∀ks,Zaz knd h ks e -> ¬ Zaz knd h ks e'
theorem One.perm{h:Heap}{l l':List (Int×Value)}(x:One knd h l)(p:l'.Perm l):One knd h l':=(p.pairwise_iff fun{a b} hab ks hb ha=>hab ks ha hb).mpr x
theorem Zho{h h':Heap}{S:Addr}{o o':Obj}{es es':Array (Int×Value)}{ep ep':Nat}{t t':SetTable}(ho:h.get? S=some o)(hd:o.data=.set es ep t)(ho':h'.get? S=some o')(hd':o'.data=.set es' ep' t')(sb:Heap.SameBut S h h')(ks:List K)(e:Int×Value):Zaz knd h ks e↔Zaz knd h' ks e:=by
 constructor
 ·rintro⟨b,e1,e2⟩;exact⟨b,e1,ZjW ho hd sb e2⟩
 ·rintro⟨b,e1,o2,items,n,h1,h2,h3,h4⟩;have hne:b≠S:=fun z=>by
   rw[z,ho'] at h1;cases h1;rw[hd'] at h3;cases h3
  exact⟨b,e1,o2,items,n,(sb.2 b hne).symm.trans h1,h2,h3,h4⟩
def Zfa(knd:KeyKind prog w K)(h:Heap)(S:Addr)(vs:Value->Prop)(P:List K->Prop)(n:Nat)(led:Bool):Prop :=
 ∃o es ep t,h.get? S=some o/\o.ExactSet/\o.data=.set es ep t/\TabS knd h es t/\es.size<=n/\t.led=led/\(∀e∈es.toList,vs e.2)/\∀ks,(∃e∈es.toList,Zaz knd h ks e)↔P ks
theorem Zky{order:Array Nat}{es:Array (Int×Value)}(hall:∀k∈order.toList,k<es.size)(i:Nat):(order.filterMap (es[·]?))[i]?= order[i]?.bind (es[·]?):=by
 rw[<- Array.getElem?_toList,Array.toList_filterMap,<- Array.getElem?_toList];generalize order.toList=l at hall
 induction l generalizing i with
 | nil=>simp
 | cons k l ih =>
  have hk:=hall k (List.mem_cons_self ..);rw[List.filterMap_cons_some (b:=es[k]) (Array.getElem?_eq_getElem hk)];cases i with
  | zero =>
   rw[List.getElem?_cons_zero,List.getElem?_cons_zero];exact(Array.getElem?_eq_getElem hk).symm
  | succ i =>
   rw[List.getElem?_cons_succ,List.getElem?_cons_succ];exact ih i fun z hz=>hall z (List.mem_cons_of_mem _ hz)
set_option maxHeartbeats 1000000 in
theorem Zkm{S:Addr}{o:Obj}{es:Array (Int×Value)}{ep:Nat}{t:SetTable}{Q:Unit->Shared->Prop}(ho:s.heap.get? S=some o)(hd:o.data=.set es ep t)(hf:t.fits es.size=true)(h1:1<=es.size)(hn:es.size<=1000)
  (h:∀(es':Array (Int×Value))(t':SetTable)(h':Heap),es'.toList.Perm es.toList->Tab es' t'->(∀(i:Nat) e j,es'[i]?= some e->t'.place[i]?= some j->Way t'.mask (· ∈ t'.place.toList) e.1 j)->t'.led=t.led->h'.get? S=some { o with data:=.set es' (ep+1) t' }->Heap.SameBut S s.heap h'->Q () { s with heap:=h' }) :
  wpAny (model prog w) A (setRelay S (SetTable.grown es.size)) Q E s:=by
 have hgr:SetTable.grown es.size=es.size*4:=by unfold SetTable.grown;rw[if_neg (by lia)]
 rw[hgr];obtain⟨g1,g2,g3⟩:=above (n:=es.size*4) (by lia);unfold setRelay;refine wpAny_bind (wpAny_setState_of ho hd hf ?_);dsimp only;rw[if_neg (by rw[sizeLine_eq];lia)];obtain⟨t',order,e,m1,m2,m3,m4,m5,m6,m7,m8⟩:=Zhr g1 t.finger (t.movedTo (SetTable.sizeAbove (es.size*4)-1)) t.led t.plain (es.map (·.1)) (by rw[Array.size_map];lia);have hway:=ZiI g1 t.finger (t.movedTo (SetTable.sizeAbove (es.size*4)-1)) t.led t.plain (es.map (·.1)) (by rw[Array.size_map];lia) e;rw[Array.size_map] at m3 m4;have e2:t.relaid (es.map (·.1)) (es.size*4)=some (t',order):=e;rw[e2];have hperm:(order.filterMap (es[·]?)).toList.Perm es.toList:=by
  rw[Array.toList_filterMap];exact(m4.filterMap _).trans (List.Perm.of_eq (filterMap_getElem?_range es))
 have hsz:(order.filterMap (es[·]?)).size=es.size:=by
  rw[<- Array.length_toList,hperm.length_eq,Array.length_toList]
 have hw2:∀(i:Nat) e j,(order.filterMap (es[·]?))[i]?= some e->t'.place[i]?= some j->Way t'.mask (· ∈ t'.place.toList) e.1 j:=fun i e j hi hj=>by
  rw[Zky (fun k hk=>List.mem_range.mp (m4.mem_iff.mp hk))] at hi;cases ho2:order[i]? with
  | none=>rw[ho2] at hi;cases hi
  | some k =>
   rw[ho2] at hi;have hi':es[k]?= some e:=hi;obtain⟨x,hx,hwx⟩:=hway i j k hj ho2;rw[Array.getElem?_map,hi'] at hx;have ex:e.1=x:=Option.some.inj hx;rw[m1,ex];exact hwx
 refine wpAny_bind (wpAny_of_eq (a:=(order.filterMap (es[·]?),t')) ?_ ?_)
 ·change (ite (((order.filterMap (es[·]?)).size != es.size)=true) _ _:Sem (Array (Int×Value)×SetTable))=_;rw[if_neg (by rw[hsz];simp)]
 dsimp only;refine wpAny_storeSet_of ho hd (h _ t' _ hperm ⟨by rw[m3,hsz],m2,by rw[m1];exact g1,?_,m8⟩ hw2 m5 (Sts.stored ho hd _ _) (Heap.SameBut.update ..)) (by rw[hsz,sizeLine_eq];lia);unfold SetTable.fill;rw[m1,m2,m3];show(es.size+0)*5<_;lia
set_option maxHeartbeats 2000000 in
theorem ZdO{S a:Addr}{o:Obj}{es:Array (Int×Value)}{ep:Nat}{t t2:SetTable}{vs:Value->Prop}{P:List K->Prop}{n j:Nat}{led:Bool}{ks:List K}{Q:Bool->Shared->Prop}(ho:s.heap.get? S=some o)(hx:o.ExactSet)(hd:o.data=.set es ep t)(hTS:TabS knd s.heap es t)(hsz:es.size<=n)(hled:t.led=led)(hvs:∀e∈es.toList,vs e.2)
  (hP:∀ks,(∃e∈es.toList,Zaz knd s.heap ks e)↔P ks) (hn:n<=900) (hk:IsTupleKey knd s.heap ks a) (hv:vs (.ref a)) (hj:t.slot j=.empty) (hnone:∀e∈es.toList,¬ Zaz knd s.heap ks e) (hway:Way t.mask (· ∈ t.place.toList) (tupleKeyHash knd ks) j) (e1:t2.mask=t.mask) (e2:t2.place=SetTable.insertAt t.place (SetTable.below t.place j) j) (e3:t2.dummies=#[]) (e4:t2.led=t.led)
  (q:∀b h',Heap.SameBut S s.heap h'->Zfa knd h' S vs (fun k=>P k\/k=ks) (n+1) led->Q b { s with heap:=h' }) :
  wpAny (model prog w) A (do
   storeSet S (SetTable.insertAt es (SetTable.below t.place j) (tupleKeyHash knd ks,Value.ref a)) t2
   if(!false&&t2.tooFull)=true then do
     setRelay S (SetTable.grown (es.size+1))
     pure true
    else pure true) Q E s:=by
 have hT:=hTS.tab;have hr:=hT.room;have hfe:=hT.fill_eq;have hbl:=(Zbe hT.ris j).1;have hins:=SetTable.insertAt_perm es (SetTable.below t.place j) (tupleKeyHash knd ks,Value.ref a);have hpl:(SetTable.insertAt es (SetTable.below t.place j) (tupleKeyHash knd ks,Value.ref a)).toList.Perm ((tupleKeyHash knd ks,Value.ref a)::es.toList):=by
  refine hins.trans ?_;rw[Array.toList_push];exact List.perm_append_comm (l₁ := es.toList) (l₂ :=[_])
 have hs1:(SetTable.insertAt es (SetTable.below t.place j) (tupleKeyHash knd ks,Value.ref a)).size=es.size+1:=by
  rw[<- Array.length_toList,hins.length_eq,Array.length_toList,Array.size_push]
 have hp1:t2.place.size=es.size+1:=by
  have:=(SetTable.insertAt_perm t.place (SetTable.below t.place j) j).length_eq;rw[Array.length_toList,Array.length_toList,Array.size_push,hT.size] at this;rw[e2];exact this
 have hfill:t2.fill=es.size+1:=by
  unfold SetTable.fill;rw[hp1,e3];rfl
 have hris:Ris t2.place:=by
  rw[e2];exact Zcd hT.ris (Zbu hT.ris hj)
 have hgrow:∀y,y∈t.place.toList->y∈t2.place.toList:=fun y hy=>by
  rw[e2];refine(SetTable.insertAt_perm t.place (SetTable.below t.place j) j).mem_iff.mpr ?_;rw[Array.toList_push];exact List.mem_append_left _ hy
 have hway2:∀(i:Nat) e y,(SetTable.insertAt es (SetTable.below t.place j) (tupleKeyHash knd ks,Value.ref a))[i]?= some e->t2.place[i]?= some y->Way t2.mask (· ∈ t2.place.toList) e.1 y:=fun i e y hi hy=>by
  rw[ZbS es (by rw[<- hT.size];exact hbl)] at hi;rw[e2,ZbS t.place hbl] at hy;rw[e1];by_cases c1:i<SetTable.below t.place j
  ·rw[if_pos c1] at hi hy;exact(hTS.way i e y hi hy).mono fun z _ hz=>hgrow z hz
  rw[if_neg c1] at hi hy;by_cases c2:i=SetTable.below t.place j
  ·rw[if_pos c2] at hi hy;cases hi;cases hy;exact hway.mono fun z _ hz=>hgrow z hz
  ·rw[if_neg c2] at hi hy;exact(hTS.way (i-1) e y hi hy).mono fun z _ hz=>hgrow z hz
 generalize SetTable.insertAt es (SetTable.below t.place j) (tupleKeyHash knd ks,Value.ref a)=es1 at hpl hs1 hway2;have hself:Zaz knd s.heap ks (tupleKeyHash knd ks,Value.ref a):=⟨a,rfl,hk⟩;have hone1:One knd s.heap es1.toList:=by
  refine One.perm (List.pairwise_cons.mpr ⟨fun e he ks' hb1 hb2=>?_,hTS.one⟩) hpl;obtain⟨b,f1,f2⟩:=hb1;cases f1;have:ks'=ks:=ZbW f2 hk;subst this;exact hnone e he hb2
 have hent1:∀e∈es1.toList,∃ks,Zaz knd s.heap ks e/\e.1=tupleKeyHash knd ks:=fun e he=>by
  rcases List.mem_cons.mp (hpl.mem_iff.mp he) with rfl|he
  ·exact⟨ks,hself,rfl⟩
  ·exact hTS.ent e he
 have hvs1:∀e∈es1.toList,vs e.2:=fun e he=>by
  rcases List.mem_cons.mp (hpl.mem_iff.mp he) with rfl|he
  ·exact hv
  ·exact hvs e he
 have hP1:∀k,(∃e∈es1.toList,Zaz knd s.heap k e)↔(P k\/k=ks):=fun k=>by
  constructor
  ·rintro⟨e,he,hb⟩;rcases List.mem_cons.mp (hpl.mem_iff.mp he) with rfl|he
   ·obtain⟨b,f1,f2⟩:=hb;cases f1;exact .inr (ZbW f2 hk)
   ·exact .inl ((hP k).mp ⟨e,he,hb⟩)
  ·rintro(hk'|rfl)
   ·obtain⟨e,he,hb⟩:=(hP k).mpr hk';exact⟨e,hpl.mem_iff.mpr (List.mem_cons_of_mem _ he),hb⟩
   ·exact⟨_,hpl.mem_iff.mpr (List.mem_cons_self ..),hself⟩
 have fin:∀(h':Heap)(o':Obj)(es':Array (Int×Value))(ep':Nat)(t':SetTable),Heap.SameBut S s.heap h'->h'.get? S=some o'->o'.ExactSet->o'.data=.set es' ep' t'->es'.toList.Perm es1.toList->Tab es' t'->(∀(i:Nat) e j,es'[i]?= some e->t'.place[i]?= some j->Way t'.mask (· ∈ t'.place.toList) e.1 j)->t'.led=led->Zfa knd h' S vs (fun k=>P k\/k=ks) (n+1) led:=fun h' o' es' ep' t' sb ho' hx' hd' hp hT' hw' hl'=>by
  have biff:=fun k e=>Zho (knd:=knd) ho hd ho' hd' sb k e;have hl:es'.size=es1.size:=by rw[<- Array.length_toList,hp.length_eq,Array.length_toList]
  refine⟨o',es',ep',t',ho',hx',hd',⟨hT',fun e he=>?_,hw',?_⟩,by lia,hl',fun e he=>hvs1 e (hp.mem_iff.mp he),fun k=>?_⟩
  ·obtain⟨k,hb,e5⟩:=hent1 e (hp.mem_iff.mp he);exact⟨k,(biff k e).mp hb,e5⟩
  ·refine(hone1.perm hp).imp fun{x y} hxy k h1 h2=>hxy k ((biff k x).mpr h1) ((biff k y).mpr h2)
  ·refine Iff.trans ?_ (hP1 k);constructor
   ·rintro⟨e,he,hb⟩;exact⟨e,hp.mem_iff.mp he,(biff k e).mpr hb⟩
   ·rintro⟨e,he,hb⟩;exact⟨e,hp.mem_iff.mpr he,(biff k e).mp hb⟩
 refine wpAny_bind (wpAny_storeSet_of ho hd ?_ (by rw[hs1,sizeLine_eq];lia));have ho1:=Sts.stored ho hd es1 t2;have sb1:Heap.SameBut S s.heap (s.heap.update S (Obj.putSet es1 t2)):=Heap.SameBut.update ..;generalize s.heap.update S (Obj.putSet es1 t2)=h1 at ho1 sb1;have hfits:t2.fits es1.size=true:=by
  unfold SetTable.fits;rw[hp1,hs1,hfill,e1];simp;lia
 by_cases hfull:t2.tooFull=true
 ·rw[hfull,if_pos (by decide),<- hs1];refine wpAny_bind (Zkm (s:={ s with heap:=h1 }) ho1 rfl hfits (by lia) (by lia) fun es' t' h' hp hT' hw' hl' ho' sb'=>wpAny_pure ?_);exact q true h' (sb1.trans sb') (fin h' _ es' _ t' (sb1.trans sb') ho' hx rfl hp hT' hw' (by rw[hl',e4,hled]))
 ·have hnf:t2.tooFull=false:=by
   cases hc:t2.tooFull with
   | true=>exact absurd hc hfull
   | false=>rfl
  rw[hnf,if_neg (by decide)];refine wpAny_pure (q true h1 sb1 (fin h1 _ es1 _ t2 sb1 ho1 hx rfl (List.Perm.refl _) ⟨by rw[hp1,hs1],e3,by rw[e1];exact hT.good,?_,hris⟩ hway2 (by rw[e4,hled])));unfold SetTable.tooFull at hnf;have:=of_decide_eq_false hnf;lia
set_option maxHeartbeats 2000000 in
theorem ZgQ{S a:Addr}{vs:Value->Prop}{P:List K->Prop}{n:Nat}{led:Bool}{ks:List K}{Q:Bool->Shared->Prop}(hu:A.units<cLine)(hS:Zfa knd s.heap S vs P n led)(hn:n<=900)(hk:IsTupleKey knd s.heap ks a)(hv:vs (.ref a))
  (q:∀b h',Heap.SameBut S s.heap h'->Zfa knd h' S vs (fun k=>P k\/k=ks) (n+1) led->Q b { s with heap:=h' }):wpAny (model prog w) A (setAddHashed S (.ref a) (tupleKeyHash knd ks)) Q E s:=by
 obtain⟨o,es,ep,t,ho,hx,hd,hTS,hsz,hled,hvs,hP⟩:=hS;have hT:=hTS.tab;have hr:=hT.room;have hfe:=hT.fill_eq;unfold setAddHashed;refine wpAny_holding ?_;unfold setAddHashedIn;refine wpAny_bind (wpAny_setState_of ho hd hT.fits ?_);have hbs:byScan (.ref a) es=false:=rfl;dsimp only;rw[hbs,if_neg (by decide)];obtain⟨m,hm1,hm2⟩:=Zdj hT (tupleKeyHash knd ks);have hsm:=ZfK hT.good;unfold setSearch;refine wpAny_bind (Zh3 (knd:=knd) hu ho hd hTS hk (fun hex=>?_) (fun j hj hnone hway=>?_) 100000 m 0 none rfl (fun m hm=>absurd hm (Nat.not_lt_zero _)) hm2 hm1 (by lia))
 ·refine wpAny_pure (q false s.heap (Heap.SameBut.refl ..) ⟨o,es,ep,t,ho,hx,hd,hTS,by lia,hled,hvs,fun k=>(hP k).trans ⟨.inl,fun z=>?_⟩⟩);rcases z with z|rfl
  ·exact z
  ·exact(hP k).mp hex
 dsimp only;refine wpAny_bind (wpAny_setState_of ho hd hT.fits ?_);dsimp only;have hhas:SetTable.has t.dummies j=false:=by rw[hT.none];rfl
 have hput:t.put j=({ t with place:=SetTable.insertAt t.place (SetTable.below t.place j) j },SetTable.below t.place j):=by
  unfold SetTable.put;rw[hhas];rfl
 rw[hput];dsimp only;cases hpl:t.plain with
 | true =>
  rw[if_pos rfl];refine wpAny_bind (ZhQ hk fun b=>?_);cases b with
  | true =>
   rw[if_pos rfl];exact ZdO ho hx hd hTS hsz hled hvs hP hn hk hv hj hnone hway rfl rfl hT.none rfl q
  | false =>
   rw[if_neg (by decide)];exact ZdO ho hx hd hTS hsz hled hvs hP hn hk hv hj hnone hway rfl rfl hT.none rfl q
 | false =>
  rw[if_neg (by decide)];refine wpAny_bind (wpAny_pure ?_);rw[if_pos rfl];exact ZdO ho hx hd hTS hsz hled hvs hP hn hk hv hj hnone hway rfl rfl hT.none rfl q
theorem ZlP{S a:Addr}{vs:Value->Prop}{P:List K->Prop}{n:Nat}{led:Bool}{ks:List K}{Q:Bool->Shared->Prop}(hu:A.units<cLine)(hS:Zfa knd s.heap S vs P n led)(hn:n<=900)(hk:IsTupleKey knd s.heap ks a)(hv:vs (.ref a))
  (q:∀b h' tk,s.toks<=tk->Heap.SameBut S s.heap h'->Zfa knd h' S vs (fun k=>P k\/k=ks) (n+1) led->Q b { s with heap:=h',toks:=tk }):wpAny (model prog w) A (setAdd S (.ref a)) Q E s:=by
 unfold setAdd;refine wpAny_holding (wpAny_bind (wpAny_pyHash_tuple hu hk ?_));exact ZgQ (s:={ s with toks:=_ }) hu hS hn hk hv fun b h' sb hS'=>q b h' _ (Nat.le_add_right _ _) sb hS'
end
end Stg
namespace Srd
open PySem PyProof.Rows Srt PySem.W
structure Sto{α : Type}(lt : α -> α -> Bool):Prop where
 irr:∀a,lt a a=false
 trans:∀a b c,lt a b=true->lt b c=true->lt a c=true
 tri:∀a b,lt a b=false->lt b a=false->a=b
section
variable{α β : Type}{lt : α -> α -> Bool}{lt2 : β -> β -> Bool}
theorem Sto.asym(o:Sto lt){a b : α}(h:lt a b=true):lt b a=false:=by
 cases e:lt b a with
 | false=>rfl
 | true =>
  have:=o.trans a b a h e;rw[o.irr] at this;cases this
theorem Sto.neg(o:Sto lt){x y z : α}(h1:lt x y=false)(h2:lt y z=false):lt x z=false:=by
 cases e:lt x z with
 | false=>rfl
 | true =>
  cases e2:lt y x with
  | true=>rw[o.trans y x z e2 e] at h2;cases h2
  | false =>
   have:=o.tri x y h1 e2;subst this;rw[e] at h2;cases h2
theorem Sto.swo(o:Sto lt)(f:Value -> α):Swo fun x y=>lt (f x.1) (f y.1):=⟨fun _ _ h=>o.asym h,fun _ _ _ h1 h2=>o.neg h1 h2⟩
def ZiM[DecidableEq α](lt : α -> α -> Bool)(lt2 : β -> β -> Bool)(x y : α × β):Bool:=lt x.1 y.1 || (decide (x.1=y.1)&&lt2 x.2 y.2)
theorem Sto.lex[DecidableEq α](o:Sto lt)(o2:Sto lt2):Sto (ZiM lt lt2) where
 irr:=fun a=>by unfold ZiM;rw[o.irr,o2.irr];simp
 trans:=fun a b c h1 h2=>by
  unfold ZiM at *;simp only[Bool.or_eq_true,Bool.and_eq_true,decide_eq_true_eq] at *;rcases h1 with h1|⟨e1,h1⟩
  ·rcases h2 with h2|⟨e2,h2⟩
   ·exact .inl (o.trans _ _ _ h1 h2)
   ·exact .inl (e2 ▸ h1)
  ·rcases h2 with h2|⟨e2,h2⟩
   ·exact .inl (e1.symm ▸ h2)
   ·exact .inr ⟨e1.trans e2,o2.trans _ _ _ h1 h2⟩
 tri:=fun a b h1 h2=>by
  unfold ZiM at *;simp only[Bool.or_eq_false_iff,Bool.and_eq_false_imp,decide_eq_true_eq] at *;have e1:=o.tri _ _ h1.1 h2.1;have e2:=o2.tri _ _ (h1.2 e1) (h2.2 e1.symm);exact Prod.ext e1 e2
theorem Zcg:Sto fun a b:Int=>decide (a<b):=⟨fun a=>by simp,fun a b c h1 h2=>by simp only[decide_eq_true_eq] at *;lia,fun a b h1 h2=>by simp only[decide_eq_false_iff_not] at *;lia⟩
theorem ZcM:∀a b:List Nat,¬ a<b -> ¬ b<a->a=b
 | [],[],_,_=>rfl
 | [],b::bs,h,_=>absurd (List.nil_lt_cons b bs) h
 | a::as,[],_,h=>absurd (List.nil_lt_cons a as) h
 | a::as,b::bs,h1,h2=>by
  rw[List.cons_lt_cons_iff] at h1 h2;have e:a=b:=by
   rcases Nat.lt_trichotomy a b with z|z|z
   ·exact absurd (.inl z) h1
   ·exact z
   ·exact absurd (.inl z) h2
  subst e;rw[ZcM as bs (fun z=>h1 (.inr ⟨rfl,z⟩)) (fun z=>h2 (.inr ⟨rfl,z⟩))]
theorem Za2:∀a:List Nat,¬ a<a
 | [],h=>by cases h
 | a::as,h=>by
  rw[List.cons_lt_cons_iff] at h;rcases h with h|⟨_,h⟩
  ·lia
  ·exact Za2 as h
theorem Zb1:∀a b c:List Nat,a<b->b<c->a<c
 | [],_,[],_,h2=>by cases h2
 | [],_,c::cs,_,_=>List.nil_lt_cons c cs
 | a::as,[],_,h1,_=>by cases h1
 | a::as,b::bs,[],_,h2=>by cases h2
 | a::as,b::bs,c::cs,h1,h2=>by
  rw[List.cons_lt_cons_iff] at *;rcases h1 with h1|⟨e1,h1⟩
  ·rcases h2 with h2|⟨e2,h2⟩
   ·exact .inl (by lia)
   ·exact .inl (by lia)
  ·rcases h2 with h2|⟨e2,h2⟩
   ·exact .inl (by lia)
   ·exact .inr ⟨by lia,Zb1 as bs cs h1 h2⟩
theorem ZjH{x y:Str}(h:x.cps.toList=y.cps.toList):x=y:=by
 cases x;cases y
 congr 1
 exact Array.toList_inj.mp h
theorem Zha:Sto fun a b:Str=>decide (a.cps.toList<b.cps.toList):=⟨fun a=>decide_eq_false (Za2 _),fun a b c h1 h2=>decide_eq_true (Zb1 _ _ _ (of_decide_eq_true h1) (of_decide_eq_true h2)),fun a b h1 h2=>ZjH (ZcM _ _ (of_decide_eq_false h1) (of_decide_eq_false h2))⟩
end
abbrev Qd:=Int×Str×Int×Int
def qLt:Qd->Qd->Bool:=ZiM (fun a b:Int=>decide (a<b)) (ZiM (fun a b:Str=>decide (a.cps.toList<b.cps.toList)) (ZiM (fun a b:Int=>decide (a<b)) fun a b:Int=>decide (a<b)))
theorem Zd5:Sto qLt:=Zcg.lex (Zha.lex (Zcg.lex Zcg))
def IsQ(h:Heap)(v:Value)(q:Qd):Prop := ∃a o t u t2 t3 n,v=.ref a/\h.get? a=some o/\o.cls=.type "tuple" /\ o.data=.seq #[.int q.1 t,.str q.2.1 u,.int q.2.2.1 t2,.int q.2.2.2 t3] n
theorem IsQ.inj{h:Heap}{v:Value}{q q':Qd}(x:IsQ h v q)(y:IsQ h v q'):q=q':=by
 obtain⟨a,o,t,u,t2,t3,n,rfl,h1,_,h3⟩:=x;obtain⟨a',o',t',u',t2',t3',n',e,h1',_,h3'⟩:=y;cases e;rw[h1] at h1';cases h1';rw[h3] at h3';obtain⟨q1,q2,q3,q4⟩:=q;obtain⟨r1,r2,r3,r4⟩:=q';simp only[Data.seq.injEq,Array.mk.injEq,List.cons.injEq,Value.int.injEq,Value.str.injEq,and_true] at h3';obtain⟨⟨⟨e1,_⟩,⟨e2,_⟩,⟨e3,_⟩,⟨e4,_⟩⟩,_⟩:=h3';rw[e1,e2,e3,e4]
theorem IsQ.keep{h h':Heap}{v:Value}{q:Qd}(x:IsQ h v q)(k:∀b o,h.get? b=some o->h'.get? b=some o):IsQ h' v q:=by
 obtain⟨a,o,t,u,t2,t3,n,rfl,h1,r⟩:=x;exact⟨a,o,t,u,t2,t3,n,rfl,k _ _ h1,r⟩
open Classical in
noncomputable def kq(h:Heap)(v:Value):Qd:=if x:∃q,IsQ h v q then x.choose else(0,Str.empty,0,0)
theorem ZhC{h:Heap}{v:Value}{q:Qd}(x:IsQ h v q):kq h v=q:=by
 unfold kq;rw[dif_pos ⟨q,x⟩];exact(Exists.choose_spec (⟨q,x⟩:∃q,IsQ h v q)).inj x
section
variable{prog:Program}{w:World}{A:Around}{s:Shared}
theorem ZhF{h:Heap}:∀{vs:List Value},(∀v∈vs,∃q,IsQ h v q)->∃fs,KatTups h vs fs/\fs.length=vs.length/\∀f∈fs,∃i t,f=.int i t
 | [],_=>⟨[],trivial,rfl,fun _ h=>nomatch h⟩
 | v::vs,hv=>by
  obtain⟨q,a,o,t,u,t2,t3,n,rfl,ho,hc,hd⟩:=hv v (List.mem_cons_self ..);obtain⟨fs,kt,hl,hf⟩:=ZhF (vs:=vs) fun x hx=>hv x (List.mem_cons_of_mem _ hx);refine⟨.int q.1 t::fs,KatTups.cons ho hc hd rfl kt,by simp[hl],fun f hm=>?_⟩;rcases List.mem_cons.mp hm with rfl|hm
  ·exact⟨_,t,rfl⟩
  ·exact hf f hm
theorem Zcs{h0:Heap}{vs:List Value}(hv:∀v∈vs,∃q,IsQ h0 v q)(k0:∀b o,h0.get? b=some o->s.heap.get? b=some o)(h2:2<=vs.length):Zbf prog w A (fun u v=>qLt (kq h0 u) (kq h0 v)) vs s:=by
 have hv':∀v∈vs,∃q,IsQ s.heap v q:=fun v hm=>let ⟨q,x⟩:=hv v hm;⟨q,x.keep k0⟩;obtain⟨fs,k,hl,hf⟩:=ZhF hv';refine⟨tuples' true,fun Q E hq=>?_,?_⟩
 ·refine kat_kind (T:=.type "int") k (by lia) (fun v hm=>?_) rfl hq;obtain⟨i,t,rfl⟩:=hf v hm;exact Looks.of_pure rfl
 ·intro x y hx hy E;rw[pairsOf_toList] at hx hy;obtain⟨q,xq⟩:=hv _ (mem_zip_self hx).2;obtain⟨q',yq⟩:=hv _ (mem_zip_self hy).2;have e1:(fun x y:Keyed=>qLt (kq h0 x.1) (kq h0 y.1)) x y=qLt q q':=by
   show qLt (kq h0 x.1) (kq h0 y.1)=_;have hx1:=(mem_zip_self hx);have hy1:=(mem_zip_self hy);rw[ZhC xq,ZhC yq]
  rw[e1];obtain⟨a,o,t,u,t2,t3,n,e,ho,hc,hd⟩:=xq.keep k0;obtain⟨a',o',t',u',t2',t3',n',e',ho',hc',hd'⟩:=yq.keep k0;rw[e,e'];obtain⟨q1,q2,q3,q4⟩:=q;obtain⟨r1,r2,r3,r4⟩:=q';refine kat_lt ho hd ho' hd' ?_;have unf:qLt (q1,q2,q3,q4) (r1,r2,r3,r4)=(decide (q1<r1) || (decide (q1=r1)&&(decide (q2.cps.toList<r2.cps.toList) || (decide (q2=r2)&&(decide (q3<r3) || (decide (q3=r3)&&decide (q4<r4))))))):=rfl;rw[unf];refine kat_cons (wpAny_eqBool_int (kat_go (fun c1=>kat_yes ?_) (fun c1=>kat_no ?_)))
  ·have c1':q1=r1:=eq_of_beq c1;refine kat_cons (wpAny_eqBool_str (kat_go (fun c2=>kat_yes ?_) (fun c2=>kat_no ?_)))
   ·have c2':q2=r2:=of_decide_eq_true c2;refine kat_cons (wpAny_eqBool_int (kat_go (fun c3=>kat_yes ?_) (fun c3=>kat_no ?_)))
    ·have c3':q3=r3:=eq_of_beq c3;refine kat_cons (wpAny_eqBool_int (kat_go (fun c4=>kat_yes (kat_nil ⟨rfl,?_⟩)) (fun c4=>kat_no ?_)))
     ·have c4':q4=r4:=eq_of_beq c4;subst c1' c2' c3' c4';rw[decide_eq_false (Za2 q2.cps.toList)];simp
     ·refine kat_one _ _ (wpAny_lt_int ⟨rfl,?_⟩);subst c1' c2' c3';rw[decide_eq_false (Za2 q2.cps.toList)];simp
    ·refine kat_one _ _ (wpAny_lt_int ⟨rfl,?_⟩);have c3' : ¬ q3=r3:=fun z=>by rw[z] at c3;simp at c3
     subst c1' c2';rw[decide_eq_false (Za2 q2.cps.toList)];simp[c3']
   ·refine kat_one _ _ (PyProof.Rows.lt_str ⟨rfl,?_⟩);have c2' : ¬ q2=r2:=of_decide_eq_false c2;subst c1';simp[c2']
  ·refine oneLt_int ⟨rfl,?_⟩;have c1' : ¬ q1=r1:=fun z=>by rw[z] at c1;simp at c1
   simp[c1']
end
end Srd
namespace Stg
open PySem PyProof.Rows PySem.W Sts
section
variable{prog:Program}{w:World}{A:Around}{E:Value->Shared->Prop}{s:Shared}
theorem Zii(es:Array (Int×Value)):(List.range es.size).map (fun j=>(es.getD j (0,.none)).2)=es.toList.map (·.2):=by
 refine List.ext_getElem? fun i=>?_;rw[List.getElem?_map,List.getElem?_map];by_cases hi:i<es.size
 ·rw[List.getElem?_range hi,Array.getElem?_toList,Array.getElem?_eq_getElem hi];simp[Array.getD,hi]
 ·rw[List.getElem?_eq_none (by rw[List.length_range];lia),List.getElem?_eq_none (by rw[Array.length_toList];lia)];rfl
set_option maxHeartbeats 1000000 in
theorem ZjE{S:Addr}{o:Obj}{es:Array (Int×Value)}{ep:Nat}{t:SetTable}{Q:Value->Shared->Prop}(ho:s.heap.get? S=some o)(hx:o.ExactSet)(hd:o.data=.set es ep t)(hT:Tab es t)(hled:t.led=Zdq w)(hn:es.size<=900)
  (q:∀(I T:Addr)(ys:List Value)(h':Heap)(d:Drawn),(∀b o,s.heap.get? b=some o->h'.get? b=some o)->SIt w h' I S T es ep t ys 0->ys.length=es.size->S≠I->T≠I->ys.Perm (es.toList.map (·.2))->s.heap.objs.size<=I->(T=S\/s.heap.objs.size<=T)->Q (.ref I) { s with heap:=h',drawn:=d }) :
  wpAny (model prog w) A (pyIter (.ref S)) Q E s:=by
 have hty:s.TypeIs (.ref S) "set" := ⟨o,ho,hx.1⟩;have hf:=hT.fits;refine wpAny_pyIter_slot hty PySem.F.slot_set_iter (wpAny_call_entry PySem.F.slot_set_iter hty ZeX ?_ (PySem.F.args_set_iter_1 _));unfold Builtin.«frozenset.__iter__»;refine wpAny_bind ?_;unfold Builtin.Frozenset.slot0;refine wpAny_bind (wpAny_pure ?_);change wpAny _ A.in1 (pure S) _ _ s;refine wpAny_pure (wpAny_bind ?_);unfold Builtin.Frozenset.sizeOf;refine wpAny_bind (ZfB ho hd hf (wpAny_pure (wpAny_bind (ZjV ho hd hf ?_))));have ep_:∀{s1:Shared}{Q1:Nat->Shared->Prop}{E1:Value->Shared->Prop},s1.heap.get? S=some o->Q1 ep s1->wpAny (model prog w) A.in1 (setEpoch S) Q1 E1 s1:=fun ho1 h=>by
  unfold setEpoch;exact wpAny_bind (wpAny_setState_of ho1 hd hf (wpAny_pure h))
 cases hdr:(!w.params.followText "set-order" && (!t.plain&&decide (es.size > 1))) with
 | true =>
  rw[if_pos rfl];have hf0:w.params.followText "set-order" = false:=by
   cases hc:w.params.followText "set-order" with
   | false=>rfl
   | true=>rw[hc] at hdr;cases hdr
  refine wpAny_bind (Zg4 es.size (List.range es.size) s List.length_range fun perm d hp=>?_);have hpl:perm.length=es.size:=by rw[hp.length_eq,List.length_range]
  refine wpAny_bind (wpAny_newTuple ?_ (by rw[List.length_map,hpl,sizeLine_eq];lia));dsimp only;refine wpAny_bind (ep_ (Heap.get?_push_of_some _ ho) ?_);unfold newFields;refine wpAny_bind (wpAny_newObj_type (wpAny_pure ⟨_,rfl,"set_iterator",_,⟨_,Heap.get?_push_size _ rfl,rfl⟩,Zad.lookup,?_⟩));have hsz1:(s.heap.push { cls:=.type "tuple",data:=.seq (perm.map fun(i:Nat)=>rawInt (i:Int)).toArray }).objs.size=s.heap.objs.size+1:=Heap.size_push ..;refine q _ s.heap.objs.size (perm.map fun j=>(es.getD j (0,.none)).2) _ d (fun b o e=>Heap.get?_push_of_some _ (Heap.get?_push_of_some _ e)) ⟨⟨o,Heap.get?_push_of_some _ (Heap.get?_push_of_some _ ho),hd⟩,hf,_,_,Heap.get?_push_size _ rfl,rfl,rfl,.inr (.inr ⟨_,_,_,rfl,Heap.get?_push_of_some _ (Heap.get?_push_size _ rfl),rfl,?_,fun k v hk=>?_⟩)⟩ (by rw[List.length_map,hpl]) ?_ ?_ ?_ ?_ (.inr (Nat.le_refl _))
  ·rw[List.length_map,hpl]
  ·have hk':(perm.map fun(i:Nat)=>rawInt (i:Int))[k]?= some v:=by rw[<- hk];simp
   rw[List.getElem?_map] at hk';obtain⟨j,hj,rfl⟩:=Option.map_eq_some_iff.mp hk';have hjs:j<es.size:=List.mem_range.mp (hp.mem_iff.mp (List.mem_of_getElem? hj));refine⟨j,0,rfl,?_,hjs⟩;rw[List.getElem?_map,hj,Array.getElem?_eq_getElem hjs];simp[Array.getD,hjs]
  ·rw[hsz1];exact Nat.ne_of_lt (Nat.lt_succ_of_lt (Heap.lt_size ho))
  ·rw[hsz1];exact Nat.ne_of_lt (Nat.lt_succ_self _)
  ·exact(hp.map _).trans (List.Perm.of_eq (Zii es))
  ·rw[hsz1];exact Nat.le_succ _
 | false =>
  rw[if_neg (by decide)];refine wpAny_bind (wpAny_pure ?_);dsimp only;refine wpAny_bind (ep_ ho ?_);unfold newFields;refine wpAny_bind (wpAny_newObj_type (wpAny_pure ⟨_,rfl,"set_iterator",_,⟨_,Heap.get?_push_size _ rfl,rfl⟩,Zad.lookup,?_⟩));have nI:S≠s.heap.objs.size:=Nat.ne_of_lt (Heap.lt_size ho);cases hft:w.params.followText "set-order" with
  | true =>
   have hpk:(pickOrder (w.params.setOrder S ep) es).toList.Perm es.toList:=by
    have:=Zeu (w.params.setOrder S ep) es.size 0 es.toList #[] (Array.length_toList)
    simpa[pickOrder] using this
   refine q _ S ((pickOrder (w.params.setOrder S ep) es).toList.map (·.2)) _ s.drawn (fun b o e=>Heap.get?_push_of_some _ e) ⟨⟨o,Heap.get?_push_of_some _ ho,hd⟩,hf,_,_,Heap.get?_push_size _ rfl,rfl,rfl,.inl ⟨0,rfl,hft,rfl⟩⟩ (by rw[List.length_map,hpk.length_eq,Array.length_toList]) nI nI (hpk.map _) (Nat.le_refl _) (.inl rfl)
  | false =>
   rw[hft] at hdr;have hl1:t.led=true:=by rw[hled];show(!w.params.followText "set-order")=true;rw[hft];rfl
   refine q _ S (es.toList.map (·.2)) _ s.drawn (fun b o e=>Heap.get?_push_of_some _ e) ⟨⟨o,Heap.get?_push_of_some _ ho,hd⟩,hf,_,_,Heap.get?_push_size _ rfl,rfl,rfl,.inr (.inl ⟨0,rfl,hft,hdr,hl1,ZgF hT.ris,hT.ris,rfl⟩)⟩ (by rw[List.length_map,Array.length_toList]) nI nI (List.Perm.refl _) (Nat.le_refl _) (.inl rfl)
set_option maxHeartbeats 1000000 in
theorem ZaL{S:Addr}{oS:Obj}{es:Array (Int×Value)}{ep:Nat}{t:SetTable}{Q:List Value->Shared->Prop}(hh:A.handled=none)(hoS:s.heap.get? S=some oS)(hxS:oS.ExactSet)(hd:oS.data=.set es ep t)(hT:Tab es t)(hled:t.led=Zdq w)(hn:es.size<=900)
  (q:∀(ys:List Value)(h':Heap)(tk:Nat)(d:Drawn),(∀b o,s.heap.get? b=some o->h'.get? b=some o)->ys.Perm (es.toList.map (·.2))->s.heap.objs.size<=h'.objs.size->Q ys { s with heap:=h',toks:=tk,drawn:=d }):wpAny (model prog w) A (collect (.ref S)) Q E s:=by
 unfold collect;refine wpAny_bind (wpAny_runValue (codeAny_builtin entry_proto_collect' ?_));change wpAny _ _ (do again (.builtin "list.__iadd__" ⟨[<- newList [],.ref S],[]⟩)) _ _ s;refine wpAny_bind (wpAny_newList (wpAny_pure ⟨Code.quiet_builtin _ (by decide +kernel),codeAny_builtin entry_list_iadd' ?_⟩));change wpAny _ _ (Builtin.List.listExtendWith (.ref s.heap.objs.size) (.ref S) (.ref s.heap.objs.size)) _ _ { s with heap:=s.heap.push (seqObj "list" #[] 0) };have hSlt:=Heap.lt_size hoS;have hL:(s.heap.push (seqObj "list" #[] 0)).get? s.heap.objs.size=some (seqObj "list" #[] 0):=Heap.get?_push_size _ rfl;have hty:Shared.TypeIs { s with heap:=s.heap.push (seqObj "list" #[] 0) } (.ref S) "set" := ⟨oS,Heap.get?_push_of_some _ hoS,hxS.1⟩;unfold Builtin.List.listExtendWith;refine wpAny_bind (wpAny_typeOf (T := "set") hty ?_);have nLS:s.heap.objs.size≠S:=Nat.ne_of_gt hSlt;have h1:Builtin.List.listSameRef (.ref s.heap.objs.size) (.ref S)=false:=by simp[Builtin.List.listSameRef,nLS]
 rw[h1,if_neg (by decide)];refine wpAny_bind (ZjE (s:={ s with heap:=s.heap.push (seqObj "list" #[] 0) }) (Heap.get?_push_of_some _ hoS) hxS hd hT hled hn fun I T ys h2 d k2 x hy nSI nTI hvs hI hTp=>?_);have hIlt:s.heap.objs.size<I:=by
  refine Nat.lt_of_lt_of_le ?_ hI;show s.heap.objs.size<(s.heap.push (seqObj "list" #[] 0)).objs.size;rw[Heap.size_push];exact Nat.lt_succ_self _
 have hL2:=k2 _ _ hL;have nTL:s.heap.objs.size≠T:=by
  rcases hTp with rfl|hTp
  ·exact nLS
  ·refine Nat.ne_of_lt (Nat.lt_of_lt_of_le ?_ hTp);show s.heap.objs.size<(s.heap.push (seqObj "list" #[] 0)).objs.size;rw[Heap.size_push];exact Nat.lt_succ_self _
 have hLf:s.heap.objs.size ∉ [I,S,T]:=by
  simp only[List.mem_cons,List.not_mem_nil,or_false,not_or];exact⟨Nat.ne_of_lt hIlt,nLS,nTL⟩
 have W:=Zi8 (prog:=prog) (w:=w) (A:=A.in1) (t:=t) (ep:=ep) hh nSI nTI hy;have keep0:∀b o,s.heap.get? b=some o->h2.get? b=some o:=fun b o e=>k2 b o (Heap.get?_push_of_some _ e);have hb1:∀b o,s.heap.get? b=some o->b≠s.heap.objs.size:=fun b o e=>Nat.ne_of_lt (Heap.lt_size e);have hbI:∀b o,s.heap.get? b=some o->b≠I:=fun b o e=>Nat.ne_of_lt (Nat.lt_trans (Heap.lt_size e) hIlt);have key:∀(h:Heap)(c₁ tk:Nat),SIt w h I S T es ep t ys 0->(∀b o,b≠s.heap.objs.size->h2.get? b=some o->h.get? b=some o)->h.get? s.heap.objs.size=some { cls:=.type "list",data:=.seq #[] c₁ } ->
   codeAny (model prog w) A (.builtin "list.extend.loop" ⟨[.ref s.heap.objs.size,.ref I,.ref s.heap.objs.size],[]⟩) (wants (fun v s'=>wpAny (model prog w) A (match v with
     | Value.ref a=>do
      let o <- load a
      match o.data with
      | .seq xs _=>pure xs.toList
      | _=>unsupported "internal:collect"
     | _=>unsupported "internal:collect") Q E s') E) { s with heap:=h,drawn:=d,toks:=tk }:=by
  intro h c₁ tk hst hk hL3;refine codeAny_extend_loopS W.toS (by rw[sizeLine_eq];lia) s.heap.objs.size hLf _ ys.length 0 _ #[] c₁ rfl (Nat.zero_le _) hst hL3 (ItemsOf.nil _) fun s' acc' c' hm hL4 hacc=>?_;rw[Moved.eq_with hm];refine wpAny_bind (wpAny_load hL4 ?_);refine wpAny_pure ?_;have hacc2:acc'.toList=ys:=by
   refine List.ext_getElem? fun j=>?_;rw[Array.getElem?_toList];cases hj:acc'[j]? with
   | none =>
    have h3:acc'.size<=j:=Array.getElem?_eq_none_iff.mp hj;rw[hacc.1] at h3;rw[List.getElem?_eq_none h3]
   | some v=>rw[hacc.2 j v hj]
  rw[hacc2];refine q ys s'.heap s'.toks d (fun b o e=>hm.heap b o (fun hmem=>?_) (hk b o (hb1 b o e) (keep0 b o e))) hvs (Nat.le_of_lt (Heap.lt_size hL4));rcases List.mem_cons.mp hmem with z|z
  ·exact hb1 b o e z
  ·exact hbI b o e (List.mem_singleton.mp z)
 refine wpAny_bind (wpAny_holding (ZiE ⟨oS,k2 S oS (Heap.get?_push_of_some _ hoS),hxS.1⟩ ?_));refine wpAny_ite_split (fun _=>?_) (fun _=>wpAny_pure ⟨plainId_quiet PySem.F.plain_extend_loop _,key h2 0 _ x (fun b o _ e=>e) hL2⟩);refine wpAny_bind (wpAny_rule (wpAny_bind ?_));change wpAny _ _ (updateSeq s.heap.objs.size (·.push .none) >>= fun _=>updateSeq s.heap.objs.size (·.pop)) _ _ _;refine wpAny_bind (wpAny_updateSeq hL2 rfl ?_);have hL3:=Heap.get?_update_self (Obj.mapSeq (·.push Value.none)) hL2 rfl;refine wpAny_updateSeq (hz:=by seq_fits) hL3 rfl ?_;have hL4:=Heap.get?_update_self (Obj.mapSeq (·.pop)) hL3 rfl;have oth:∀b o,b≠s.heap.objs.size->h2.get? b=some o->((h2.update s.heap.objs.size (Obj.mapSeq (·.push Value.none))).update s.heap.objs.size (Obj.mapSeq (·.pop))).get? b=some o:=fun b o hb e=>(Heap.get?_update_other _ _ (Ne.symm hb)).trans ((Heap.get?_update_other _ _ (Ne.symm hb)).trans e);exact wpAny_pure ⟨plainId_quiet PySem.F.plain_extend_loop _,key _ _ _ (W.frame 0 _ _ x fun b hb o e=>oth b o (fun z=>hLf (z ▸ hb)) e) oth hL4⟩
end
end Stg
namespace Stg
open PySem PyProof.Rows Sts
section
variable{prog:Program}{w:World}{K:Type}[DecidableEq K]{knd:KeyKind prog w K}{A:Around}{E:Value->Shared->Prop}{s:Shared}
def ZgI(knd:KeyKind prog w K)(h:Heap)(S:Addr)(G:List (Int×Value)->Prop)(n:Nat)(led:Bool):Prop :=
 ∃o es ep t,h.get? S=some o/\o.ExactSet/\o.data=.set es ep t/\Zkp knd true h es/\Tab es t/\es.size<=n/\t.led=led/\G es.toList
set_option maxHeartbeats 1000000 in
theorem Zf9{g:Bool->Sem Unit}(hg:∀(b:Bool)(s₁ : Shared)(Q':Unit->Shared->Prop),Q' () s₁ -> wpAny (model prog w) A (g b) Q' E s₁)
  {S:Addr} {o:Obj} {es es1:Array (Int×Value)} {ep:Nat} {t t2:SetTable} {G:List (Int×Value)->Prop} (gp:∀l l',List.Perm l' l->G l->G l') {n:Nat} {led:Bool} {Q:Option Bool->Shared->Prop} (ho:s.heap.get? S=some o) (hx:o.ExactSet) (hd:o.data=.set es ep t)
  (hE:Zkp knd true s.heap es1) (hvs:G es1.toList) (h1:1<=es1.size) (hn:es1.size<=1000) (hsz:es1.size<=n) (hp:t2.place.size=es1.size) (hd2:t2.dummies=#[]) (hg2:Good t2.mask) (hris:Ris t2.place) (hled:t2.led=led)
  (q:∀h',Heap.SameBut S s.heap h'->ZgI knd h' S G n led->Q (some true) { s with heap:=h' }) :
  wpAny (model prog w) A (do
   storeSet S es1 t2
   if(!false&&t2.tooFull)=true then do
     g (relayAll t2 es1 (SetTable.grown es1.size)).2.2
     storeSet S (relayAll t2 es1 (SetTable.grown es1.size)).1 (relayAll t2 es1 (SetTable.grown es1.size)).2.1
     pure (some true)
    else pure (some true)) Q E s:=by
 refine wpAny_bind (wpAny_storeSet_of ho hd ?_ (by rw[sizeLine_eq];lia));have ho1:=stored ho hd es1 t2;have sb1:Heap.SameBut S s.heap (s.heap.update S (Obj.putSet es1 t2)):=Heap.SameBut.update ..;generalize s.heap.update S (Obj.putSet es1 t2)=hp1 at ho1 sb1;by_cases hfull:t2.tooFull=true
 ·rw[hfull,if_pos (by decide)];obtain⟨es2,t3,gv,e,hpm,hT3,hl3⟩:=Ze9 (t:=t2) h1 hn;rw[e];dsimp only;have hz2:es2.size=es1.size:=by rw[<- Array.length_toList,hpm.length_eq,Array.length_toList]
  refine wpAny_bind (hg _ _ _ (wpAny_bind (wpAny_storeSet_of (s:={ s with heap:=hp1 }) ho1 rfl ?_ (by rw[hz2,sizeLine_eq];lia))));have ho2:=stored ho1 rfl es2 t3;have sb2:Heap.SameBut S hp1 (hp1.update S (Obj.putSet es2 t3)):=Heap.SameBut.update ..;exact wpAny_pure (q _ (sb1.trans sb2) ⟨_,es2,_,t3,ho2,hx,rfl,fun e he=>hE e (hpm.mem_iff.mp he),hT3,by lia,by rw[hl3,hled],gp _ _ hpm hvs⟩)
 ·have hnf:t2.tooFull=false:=by
   cases hc:t2.tooFull with
   | true=>exact absurd hc hfull
   | false=>rfl
  rw[hnf,if_neg (by decide)];refine wpAny_pure (q hp1 sb1 ⟨_,es1,_,t2,ho1,hx,rfl,hE,⟨hp,hd2,hg2,?_,hris⟩,hsz,hled,hvs⟩);unfold SetTable.tooFull at hnf;have:=of_decide_eq_false hnf;lia
set_option maxHeartbeats 2000000 in
theorem ZgK{S:Addr}{G G':List (Int×Value)->Prop}(gp:∀l l',List.Perm l' l->G' l->G' l'){n i tk:Nat}{k:Int}{led:Bool}{Q:Bool->Shared->Prop}(hS:ZgI knd s.heap S G n led)(hn:n<=900)(g0:∀l,G l->(∃e∈l,(intKind prog w).is k e.2=true)->G' l)(g1:∀l x,G l->(∀e∈l,(intKind prog w).is k e.2=false)->G' ((x,Value.int k tk)::l))
  (q:∀b h',Heap.SameBut S s.heap h'->ZgI knd h' S G' (n+1) led->Q b { s with heap:=h' }):wpAny (model prog w) A (setAddHashed S (.int k tk) ((intKind prog w).hash k)) Q E s:=by
 obtain⟨o,es,ep,t,ho,hx,hd,hE,hT,hsz,hled,hvs⟩:=hS;have hkey:(intKind prog w).is k (Value.int k tk)=true:=intKind_is _ _ _ _;have hb:es.size<scanBound:=by show es.size<4096;lia
 unfold setAddHashed setAddHashedIn;refine wpAny_holding (wpAny_bind (wpAny_setState_of ho hd hT.fits ?_));dsimp only;rw[byScan_of (knd:=intKind prog w) rfl hb (ZdL hE)];simp only[↓reduceIte];unfold setAddByScan;refine wpAny_bind ?_;refine wpAny_bind (wpAny_rule ?_);refine wpAny_bind (wpAny_setScan_of (knd:=intKind prog w) hkey ho hd hT.fits (ZdL hE) ?_);cases hr:List.findIdx? (fun e=>(intKind prog w).is k e.2) es.toList with
 | some j =>
  dsimp only;obtain⟨hj,hpj,_⟩:=List.findIdx?_eq_some_iff_getElem.mp hr;exact wpAny_pure (wpAny_pure (q false s.heap (Heap.SameBut.refl ..) ⟨o,es,ep,t,ho,hx,hd,hE,hT,by lia,hled,g0 _ hvs ⟨es.toList[j],List.getElem_mem hj,hpj⟩⟩))
 | none =>
  dsimp only;obtain⟨j,hj,eL⟩:=Zhg hT ((intKind prog w).hash k) (Value.int k tk);rw[eL];dsimp only;have hins:=SetTable.insertAt_perm es (SetTable.below t.place j) ((intKind prog w).hash k,Value.int k tk);have hmem:∀e∈(SetTable.insertAt es (SetTable.below t.place j) ((intKind prog w).hash k,Value.int k tk)).toList,e∈es.toList\/e=((intKind prog w).hash k,Value.int k tk):=fun e he=>by
   have:=hins.mem_iff.mp he;rw[Array.toList_push] at this;rcases List.mem_append.mp this with z|z
   ·exact .inl z
   ·exact .inr (List.mem_singleton.mp z)
  have hG1:G' (SetTable.insertAt es (SetTable.below t.place j) ((intKind prog w).hash k,Value.int k tk)).toList:=by
   refine gp _ _ ?_ (g1 es.toList ((intKind prog w).hash k) hvs fun e he=>?_)
   ·refine hins.trans ?_;rw[Array.toList_push];exact List.perm_append_comm (l₁ := es.toList) (l₂ :=[_])
   ·exact List.findIdx?_eq_none_iff.mp hr e he
  have hs1:(SetTable.insertAt es (SetTable.below t.place j) ((intKind prog w).hash k,Value.int k tk)).size=es.size+1:=by
   rw[<- Array.length_toList,hins.length_eq,Array.length_toList,Array.size_push]
  have hp1:(SetTable.insertAt t.place (SetTable.below t.place j) j).size=es.size+1:=by
   rw[<- Array.length_toList,(SetTable.insertAt_perm t.place (SetTable.below t.place j) j).length_eq,Array.length_toList,Array.size_push,hT.size]
  have hris:Ris (SetTable.insertAt t.place (SetTable.below t.place j) j):=Zcd hT.ris (Zbu hT.ris hj);generalize SetTable.insertAt es (SetTable.below t.place j) ((intKind prog w).hash k,Value.int k tk)=es1 at hmem hs1 hG1;have hE1:Zkp knd true s.heap es1:=fun e he=>by
   rcases hmem e he with z|z
   ·exact hE e z
   ·subst z;exact⟨k,tk,rfl,rfl⟩
  refine wpAny_bind (wpAny_pure ?_)
  split
  ·refine wpAny_bind ?_;rw[hashByValue_scannable 8 (x:=Value.int k tk) rfl];refine wpAny_pure ?_;refine Zf9 (gp:=gp) (fun b s₁ Q' hq=>by cases b <;> first|exact wpAny_pure hq|exact wpAny_rule hq) ho hx hd hE1 hG1 (by lia) (by lia) (show es1.size<=n+1 by lia) (by rw[hs1];exact hp1) hT.none hT.good hris hled fun h' sb hS'=>?_
   exact wpAny_pure (q true h' sb hS')
  ·refine wpAny_bind (wpAny_pure ?_);refine Zf9 (gp:=gp) (fun b s₁ Q' hq=>by cases b <;> first|exact wpAny_pure hq|exact wpAny_rule hq) ho hx hd hE1 hG1 (by lia) (by lia) (show es1.size<=n+1 by lia) (by rw[hs1];exact hp1) hT.none hT.good hris hled fun h' sb hS'=>?_
   exact wpAny_pure (q true h' sb hS')
theorem Zl2{S:Addr}{k:Int}{tk:Nat}{G G':List (Int×Value)->Prop}(gp:∀l l',List.Perm l' l->G' l->G' l'){n:Nat}{led:Bool}{Q:Bool->Shared->Prop}(hS:ZgI knd s.heap S G n led)(hn:n<=900)(g0:∀l,G l->(∃e∈l,(intKind prog w).is k e.2=true)->G' l)(g1:∀l x,G l->(∀e∈l,(intKind prog w).is k e.2=false)->G' ((x,Value.int k tk)::l))
  (q:∀r h' tk,s.toks<=tk->Heap.SameBut S s.heap h'->ZgI knd h' S G' (n+1) led->Q r { s with heap:=h',toks:=tk }):wpAny (model prog w) A (setAdd S (.int k tk)) Q E s:=by
 unfold setAdd;refine wpAny_holding (wpAny_bind ((intKind prog w).pyHash (intKind_is _ _ _ _) ?_));exact ZgK gp (i:=0) (s:={ s with toks:=_ }) hS hn g0 g1 fun b h' sb hS'=>q b h' _ (Nat.le_add_right _ _) sb hS'
end
section
variable{prog:Program}{w:World}{A:Around}{R:Result->Shared->Prop}
structure Goes(prog:Program)(w:World)(A:Around)(S:Addr)(items:Array Value)(J:Nat->Heap->Prop):Prop where
 keep:∀i h h',J i h->(∀b o,b<=S->h.get? b=some o->h'.get? b=some o)->J i h'
 add:∀(i:Nat) v (s:Shared) (Q:Bool->Shared->Prop) (E:Value->Shared->Prop),items[i]?= some v->J i s.heap->(∀b h' tk,Heap.SameBut S s.heap h'->J (i+1) h'->Q b { s with heap:=h',toks:=tk })->wpAny (model prog w) A (setAdd S v) Q E s
theorem Ziu{S I l:Addr}{items:Array Value}{J:Nat->Heap->Prop}(hh:A.in1.handled=none)(g:Goes prog w A.in1 S items J)(hSI:S<I)(hlI:l≠I):∀(k i:Nat)(s:Shared),items.size-i=k->i<=items.size->(s.heap.IsListIter I l i/\s.heap.IsList l items)->l<S->J i s.heap ->
   (∀h' tk,J items.size h'->(∀b o,b<S->s.heap.get? b=some o->h'.get? b=some o)->R (.ok (.ret .none)) { s with heap:=h',toks:=tk })->codeAny (model prog w) A (.builtin "set.update.loop" ⟨[.ref S,.ref I],[]⟩) R s:=by
 have W:=Walks.list (prog:=prog) (w:=w) (A:=A.in1) hh I l hlI items;intro k
 induction k with
 | zero =>
  intro i s hk hi hst hlS hw hR;obtain rfl:i=items.size:=by lia
  refine codeAny_builtin F.entry_set_update_loop ?_;rw[Around.under_plainId F.plain_set_update_loop _];change wpAny _ A.in1 (pyNext (.ref I) >>= _) _ _ s;refine wpAny_bind (W.done s _ _ hst fun h' tk hm=>?_);change wpAny _ A.in1 (ret Value.none) _ _ _;have hkk:∀b o,b<=S->s.heap.get? b=some o->h'.get? b=some o:=fun b o hb e=>hm b o (fun z=>Nat.lt_irrefl _ (Nat.lt_of_le_of_lt (List.mem_singleton.mp z ▸ hb) hSI)) e;exact wpAny_pure (hR h' tk (g.keep _ _ _ hw hkk) fun b o hb e=>hkk b o (Nat.le_of_lt hb) e)
 | succ k ih =>
  intro i s hk hi hst hlS hw hR;have hlt:i<items.size:=by lia
  refine codeAny_builtin F.entry_set_update_loop ?_;rw[Around.under_plainId F.plain_set_update_loop _];change wpAny _ A.in1 (pyNext (.ref I) >>= _) _ _ s;refine wpAny_bind (W.item i s _ _ hlt hst fun v h' tk hP hst' hm=>?_);have hkk:∀b o,b<=S->s.heap.get? b=some o->h'.get? b=some o:=fun b o hb e=>hm b o (fun z=>Nat.lt_irrefl _ (Nat.lt_of_le_of_lt (List.mem_singleton.mp z ▸ hb) hSI)) e;have hw':=g.keep _ _ _ hw hkk;change wpAny _ A.in1 (holding [v] (setAdd S v) >>= _) _ _ _;refine wpAny_bind (wpAny_holding (g.add i v { s with heap:=h',toks:=tk } _ _ hP hw' fun b1 h2 tk2 sb hS2=>?_));have hk2:∀b o,b≠S->h'.get? b=some o->h2.get? b=some o:=fun b o hb e=>(sb.2 b hb).trans e;refine wpAny_pure ⟨plainId_quiet F.plain_set_update_loop _,ih (i+1) _ (by lia) hlt ?_ hlS hS2 fun h3 tk3 hw3 hb3=>hR h3 tk3 hw3 fun b o hb e=>hb3 b o hb (hk2 b o (Nat.ne_of_lt hb) (hkk b o (Nat.le_of_lt hb) e))⟩;refine W.frame _ h' h2 hst' fun b hb o e=>hk2 b o (fun z=>?_) e;simp only[List.mem_cons,List.not_mem_nil,or_false] at hb;rcases hb with rfl|rfl
  ·exact Nat.lt_irrefl _ (z ▸ hSI)
  ·exact Nat.lt_irrefl _ (z ▸ hlS)
end
section
variable{prog:Program}{w:World}{A:Around}{E:Value->Shared->Prop}{s:Shared}
set_option maxRecDepth 100000 in
set_option maxHeartbeats 3200000 in
theorem Zby{l:Addr}{items:Array Value}{J:Nat->Heap->Prop}{Q:Value->Shared->Prop}(hh:A.handled=none)(hu:A.units+100<cLine)(hl:s.heap.IsList l items)(g:∀B:Around,B.units<cLine->Goes prog w B s.heap.objs.size items J)(j0:∀h:Heap,h.get? s.heap.objs.size=some (Z2 w)->(∀b o,b<s.heap.objs.size->s.heap.get? b=some o->h.get? b=some o)->J 0 h)
  (q:∀(h':Heap)(tk:Nat),J items.size h'->(∀b o,b<s.heap.objs.size->s.heap.get? b=some o->h'.get? b=some o)->Q (.ref s.heap.objs.size) { s with heap:=h',toks:=tk }) :
  wpAny (model prog w) A (call (.type "set") [.ref l]) Q E s:=by
 obtain⟨c,tl,hmro⟩:=PySem.F.called_set.mro;have hmade:=PySem.F.called_set.made;have hsub:=PySem.F.called_set.sub;refine wpAny_call (codeAny_of_tree ?_);change wpAny _ _ (callAny (.type "set") _) _ _ _;refine wpAny_pure ⟨Code.quiet_builtin _ (by decide +kernel),codeAny_builtin PySem.F.entry_type_call ?_⟩;rw[Around.under_plain (weight_type_call_type "set" [.ref l] []) rfl];have noType:=PySem.F.called_set.notType;have canMake:=PySem.F.called_set.canCreate;have ctOk:=PySem.F.typeCall_set_1 (.ref l)
 repeat (any_goals (first|assumption|wp_step))
 refine codeAny_mono (ZiC (.ref l) (E:=E) (Q₁ := fun obj s₁=>obj=.ref s.heap.objs.size/\s₁ = { s with heap:=s.heap.push (Z2 w) }) ⟨rfl,rfl⟩) fun r s₁ hr=>?_;cases r with
 | error e=>exact hr
 | ok fl =>
  cases fl with
  | ret obj =>
   obtain⟨rfl,rfl⟩:=hr;have hS:(s.heap.push (Z2 w)).get? s.heap.objs.size=some (Z2 w):=Heap.get?_push_size _ rfl;have hT:Shared.TypeIs { s with heap:=s.heap.push (Z2 w) } (.ref s.heap.objs.size) "set" := ⟨_,hS,rfl⟩;have hli:=PySem.F.called_set.init.lookup;have hbi:=PySem.F.called_set.init.bind (.ref s.heap.objs.size)
   repeat (any_goals (first|assumption|wp_step))
   refine codeAny_mono (codeAny_call_builtin (R:=wants (fun r s₂=>r=.none/\∃h' tk,s₂ = { s with heap:=h',toks:=tk }/\J items.size h'/\∀b o,b<s.heap.objs.size->s.heap.get? b=some o->h'.get? b=some o) E) PySem.F.called_set.init.plain PySem.F.entry_set_init (check_set_init_1 hT ?_)) fun r₂ s₂ hr₂=>?_
   ·obtain⟨ol,hol,hcl,nl,hdl⟩:=hl;obtain⟨ocls,odict,odata,oslots⟩:=ol;simp only at hcl hdl;subst hcl;subst hdl;have hol2:(s.heap.push (Z2 w)).get? l=some { cls:=.type "list",dict:=odict,data:=.seq items nl,slots:=oslots }:=Heap.get?_push_of_some _ hol;have hsls:=PySem.F.sub_list_set;have hslf:=PySem.F.sub_list_frozenset;have hne:(Value.type "list" == Value.type "dict")=false:=by decide
    have hl1:(s.heap.push (Z2 w)).IsList l items:=⟨_,hol2,rfl,nl,rfl⟩;unfold Builtin.«set.__init__» noKeywords Builtin.Frozenset.updateFrom;generalize hPI:pyIter=PI
    wp_walk
    subst hPI;refine wpAny_pyIter_list hl1 (wpAny_bind (wpAny_runValue ?_));have hlS:l<s.heap.objs.size:=Heap.lt_size hol;have hsz:(s.heap.push (Z2 w)).objs.size=s.heap.objs.size+1:=Heap.size_push ..;have hS0:((s.heap.push (Z2 w)).push { cls:=.type "list_iterator",data:=.fields #[.ref l,.int 0 0] }).get? s.heap.objs.size=some (Z2 w):=Heap.get?_push_of_some _ hS;have kk:∀b o,b<s.heap.objs.size->s.heap.get? b=some o->((s.heap.push (Z2 w)).push { cls:=.type "list_iterator",data:=.fields #[.ref l,.int 0 0] }).get? b=some o:=fun b o hb e=>Heap.get?_push_of_some _ (Heap.get?_push_of_some _ e);refine Ziu (J:=J) (by simp[hh]) (g _ (by simp only[Around.in1_units];lia)) (by rw[hsz];exact Nat.lt_succ_self _) (by rw[hsz];exact Nat.ne_of_lt (Nat.lt_succ_of_lt hlS)) (items.size-0) 0 _ rfl (Nat.zero_le _)
     ⟨⟨_,Heap.get?_push_size _ rfl,rfl,rfl⟩,hl1.push _⟩ hlS (j0 _ hS0 kk) fun h' tk hw hb=>?_
    change wpAny _ _ _ _ _ _;refine wpAny_pure ?_;change wpAny _ _ (ret Value.none) _ _ _;exact wpAny_pure ⟨rfl,h',tk,rfl,hw,fun b o hlt e=>hb b o hlt (kk b o hlt e)⟩
   ·cases r₂ with
    | error e=>exact hr₂
    | ok fl₂ =>
     cases fl₂ with
     | ret r =>
      obtain⟨rfl,h',tk,rfl,hw⟩:=hr₂
      repeat (any_goals (first|assumption|wp_step))
      exact q _ _ hw.1 hw.2
     | _=>exact hr₂.elim
  | _=>exact hr.elim
end
end Stg
namespace Srd
theorem Sto.one{α : Type}{lt : α -> α -> Bool}(o:Sto lt):∀{l m:List α},l.Pairwise (fun a b=>lt a b=true)->m.Pairwise (fun a b=>lt a b=true)->(∀x,x∈l↔x∈m)->l=m
 | [],[],_,_,_=>rfl
 | [],b::m,_,_,h=>absurd ((h b).mpr (List.mem_cons_self ..)) (by simp)
 | a::l,[],_,_,h=>absurd ((h a).mp (List.mem_cons_self ..)) (by simp)
 | a::l,b::m,hl,hm,h=>by
  obtain⟨l1,l2⟩:=List.pairwise_cons.mp hl;obtain⟨m1,m2⟩:=List.pairwise_cons.mp hm;have e:a=b:=by
   rcases List.mem_cons.mp ((h a).mp (List.mem_cons_self ..)) with z|z
   ·exact z
   ·rcases List.mem_cons.mp ((h b).mpr (List.mem_cons_self ..)) with y|y
    ·exact y.symm
    ·have h1:=m1 a z;have h2:=l1 b y;rw[o.asym h1] at h2;cases h2
  subst e;rw[Sto.one o l2 m2 fun x=>?_];constructor
  ·intro hx;rcases List.mem_cons.mp ((h x).mp (List.mem_cons_of_mem _ hx)) with z|z
   ·subst z;have:=l1 x hx;rw[o.irr] at this;cases this
   ·exact z
  ·intro hx;rcases List.mem_cons.mp ((h x).mpr (List.mem_cons_of_mem _ hx)) with z|z
   ·subst z;have:=m1 x hx;rw[o.irr] at this;cases this
   ·exact z
theorem Sto.strict{α : Type}{lt : α -> α -> Bool}(o:Sto lt){l:List α}(h:l.Pairwise (fun a b=>lt b a=false))(hn:l.Nodup):l.Pairwise (fun a b=>lt a b=true):=by
 refine List.pairwise_iff_getElem.mpr fun i j hi hj hij=>?_;have h1:=(List.pairwise_iff_getElem.mp h) i j hi hj hij;have h2:=(List.pairwise_iff_getElem.mp hn) i j hi hj hij;cases e:lt l[i] l[j] with
 | true=>rfl
 | false=>exact absurd (o.tri _ _ e h1) h2
end Srd
namespace L2
open PySem PySem.Spec PyProof.Rows PySem.W Srd Sts Stg
def tq(q:Qd):HO:=.tup [.int q.1,.str q.2.1,.int q.2.2.1,.int q.2.2.2]
def QL(H:Hp)(zs:List V)(qs:List Qd):Prop:=Paired (fun z q=>∃p,z=V.ref p/\H p=some (tq q)) zs qs
def kOf(q:Qd):List Key:=[Sum.inl q.1,Sum.inr q.2.1,Sum.inl q.2.2.1,Sum.inl q.2.2.2]
theorem Zei{q q':Qd}(h:kOf q=kOf q'):q=q':=by
 obtain⟨a,b,c,d⟩:=q;obtain⟨a',b',c',d'⟩:=q';simp only[kOf,List.cons.injEq,Sum.inl.injEq,Sum.inr.injEq,and_true] at h;obtain⟨rfl,rfl,rfl,rfl⟩:=h;rfl
theorem QL.mem{H:Hp}:∀{zs:List V}{qs:List Qd},QL H zs qs->∀z∈zs,∃p,∃q∈qs,z=V.ref p/\H p=some (tq q)
 | _,_,.cons ⟨p,e1,e2⟩ t,z,hz=>by
  rcases List.mem_cons.mp hz with rfl|hz
  ·exact⟨p,_,List.mem_cons_self ..,e1,e2⟩
  ·obtain⟨p',q',h1,h2⟩:=QL.mem t z hz;exact⟨p',q',List.mem_cons_of_mem _ h1,h2⟩
theorem QL.length{H:Hp}:∀{zs:List V}{qs:List Qd},QL H zs qs->zs.length=qs.length
 | _,_,.nil=>rfl
 | _,_,.cons _ t=>by rw[List.length_cons,List.length_cons,QL.length t]
theorem QL.get{H:Hp}:∀{zs:List V}{qs:List Qd},QL H zs qs->∀(i:Nat) z,zs[i]?= some z->∃p q,qs[i]?= some q/\z=V.ref p/\H p=some (tq q)
 | _,_,.cons ⟨p,e1,e2⟩ t,i,z,hz=>by
  cases i with
  | zero =>
   injection hz with hz;subst hz;exact⟨p,_,rfl,e1,e2⟩
  | succ i=>exact QL.get t i z hz
theorem QL.keep{H H':Hp}:∀{zs:List V}{qs:List Qd},QL H zs qs->(∀b xs,H b=some (.tup xs)->H' b=some (.tup xs))->QL H' zs qs
 | _,_,.nil,_=>.nil
 | _,_,.cons ⟨p,e1,e2⟩ t,k=>.cons ⟨p,e1,k _ _ e2⟩ (QL.keep t k)
theorem ZbD:∀{vs:List V}{us:List Value},Vals vs us->∀(i:Nat) u,us[i]?= some u->∃v,vs[i]?= some v/\RelV v u
 | _,_,.cons r t,i,u,h=>by
  cases i with
  | zero =>
   injection h with h;subst h;exact⟨_,rfl,r⟩
  | succ i=>exact ZbD t i u h
section
variable{X:Cx}{e:Expr}{te:TE}{p p' pos pos':Pos}
theorem Zhs{P:Program}{w:World}{H:Hp}{h:Heap}{t:Addr}{q:Qd}(ok:HOk P w H h)(e:H t=some (tq q)):IsQ h (.ref t) q:=by
 obtain⟨_,us,rus,o,ho,hc',n,hd⟩:=ok t _ e;obtain⟨u1,us,rfl,r1,rus⟩:=Vals.inv rus;obtain⟨u2,us,rfl,r2,rus⟩:=Vals.inv rus;obtain⟨u3,us,rfl,r3,rus⟩:=Vals.inv rus;obtain⟨u4,us,rfl,r4,rus⟩:=Vals.inv rus;obtain rfl:=Vals.end_ rus;obtain⟨t1,rfl⟩:=r1;obtain⟨t2,rfl⟩:=r2;obtain⟨t3,rfl⟩:=r3;obtain⟨t4,rfl⟩:=r4;exact⟨t,o,t1,t2,t3,t4,n,rfl,ho,hc',hd⟩
theorem ZdU{P:Program}{w:World}{h0 h:Heap}{S t:Addr}{q:Qd}{x:Int}(hk:IsTupleKey (Zn P w) h0 (kOf q) t)(hlt:t<S)(k:∀b o,b<S->h0.get? b=some o->h.get? b=some o)(ks:List Key):Zaz (Zn P w) h ks (x,.ref t)↔ks=kOf q:=by
 obtain⟨o,its,n,h1,h2⟩:=hk;have hk':IsTupleKey (Zn P w) h (kOf q) t:=⟨o,its,n,k t o hlt h1,h2⟩;constructor
 ·rintro⟨b,e,hb⟩;cases e;exact ZbW hb hk'
 ·rintro rfl;exact⟨t,rfl,hk'⟩
def QIt(P:Program)(w:World)(h0:Heap)(items:List Value)(qs:List Qd):Prop:=items.length=qs.length/\∀(i:Nat) v q,items[i]?= some v->qs[i]?= some q->∃t,v=.ref t/\IsTupleKey (Zn P w) h0 (kOf q) t/\IsQ h0 v q
theorem QIt.of{P:Program}{w:World}{H:Hp}{h:Heap}{zs:List V}{qs:List Qd}{us:List Value}(ok:HOk P w H h)(r:Vals zs us)(ql:QL H zs qs):QIt P w h us qs:=by
 refine⟨by rw[<- r.length,ql.length],fun i v q hv hq=>?_⟩;obtain⟨z,hz,rz⟩:=ZbD r i v hv;obtain⟨t,q',h1,rfl,h3⟩:=ql.get i z hz;rw[hq] at h1;cases h1;obtain rfl:v=Value.ref t:=rz;exact⟨t,rfl,Zdo ok (ks:=kOf q) h3,Zhs ok h3⟩
theorem QIt.mem{P:Program}{w:World}{h0:Heap}{items:List Value}{qs:List Qd}(x:QIt P w h0 items qs){v:Value}(hv:v∈items):∃t,∃q∈qs,v=.ref t/\IsTupleKey (Zn P w) h0 (kOf q) t/\IsQ h0 v q:=by
 obtain⟨i,hi⟩:=List.mem_iff_getElem?.mp hv;have hlt:=(List.getElem?_eq_some_iff.mp hi).1;rw[x.1] at hlt;obtain⟨t,h1,h2,h3⟩:=x.2 i v qs[i] hi (List.getElem?_eq_getElem hlt);exact⟨t,qs[i],List.getElem_mem hlt,h1,h2,h3⟩
def JQ(P:Program)(w:World)(h0:Heap)(S:Addr)(items:Array Value)(qs:List Qd)(i:Nat)(h:Heap):Prop :=
 Zfa (Zn P w) h S (· ∈ items.toList) (fun ks=>∃(j:Nat)(q:Qd),j<i/\qs[j]?= some q/\ks=kOf q) i (Zdq w)/\∀b o,b<S->h0.get? b=some o->h.get? b=some o
theorem JQ.goes{P:Program}{w:World}{A:Around}{h0:Heap}{S:Addr}{items:Array Value}{qs:List Qd}(hu:A.units<cLine)(x:QIt P w h0 items.toList qs)(hS:h0.objs.size<=S)(hn:items.size<=900):Goes P w A S items (JQ P w h0 S items qs) where
 keep:=fun i h h' ⟨⟨o,es,ep,t,ho,hx,hd,hT,hsz,hl,hv,hP⟩,hb⟩ k=>by
  have hb':∀b o,b<S->h0.get? b=some o->h'.get? b=some o:=fun b o hlt e=>k b o (Nat.le_of_lt hlt) (hb b o hlt e);have key:∀e∈es.toList,∀ks,Zaz (Zn P w) h ks e↔Zaz (Zn P w) h' ks e:=fun e he ks=>by
   obtain⟨tt,q,_,h1,h2,_⟩:=x.mem (hv e he);obtain⟨e1,e2⟩:=e;dsimp only at h1;subst h1;have hlt:tt<S:=by
    obtain⟨o2,_,_,g1,_⟩:=h2;exact Nat.lt_of_lt_of_le (Heap.lt_size g1) hS
   rw[ZdU h2 hlt hb,ZdU h2 hlt hb']
  refine⟨⟨o,es,ep,t,k S o (Nat.le_refl _) ho,hx,hd,⟨hT.tab,fun e he=>?_,hT.way,?_⟩,hsz,hl,hv,fun ks=>?_⟩,hb'⟩
  ·obtain⟨ks,h1,h2⟩:=hT.ent e he;exact⟨ks,(key e he ks).mp h1,h2⟩
  ·exact List.Pairwise.imp_of_mem (fun{a b} ha hb' hab ks h1 h2=>hab ks ((key a ha ks).mpr h1) ((key b hb' ks).mpr h2)) hT.one
  ·rw[<- hP ks];constructor
   ·rintro⟨e,he,h1⟩;exact⟨e,he,(key e he ks).mpr h1⟩
   ·rintro⟨e,he,h1⟩;exact⟨e,he,(key e he ks).mp h1⟩
 add:=fun i v s Q E hi ⟨hS1,hb⟩ q=>by
  have hil:i<items.size:=(Array.getElem?_eq_some_iff.mp hi).1;have hiq:i<qs.length:=by rw[<- x.1,Array.length_toList];exact hil
  have hi':items.toList[i]?= some v:=by rw[Array.getElem?_toList];exact hi
  obtain⟨t,rfl,h2,_⟩:=x.2 i v qs[i] hi' (List.getElem?_eq_getElem hiq);obtain⟨o2,its2,n2,g1,g2⟩:=h2;have hlt:t<S:=Nat.lt_of_lt_of_le (Heap.lt_size g1) hS;have hk:IsTupleKey (Zn P w) s.heap (kOf qs[i]) t:=⟨o2,its2,n2,hb t o2 hlt g1,g2⟩;refine ZlP hu hS1 (by lia) hk (List.mem_of_getElem? hi') fun b h' tk _ sb hS2=>q b h' tk sb ⟨?_,fun b o hlt e=>(sb.2 b (Nat.ne_of_lt hlt)).trans (hb b o hlt e)⟩;have e:(fun ks=>(∃(j:Nat)(q:Qd),j<i/\qs[j]?= some q/\ks=kOf q)\/ks=kOf qs[i])=fun ks=>∃(j:Nat)(q:Qd),j<i+1/\qs[j]?= some q/\ks=kOf q:=funext fun ks=>propext (by
   constructor
   ·rintro(⟨j,q,h1,h2,h3⟩|h)
    ·exact⟨j,q,by lia,h2,h3⟩
    ·exact⟨i,qs[i],by lia,List.getElem?_eq_getElem hiq,h⟩
   ·rintro⟨j,q,h1,h2,h3⟩;by_cases c:j<i
    ·exact .inl ⟨j,q,c,h2,h3⟩
    ·have:j=i:=by lia
     subst this;rw[List.getElem?_eq_getElem hiq] at h2;cases h2;exact .inr h3)
  rw[<- e];exact hS2
theorem JQ.zero{P:Program}{w:World}{h0 h:Heap}{S:Addr}{items:Array Value}{qs:List Qd}(hS:h.get? S=some (Z2 w))(k:∀b o,b<S->h0.get? b=some o->h.get? b=some o):JQ P w h0 S items qs 0 h :=
 ⟨⟨_,#[],0,_,hS,⟨rfl,rfl,rfl⟩,rfl,⟨⟨rfl,rfl,.inl rfl,(by show(0:Nat)*5<7*3;decide),List.Pairwise.nil⟩,(fun _ h=>(nomatch h)),(fun i e j h=>(nomatch h)),List.Pairwise.nil⟩,Nat.le_refl _,rfl,(fun _ h=>(nomatch h)),fun ks=>⟨fun⟨_,h,_⟩=>(nomatch h),fun⟨_,_,h,_⟩=>absurd h (Nat.not_lt_zero _)⟩⟩,k⟩
end
def GI(P:Int->Prop)(l:List (Int×Value)):Prop:=l.Pairwise (fun e e'=>Zgu e.2≠Zgu e'.2)/\∀i,(∃e∈l,Zgu e.2=i)↔P i
theorem GI.perm{P:Int->Prop}(l l':List (Int×Value))(p:l'.Perm l)(h:GI P l):GI P l' :=
 ⟨(p.pairwise_iff fun{a b} hab e=>hab e.symm).mpr h.1,fun i=>Iff.trans ⟨fun⟨e,h1,h2⟩=>⟨e,p.mem_iff.mp h1,h2⟩,fun⟨e,h1,h2⟩=>⟨e,p.mem_iff.mpr h1,h2⟩⟩ (h.2 i)⟩
def GN(l:List (Int×Value)):Prop := ∀e∈l,∃i t,e.2=Value.int i t
section
variable{X:Cx}{e:Expr}{te:TE}{p p' pos pos':Pos}
theorem Zjr{P:Program}{w:World}{k i:Int}{t:Nat}:(intKind P w).is k (Value.int i t)=true↔i=k:=by
 constructor
 ·intro h;exact(intKind P w).inj _ _ _ (intKind_is _ _ _ _) h
 ·rintro rfl;exact intKind_is _ _ _ _
def JI(P:Program)(w:World)(h0:Heap)(S:Addr)(ns:List Int)(i:Nat)(h:Heap):Prop :=
 ZgI (Zn P w) h S (fun l=>GN l/\GI (fun k=>∃j:Nat,j<i/\ns[j]?= some k) l) i (Zdq w)/\∀b o,b<S->h0.get? b=some o->h.get? b=some o
theorem JI.goes{P:Program}{w:World}{A:Around}{h0:Heap}{S:Addr}{items:Array Value}{ns:List Int}(x:Vals (ns.map V.int) items.toList)(hn:items.size<=900):Goes P w A S items (JI P w h0 S ns) where
 keep:=fun i h h' ⟨⟨o,es,ep,t,ho,hx,hd,hE,hT,hsz,hl,hG⟩,hb⟩ k =>
  ⟨⟨o,es,ep,t,k S o (Nat.le_refl _) ho,hx,hd,hE,hT,hsz,hl,hG⟩,fun b o hlt e=>k b o (Nat.le_of_lt hlt) (hb b o hlt e)⟩
 add:=fun i v s Q E hi ⟨hS1,hb⟩ q=>by
  have hi':items.toList[i]?= some v:=by rw[Array.getElem?_toList];exact hi
  have hil:i<items.size:=(Array.getElem?_eq_some_iff.mp hi).1;obtain⟨z,hz,rz⟩:=ZbD x i v hi';rw[List.getElem?_map] at hz;obtain⟨k,hk,rfl⟩:=Option.map_eq_some_iff.mp hz;obtain⟨tk0,rfl⟩:=rz;have eP:∀m:Int,(∃j:Nat,j<i+1/\ns[j]?= some m)↔((∃j:Nat,j<i/\ns[j]?= some m)\/m=k):=fun m=>by
   constructor
   ·rintro⟨j,h1,h2⟩;by_cases c:j<i
    ·exact .inl ⟨j,c,h2⟩
    ·have:j=i:=by lia
     subst this;rw[hk] at h2;cases h2;exact .inr rfl
   ·rintro(⟨j,h1,h2⟩|rfl)
    ·exact⟨j,by lia,h2⟩
    ·exact⟨i,by lia,hk⟩
  refine Zl2 (G':=fun l=>GN l/\GI (fun k=>∃j:Nat,j<i+1/\ns[j]?= some k) l) (fun l l' pp ⟨g1,g2⟩=>⟨fun e he=>g1 e (pp.mem_iff.mp he),GI.perm l l' pp g2⟩) hS1 (by lia) (fun l ⟨hN,g1,g2⟩ hex=>⟨hN,g1,fun m=>?_⟩) (fun l x ⟨hN,g1,g2⟩ hno=>⟨fun e he=>?_,List.pairwise_cons.mpr ⟨fun e he z=>?_,g1⟩,fun m=>?_⟩) fun b h' tk _ sb hS2=>q b h' tk sb ⟨hS2,fun b o hlt e=>(sb.2 b (Nat.ne_of_lt hlt)).trans (hb b o hlt e)⟩
  ·refine Iff.trans ?_ (Iff.trans (or_congr (g2 m) Iff.rfl) (eP m).symm);constructor
   ·exact .inl
   ·rintro(h|rfl)
    ·exact h
    ·obtain⟨e,he,h1⟩:=hex;obtain⟨i',t',h2⟩:=hN e he;rw[h2] at h1;exact⟨e,he,by rw[h2];exact Zjr.mp h1⟩
  ·rcases List.mem_cons.mp he with rfl|he
   ·exact⟨k,tk0,rfl⟩
   ·exact hN e he
  ·obtain⟨i',t',h2⟩:=hN e he;have h3:=hno e he;rw[h2] at h3 z;have:i'=k:=z.symm;rw[Zjr.mpr this] at h3;cases h3
  ·refine Iff.trans ?_ (Iff.trans (or_congr (g2 m) Iff.rfl) (eP m).symm);constructor
   ·rintro⟨e,he,h1⟩;rcases List.mem_cons.mp he with rfl|he
    ·exact .inr h1.symm
    ·exact .inl ⟨e,he,h1⟩
   ·rintro(⟨e,he,h1⟩|rfl)
    ·exact⟨e,List.mem_cons_of_mem _ he,h1⟩
    ·exact⟨_,List.mem_cons_self ..,rfl⟩
theorem JI.zero{P:Program}{w:World}{h0 h:Heap}{S:Addr}{ns:List Int}(hS:h.get? S=some (Z2 w))(k:∀b o,b<S->h0.get? b=some o->h.get? b=some o):JI P w h0 S ns 0 h :=
 ⟨⟨_,#[],0,_,hS,⟨rfl,rfl,rfl⟩,rfl,(fun _ h=>(nomatch h)),⟨rfl,rfl,.inl rfl,(by show(0:Nat)*5<7*3;decide),List.Pairwise.nil⟩,Nat.le_refl _,rfl,⟨(fun _ h=>(nomatch h)),List.Pairwise.nil,fun ks=>⟨fun⟨_,h,_⟩=>(nomatch h),fun⟨_,h,_⟩=>absurd h (Nat.not_lt_zero _)⟩⟩⟩,k⟩
def Zel(K:PySem.W.Frag)(v:V)(H:Hp)(Q:VK):Prop :=
 (∃l ys qs,v=.ref l/\SqL K H l ys/\ys.length<=900/\QL H ys qs/\∀r zs ms,H r=none->ms.Pairwise (fun a b=>qLt a b=true)->(∀q,q∈ms↔q∈qs)->QL H zs ms->Q (.ref r) (upd H r (.lst zs))) \/
 (∃(l:Addr)(ns:List Int),v=.ref l/\SqL K H l (ns.map V.int)/\ns.length<=900/\∀r (ms:List Int),H r=none->ms.Pairwise (· < ·)->(∀i,i∈ms↔i∈ns)->Q (.ref r) (upd H r (.lst (ms.map V.int))))
theorem Zh8{P:Program}{w:World}{H:Hp}{h0:Heap}(ok:HOk P w H h0){ys:List V}{its:List Value}{qs:List Qd}(rv:Vals ys its)(ql:QL H ys qs):∀us:List Value,(∀u∈us,u∈its)->∃zs,Vals zs us/\QL H zs (us.map (kq h0))
 | [],_=>⟨[],.nil,.nil⟩
 | u::us,h=>by
  obtain⟨y,hy,ry⟩:=ZbH rv u (h u (List.mem_cons_self ..));obtain⟨zs,rz,hz⟩:=Zh8 ok rv ql us fun x hx=>h x (List.mem_cons_of_mem _ hx);obtain⟨t,q,_,rfl,e2⟩:=ql.mem y hy;have hu:u=Value.ref t:=ry;subst hu;exact⟨_,.cons ry rz,.cons ⟨t,rfl,by rw[ZhC (Zhs ok e2)];exact e2⟩ hz⟩
theorem JQ.out{P:Program}{w:World}{h0 h:Heap}{S:Addr}{items:Array Value}{qs:List Qd}(x:QIt P w h0 items.toList qs)(hS:h0.objs.size<=S)(j:JQ P w h0 S items qs items.size h) :
  ∃o es ep t,h.get? S=some o/\o.ExactSet/\o.data=.set es ep t/\Tab es t/\es.size<=items.size/\t.led=Zdq w/\(∀e∈es.toList,e.2∈items.toList)/\(es.toList.map fun e=>kq h0 e.2).Nodup/\∀q,q∈(es.toList.map fun e=>kq h0 e.2)↔q∈qs:=by
 obtain⟨⟨o,es,ep,t,ho,hx,hd,hT,hsz,hl,hv,hP⟩,hb⟩:=j;have key:∀e∈es.toList,∀ks,Zaz (Zn P w) h ks e↔ks=kOf (kq h0 e.2):=fun e he ks=>by
  obtain⟨tt,q,_,h1,h2,h3⟩:=x.mem (hv e he);have hq:=ZhC h3;obtain⟨e1,e2⟩:=e;dsimp only at h1 hq ⊢;subst h1;have hlt:tt<S:=by
   obtain⟨o2,_,_,g1,_⟩:=h2;exact Nat.lt_of_lt_of_le (Heap.lt_size g1) hS
  rw[ZdU h2 hlt hb,hq]
 refine⟨o,es,ep,t,ho,hx,hd,hT.tab,hsz,hl,hv,?_,fun q=>?_⟩
 ·refine List.pairwise_map.mpr (List.Pairwise.imp_of_mem (fun{a b} ha hb' hab z=>?_) hT.one);exact hab _ ((key a ha _).mpr rfl) ((key b hb' _).mpr (by rw[z]))
 ·have h1:=hP (kOf q);constructor
  ·intro hq;obtain⟨e,he,rfl⟩:=List.mem_map.mp hq;obtain⟨j,q',_,h2,h3⟩:=h1.mp ⟨e,he,(key e he _).mpr rfl⟩;rw[Zei h3];exact List.mem_of_getElem? h2
  ·intro hq;obtain⟨j,hj⟩:=List.mem_iff_getElem?.mp hq;have hjl:=(List.getElem?_eq_some_iff.mp hj).1;obtain⟨e,he,hbr⟩:=h1.mpr ⟨j,q,by rw[<- Array.length_toList,x.1];exact hjl,hj,rfl⟩;exact List.mem_map.mpr ⟨e,he,(Zei ((key e he _).mp hbr)).symm⟩
set_option maxHeartbeats 1000000 in
theorem Zct(hc:X.calm=true)(hu:X.A.units+200<cLine)(hg:Gl X "sorted") (hm:X.mg "sorted" = none) (hg':Gl X "set") (hm':X.mg "set" = none) (pa:PA X [e] (ZdW te Zh7))
  (hs:starEach [e] X.env=[(false,eval e X.env)]:=by rfl) (hs':starEach [.Call (.Name "set" p') [e] [] pos'] X.env=[(false,eval (.Call (.Name "set" p') [e] [] pos') X.env)]:=by rfl) :
  PE X (.Call (.Name "sorted" p) [.Call (.Name "set" p') [e] [] pos'] [] pos) (fun σ H Q=>te σ H fun v H1=>Zel X.K v H1 Q):=by
 intro pins s σ H Q I h;refine wpAny_Call_Name_kw (Zbp I hg hm ZbL ?_);refine PyProof.Rows.callWith_builtin1 ?_ hs' rfl;rw[hs'];refine Calls.spliced_cons ?_;refine wpAny_Call_Name_kw (Zbp I hg' hm' Zgh ?_);refine PyProof.Rows.callWith_type1 (thn (pa pos' pins s σ H (fun vs H1=>match vs with | [v]=>Zel X.K v H1 Q|_=>False) I h) fun us s1 ⟨vs,H1,I1,r,q⟩=>?_) hs rfl
 match vs,r,q with
 | [v],r,q =>
  obtain⟨u,rfl,ru⟩:=r.one;rcases q with⟨l,ys,qs,rfl,hq,hl9,hql,q⟩|⟨l,ns,rfl,hq,hl9,q⟩
  ·cases ru;obtain⟨its,rv,pl,hz⟩:=I1.list hq;have hlen:=rv.length;have x:QIt X.prog X.w s1.heap its.toArray.toList qs:=QIt.of I1.hok rv hql;refine Zby (J:=JQ X.prog X.w s1.heap s1.heap.objs.size its.toArray qs) (I1.ok.hd hc) (by lia) pl.isList (fun B hB=>JQ.goes hB x (Nat.le_refl _) (by rw[List.size_toArray];lia)) (fun h h1 h2=>JQ.zero h1 h2) fun h2 tk hJ k2=>?_;refine Calls.spliced_nil ?_;have k2':∀b o,s1.heap.get? b=some o->h2.get? b=some o:=fun b o e=>k2 b o (Heap.lt_size e) e;obtain⟨o,es,ep,t,ho,hx,hd,hT,hsz,hled,hv,hnd,hmem⟩:=hJ.out x (Nat.le_refl _);have hsz':es.size<=its.length:=by simpa using hsz
   refine Z8 (lv:=fun u v=>qLt (kq s1.heap u) (kq s1.heap v)) (s:={ s1 with heap:=h2,toks:=tk }) (C:=fun ys=>ys.Perm (es.toList.map (·.2))) (Zd5.swo (kq s1.heap)) (fun Q' E' hq'=>?_) (fun ys' h6 tk6 d6 hC k6 h2l=>?_) fun pa ys' out h3 tk3 d3 c hC hperm hso k3 e3 hle hos=>?_
   ·refine ZaL (I1.ok.hd hc) ho hx hd hT hled (by lia) fun ys' h' tk' d' k' hp hle=>hq' ys' h' tk' d' k' hp ?_ hle;rw[hp.length_eq,List.length_map,Array.length_toList];lia
   ·refine Zcs (h0:=s1.heap) (fun v hv'=>?_) (fun b o e=>k6 b o (k2' b o e)) h2l;obtain⟨e,he,rfl⟩:=List.mem_map.mp (hC.mem_iff.mp hv');obtain⟨tt,q,_,h1,_,h3⟩:=x.mem (hv e he);exact⟨q,h3⟩
   ·have hpm:out.toList.Perm (es.toList.map (·.2)):=hperm.trans hC;obtain⟨zs,rz,hzq⟩:=Zh8 I1.hok rv hql out.toList fun u hu=>by
     obtain⟨e,he,rfl⟩:=List.mem_map.mp (hpm.mem_iff.mp hu);exact hv e he
    have hzl:zs.length=out.size:=rz.length.trans (Array.length_toList ..);have hS0:s1.heap.objs.size<=pa:=Nat.le_trans (Nat.le_of_lt (Heap.lt_size ho)) hle;have I2:=I1.laid (h':=h3) (t':=tk3) (a:=pa) (o:=.lst zs) (fun b o e=>k3 b o (k2' b o e)) hS0 (show Z4 X.prog X.w _ h3 _ (.lst zs) from⟨by rw[sizeLine_eq];lia,out.toList,c,rz,e3⟩);have hmp:(out.toList.map (kq s1.heap)).Perm (es.toList.map fun e=>kq s1.heap e.2):=by
     have:=hpm.map (kq s1.heap);rw[List.map_map] at this;exact this
    refine⟨.ref pa,_,I2.draws (d:=d3),rfl,q pa zs _ (I1.hok.fresh hS0) (Zd5.strict ?_ (hmp.nodup_iff.mpr hnd)) (fun q=>hmp.mem_iff.trans (hmem q)) hzq⟩;exact List.pairwise_map.mpr hso
  ·cases ru;obtain⟨its,rv,pl,hz⟩:=I1.list hq;have hlen:=rv.length;rw[List.length_map] at hlen;refine Zby (J:=JI X.prog X.w s1.heap s1.heap.objs.size ns) (I1.ok.hd hc) (by lia) pl.isList (fun B hB=>JI.goes rv (by rw[List.size_toArray];lia)) (fun h h1 h2=>JI.zero h1 h2) fun h2 tk hJ k2=>?_;refine Calls.spliced_nil ?_;have k2':∀b o,s1.heap.get? b=some o->h2.get? b=some o:=fun b o e=>k2 b o (Heap.lt_size e) e;obtain⟨⟨o,es,ep,t,ho,hx,hd,hE,hT,hsz,hled,hN,hnd,hmem⟩,hb⟩:=hJ;have hsz':es.size<=its.length:=by simpa using hsz
   refine Z8 (s:={ s1 with heap:=h2,toks:=tk }) (C:=fun ys=>ys.Perm (es.toList.map (·.2))) Zfx (fun Q' E' hq'=>?_) (fun ys' h6 tk6 d6 hC k6 h2l=>?_) fun pa ys' out h3 tk3 d3 c hC hperm hso k3 e3 hle hos=>?_
   ·refine ZaL (I1.ok.hd hc) ho hx hd hT hled (by lia) fun ys' h' tk' d' k' hp hle=>hq' ys' h' tk' d' k' hp ?_ hle;rw[hp.length_eq,List.length_map,Array.length_toList];lia
   ·refine Za8 (fun v hv'=>?_) h2l;obtain⟨e,he,rfl⟩:=List.mem_map.mp (hC.mem_iff.mp hv');exact hN e he
   ·have hpm:out.toList.Perm (es.toList.map (·.2)):=hperm.trans hC;have hon:∀us:List Value,(∀u∈us,∃i t,u=Value.int i t)->Vals ((us.map Zgu).map V.int) us:=fun us=>by
     induction us with
     | nil=>exact fun _=>.nil
     | cons u us ih =>
      intro hu;obtain⟨i,t,rfl⟩:=hu u (List.mem_cons_self ..);exact .cons ⟨t,rfl⟩ (ih fun x hx=>hu x (List.mem_cons_of_mem _ hx))
    have rz:=hon out.toList fun u hu=>by
     obtain⟨e,he,rfl⟩:=List.mem_map.mp (hpm.mem_iff.mp hu);exact hN e he
    have hS0:s1.heap.objs.size<=pa:=Nat.le_trans (Nat.le_of_lt (Heap.lt_size ho)) hle;have I2:=I1.laid (h':=h3) (t':=tk3) (a:=pa) (o:=.lst ((out.toList.map Zgu).map V.int)) (fun b o e=>k3 b o (k2' b o e)) hS0 (show Z4 X.prog X.w _ h3 _ (.lst ((out.toList.map Zgu).map V.int)) from⟨by rw[List.length_map,List.length_map,Array.length_toList,sizeLine_eq];lia,out.toList,c,rz,e3⟩);have hmp:(out.toList.map Zgu).Perm (es.toList.map fun e=>Zgu e.2):=by
     have:=hpm.map Zgu;rw[List.map_map] at this;exact this
    refine⟨.ref pa,_,I2.draws (d:=d3),rfl,q pa _ (I1.hok.fresh hS0) (strictly (rising rz hso) (hmp.nodup_iff.mpr (List.pairwise_map.mpr hnd))) (fun i=>hmp.mem_iff.trans (Iff.trans ?_ ((hmem i).trans ?_)))⟩
    ·constructor
     ·intro hi;obtain⟨e,he,rfl⟩:=List.mem_map.mp hi;exact⟨e,he,rfl⟩
     ·rintro⟨e,he,rfl⟩;exact List.mem_map.mpr ⟨e,he,rfl⟩
    ·constructor
     ·rintro⟨j,_,h2⟩;exact List.mem_of_getElem? h2
     ·intro hi;obtain⟨j,hj⟩:=List.mem_iff_getElem?.mp hi;exact⟨j,by have:=(List.getElem?_eq_some_iff.mp hj).1;simp;lia,hj⟩
end
end L2
namespace L2
open PySem PySem.Spec PyProof.Rows PySem.W Srd
def Zkw(K:PySem.W.Frag)(xs:List V)(H:Hp)(Q:VK):Prop :=
 (∃l ys qs,xs=[.ref l]/\SqL K H l ys/\ys.length<=90000/\QL H ys qs/\∀r zs ms,H r=none->ms.Pairwise (fun a b=>qLt b a=false)->ms.Perm qs->QL H zs ms->Q (.ref r) (upd H r (.lst zs))) \/
 (∃(l:Addr)(ns:List Int),xs=[.ref l]/\SqL K H l (ns.map V.int)/\ns.length<=90000/\∀r (ms:List Int),H r=none->ms.Pairwise (· <= ·)->ms.Perm ns->Q (.ref r) (upd H r (.lst (ms.map V.int))))
section
variable{X:Cx}
theorem Zgk{prog:Program}{w:World}{A:Around}{s:Shared}{l:Addr}{vs:List Value}(hl:s.heap.IsList l vs.toArray)(hn:vs.length<=90000){Q':List Value->Shared->Prop}{E':Value->Shared->Prop}
  (hq:∀(ys:List Value)(h':Heap)(tk:Nat)(d:Drawn),(∀b o,s.heap.get? b=some o->h'.get? b=some o)->ys=vs->ys.length<=90000->s.heap.objs.size<=h'.objs.size->Q' ys { s with heap:=h',toks:=tk,drawn:=d }):wpAny (model prog w) A (collect (.ref l)) Q' E' s:=by
 refine collect_list hl ?_ (by rw[sizeLine_eq];lia);refine hq _ _ s.toks s.drawn (fun b o e=>?_) rfl hn ?_
 ·rw[Heap.get?_update_other _ _ (Nat.ne_of_gt (Heap.lt_size e))];exact Heap.get?_push_of_some _ e
 ·rw[Heap.size_update,Heap.size_push];exact Nat.le_succ _
theorem Zje{P:Program}{w:World}{H:Hp}{h0:Heap}(ok:HOk P w H h0):∀{ys:List V}{its:List Value}{qs:List Qd},Vals ys its->QL H ys qs->its.map (kq h0)=qs
 | _,_,_,.nil,.nil=>rfl
 | _,_,_,.cons (b:=u) r rr,.cons ⟨p,e1,e2⟩ t=>by
  subst e1;have hu:u=Value.ref p:=r;subst hu;rw[List.map_cons,Zje ok rr t,ZhC (Zhs ok e2)]
theorem ZeD(hc:X.calm=true):Zb2 X (.builtin "sorted") (Zkw X.K):=by
 intro pins s σ H xs us Q I r h;rcases h with⟨l,ys,qs,rfl,hq,hlen,hql,q⟩|⟨l,ns,rfl,hq,hlen,q⟩
 ·obtain⟨u,rfl,ru⟩:=vals1 r;obtain rfl:u=.ref l:=ru;obtain⟨its,rv,pl,hz⟩:=I.list hq;have hl:=rv.length;have x:QIt X.prog X.w s.heap its qs:=QIt.of I.hok rv hql;refine Z8 (lv:=fun u v=>qLt (kq s.heap u) (kq s.heap v)) (C:=fun ys=>ys=its) (Zd5.swo (kq s.heap)) (fun Q' E' hq'=>?_) (fun ys' h6 tk6 d6 hC k6 h2l=>?_) fun pa ys' out h3 tk3 d3 c hC hperm hso k3 e3 hle hos=>?_
  ·exact Zgk pl.isList (by lia) hq'
  ·subst hC;exact Zcs (h0:=s.heap) (fun v hv'=>let ⟨_,q,_,_,_,h3⟩:=x.mem hv';⟨q,h3⟩) k6 h2l
  ·subst hC;obtain⟨zs,rz,hzq⟩:=Zh8 I.hok rv hql out.toList fun u hu=>hperm.mem_iff.mp hu;have hzl:zs.length=out.size:=rz.length.trans (Array.length_toList ..);have I2:=I.laid (h':=h3) (t':=tk3) (a:=pa) (o:=.lst zs) (fun b o e=>k3 b o e) hle (show Z4 X.prog X.w _ h3 _ (.lst zs) from⟨by rw[sizeLine_eq];lia,out.toList,c,rz,e3⟩);refine⟨.ref pa,_,I2.draws (d:=d3),rfl,q pa zs _ (I.hok.fresh hle) (List.pairwise_map.mpr hso) ?_ hzq⟩;rw[<- Zje I.hok rv hql];exact hperm.map _
 ·obtain⟨u,rfl,ru⟩:=vals1 r;obtain rfl:u=.ref l:=ru;obtain⟨its,rv,pl,hz⟩:=I.list hq;have hl:=rv.length;rw[List.length_map] at hl;refine Z8 (C:=fun ys=>ys=its) Zfx (fun Q' E' hq'=>?_) (fun ys' h6 tk6 d6 hC k6 h2l=>Za8 (fun v hv=>?_) h2l) fun pa ys' out h3 tk3 d3 c hC hperm hso k3 e3 hle hos=>?_
  ·exact Zgk pl.isList (by lia) hq'
  ·subst hC;obtain⟨y,hy,ry⟩:=ZbH rv v hv;obtain⟨i,_,rfl⟩:=List.mem_map.mp hy;obtain⟨t,rfl⟩:=ry;exact⟨i,t,rfl⟩
  ·subst hC;obtain⟨zs,pz,rz⟩:=ZeL hperm rv;obtain⟨ms,rfl,pm⟩:=ZeF pz;have hzl:=rz.length;have I2:=I.laid (h':=h3) (t':=tk3) (a:=pa) (o:=.lst (ms.map V.int)) (fun b o e=>k3 b o e) hle (show Z4 X.prog X.w _ h3 _ (.lst (ms.map V.int)) from⟨by rw[hzl,Array.length_toList,sizeLine_eq];lia,out.toList,c,rz,e3⟩);exact⟨.ref pa,_,I2.draws (d:=d3),rfl,q pa ms (I.hok.fresh hle) (rising rz hso) pm⟩
end
end L2
namespace Stg
open PySem PyProof.Rows Sts
section
variable{prog:Program}{w:World}{A:Around}{E:Value->Shared->Prop}{s:Shared}
def Zdy(prog:Program)(w:World)(h:Heap)(S:Addr)(G:List (Int×Value)->Prop)(n:Nat)(led:Bool):Prop :=
 ∃o es ep t,h.get? S=some o/\o.ExactSet/\o.data=.set es ep t/\ElemsOf (PySem.strKind prog w) es.toList/\Tab es t/\es.size<=n/\t.led=led/\G es.toList
set_option maxHeartbeats 1000000 in
theorem ZfT{g:Bool->Sem Unit}(hg:∀(b:Bool)(s₁ : Shared)(Q':Unit->Shared->Prop),Q' () s₁ -> wpAny (model prog w) A (g b) Q' E s₁)
  {S:Addr} {o:Obj} {es es1:Array (Int×Value)} {ep:Nat} {t t2:SetTable} {G:List (Int×Value)->Prop} (gp:∀l l',List.Perm l' l->G l->G l') {n:Nat} {led:Bool} {Q:Option Bool->Shared->Prop} (ho:s.heap.get? S=some o) (hx:o.ExactSet) (hd:o.data=.set es ep t)
  (hE:ElemsOf (PySem.strKind prog w) es1.toList) (hvs:G es1.toList) (h1:1<=es1.size) (hn:es1.size<=1000) (hsz:es1.size<=n) (hp:t2.place.size=es1.size) (hd2:t2.dummies=#[]) (hg2:Good t2.mask) (hris:Ris t2.place) (hled:t2.led=led)
  (q:∀h',Heap.SameBut S s.heap h'->Zdy prog w h' S G n led->Q (some true) { s with heap:=h' }) :
  wpAny (model prog w) A (do
   storeSet S es1 t2
   if(!false&&t2.tooFull)=true then do
     g (relayAll t2 es1 (SetTable.grown es1.size)).2.2
     storeSet S (relayAll t2 es1 (SetTable.grown es1.size)).1 (relayAll t2 es1 (SetTable.grown es1.size)).2.1
     pure (some true)
    else pure (some true)) Q E s:=by
 refine wpAny_bind (wpAny_storeSet_of ho hd ?_ (by rw[sizeLine_eq];lia));have ho1:=stored ho hd es1 t2;have sb1:Heap.SameBut S s.heap (s.heap.update S (Obj.putSet es1 t2)):=Heap.SameBut.update ..;generalize s.heap.update S (Obj.putSet es1 t2)=hp1 at ho1 sb1;by_cases hfull:t2.tooFull=true
 ·rw[hfull,if_pos (by decide)];obtain⟨es2,t3,gv,e,hpm,hT3,hl3⟩:=Ze9 (t:=t2) h1 hn;rw[e];dsimp only;have hz2:es2.size=es1.size:=by rw[<- Array.length_toList,hpm.length_eq,Array.length_toList]
  refine wpAny_bind (hg _ _ _ (wpAny_bind (wpAny_storeSet_of (s:={ s with heap:=hp1 }) ho1 rfl ?_ (by rw[hz2,sizeLine_eq];lia))));have ho2:=stored ho1 rfl es2 t3;have sb2:Heap.SameBut S hp1 (hp1.update S (Obj.putSet es2 t3)):=Heap.SameBut.update ..;exact wpAny_pure (q _ (sb1.trans sb2) ⟨_,es2,_,t3,ho2,hx,rfl,fun e he=>hE e (hpm.mem_iff.mp he),hT3,by lia,by rw[hl3,hled],gp _ _ hpm hvs⟩)
 ·have hnf:t2.tooFull=false:=by
   cases hc:t2.tooFull with
   | true=>exact absurd hc hfull
   | false=>rfl
  rw[hnf,if_neg (by decide)];refine wpAny_pure (q hp1 sb1 ⟨_,es1,_,t2,ho1,hx,rfl,hE,⟨hp,hd2,hg2,?_,hris⟩,hsz,hled,hvs⟩);unfold SetTable.tooFull at hnf;have:=of_decide_eq_false hnf;lia
set_option maxHeartbeats 2000000 in
theorem ZgE{S:Addr}{G G':List (Int×Value)->Prop}(gp:∀l l',List.Perm l' l->G' l->G' l'){n i tk:Nat}{k:Str}{led:Bool}{Q:Bool->Shared->Prop}(hS:Zdy prog w s.heap S G n led)(hn:n<=900)(g0:∀l,G l->(∃e∈l,(PySem.strKind prog w).is k e.2=true)->G' l)(g1:∀l x,G l->(∀e∈l,(PySem.strKind prog w).is k e.2=false)->G' ((x,Value.str k tk)::l))
  (q:∀b h',Heap.SameBut S s.heap h'->Zdy prog w h' S G' (n+1) led->Q b { s with heap:=h' }):wpAny (model prog w) A (setAddHashed S (.str k tk) ((PySem.strKind prog w).hash k)) Q E s:=by
 obtain⟨o,es,ep,t,ho,hx,hd,hE,hT,hsz,hled,hvs⟩:=hS;have hkey:(PySem.strKind prog w).is k (Value.str k tk)=true:=PySem.strKind_is _ _ _ _;have hb:es.size<scanBound:=by show es.size<4096;lia
 unfold setAddHashed setAddHashedIn;refine wpAny_holding (wpAny_bind (wpAny_setState_of ho hd hT.fits ?_));dsimp only;rw[byScan_of (knd:=PySem.strKind prog w) rfl hb hE];simp only[↓reduceIte];unfold setAddByScan;refine wpAny_bind ?_;refine wpAny_bind (wpAny_rule ?_);refine wpAny_bind (wpAny_setScan_of (knd:=PySem.strKind prog w) hkey ho hd hT.fits hE ?_);cases hr:List.findIdx? (fun e=>(PySem.strKind prog w).is k e.2) es.toList with
 | some j =>
  dsimp only;obtain⟨hj,hpj,_⟩:=List.findIdx?_eq_some_iff_getElem.mp hr;exact wpAny_pure (wpAny_pure (q false s.heap (Heap.SameBut.refl ..) ⟨o,es,ep,t,ho,hx,hd,hE,hT,by lia,hled,g0 _ hvs ⟨es.toList[j],List.getElem_mem hj,hpj⟩⟩))
 | none =>
  dsimp only;obtain⟨j,hj,eL⟩:=Zhg hT ((PySem.strKind prog w).hash k) (Value.str k tk);rw[eL];dsimp only;have hins:=SetTable.insertAt_perm es (SetTable.below t.place j) ((PySem.strKind prog w).hash k,Value.str k tk);have hmem:∀e∈(SetTable.insertAt es (SetTable.below t.place j) ((PySem.strKind prog w).hash k,Value.str k tk)).toList,e∈es.toList\/e=((PySem.strKind prog w).hash k,Value.str k tk):=fun e he=>by
   have:=hins.mem_iff.mp he;rw[Array.toList_push] at this;rcases List.mem_append.mp this with z|z
   ·exact .inl z
   ·exact .inr (List.mem_singleton.mp z)
  have hG1:G' (SetTable.insertAt es (SetTable.below t.place j) ((PySem.strKind prog w).hash k,Value.str k tk)).toList:=by
   refine gp _ _ ?_ (g1 es.toList ((PySem.strKind prog w).hash k) hvs fun e he=>?_)
   ·refine hins.trans ?_;rw[Array.toList_push];exact List.perm_append_comm (l₁ := es.toList) (l₂ :=[_])
   ·exact List.findIdx?_eq_none_iff.mp hr e he
  have hs1:(SetTable.insertAt es (SetTable.below t.place j) ((PySem.strKind prog w).hash k,Value.str k tk)).size=es.size+1:=by
   rw[<- Array.length_toList,hins.length_eq,Array.length_toList,Array.size_push]
  have hp1:(SetTable.insertAt t.place (SetTable.below t.place j) j).size=es.size+1:=by
   rw[<- Array.length_toList,(SetTable.insertAt_perm t.place (SetTable.below t.place j) j).length_eq,Array.length_toList,Array.size_push,hT.size]
  have hris:Ris (SetTable.insertAt t.place (SetTable.below t.place j) j):=Zcd hT.ris (Zbu hT.ris hj);generalize SetTable.insertAt es (SetTable.below t.place j) ((PySem.strKind prog w).hash k,Value.str k tk)=es1 at hmem hs1 hG1;have hE1:ElemsOf (PySem.strKind prog w) es1.toList:=fun e he=>by
   rcases hmem e he with z|z
   ·exact hE e z
   ·subst z;exact⟨⟨k,PySem.strKind_is _ _ _ _,rfl⟩,rfl⟩
  refine wpAny_bind (wpAny_pure ?_)
  split
  ·refine wpAny_bind ?_;rw[hashByValue_scannable 8 (x:=Value.str k tk) rfl];refine wpAny_pure ?_;refine ZfT (gp:=gp) (fun b s₁ Q' hq=>by cases b <;> first|exact wpAny_pure hq|exact wpAny_rule hq) ho hx hd hE1 hG1 (by lia) (by lia) (show es1.size<=n+1 by lia) (by rw[hs1];exact hp1) hT.none hT.good hris hled fun h' sb hS'=>?_
   exact wpAny_pure (q true h' sb hS')
  ·refine wpAny_bind (wpAny_pure ?_);refine ZfT (gp:=gp) (fun b s₁ Q' hq=>by cases b <;> first|exact wpAny_pure hq|exact wpAny_rule hq) ho hx hd hE1 hG1 (by lia) (by lia) (show es1.size<=n+1 by lia) (by rw[hs1];exact hp1) hT.none hT.good hris hled fun h' sb hS'=>?_
   exact wpAny_pure (q true h' sb hS')
theorem ZlI{S:Addr}{k:Str}{tk:Nat}{G G':List (Int×Value)->Prop}(gp:∀l l',List.Perm l' l->G' l->G' l'){n:Nat}{led:Bool}{Q:Bool->Shared->Prop}(hS:Zdy prog w s.heap S G n led)(hn:n<=900)(g0:∀l,G l->(∃e∈l,(PySem.strKind prog w).is k e.2=true)->G' l)(g1:∀l x,G l->(∀e∈l,(PySem.strKind prog w).is k e.2=false)->G' ((x,Value.str k tk)::l))
  (q:∀r h' tk,s.toks<=tk->Heap.SameBut S s.heap h'->Zdy prog w h' S G' (n+1) led->Q r { s with heap:=h',toks:=tk }):wpAny (model prog w) A (setAdd S (.str k tk)) Q E s:=by
 unfold setAdd;refine wpAny_holding (wpAny_bind ((PySem.strKind prog w).pyHash (PySem.strKind_is _ _ _ _) ?_));exact ZgE gp (i:=0) (s:={ s with toks:=_ }) hS hn g0 g1 fun b h' sb hS'=>q b h' _ (Nat.le_add_right _ _) sb hS'
end
end Stg
namespace L2
open PySem PySem.Spec PyProof.Rows PySem.W Srd Sts Stg
def Zcv:Value->Str
 | .str x _=>x
 | _=>Str.empty
def GT(P:Str->Prop)(l:List (Int×Value)):Prop:=l.Pairwise (fun e e'=>Zcv e.2≠Zcv e'.2)/\∀i,(∃e∈l,Zcv e.2=i)↔P i
theorem GT.perm{P:Str->Prop}(l l':List (Int×Value))(p:l'.Perm l)(h:GT P l):GT P l' :=
 ⟨(p.pairwise_iff fun{a b} hab e=>hab e.symm).mpr h.1,fun i=>Iff.trans ⟨fun⟨e,h1,h2⟩=>⟨e,p.mem_iff.mp h1,h2⟩,fun⟨e,h1,h2⟩=>⟨e,p.mem_iff.mpr h1,h2⟩⟩ (h.2 i)⟩
def GS(l:List (Int×Value)):Prop := ∀e∈l,∃i t,e.2=Value.str i t
section
variable{X:Cx}{e:Expr}{te:TE}{p p' pos pos':Pos}
theorem Zea{P:Program}{w:World}{k i:Str}{t:Tok}:(PySem.strKind P w).is k (Value.str i t)=true↔i=k:=by
 constructor
 ·intro h;exact(PySem.strKind P w).inj _ _ _ (PySem.strKind_is _ _ _ _) h
 ·rintro rfl;exact PySem.strKind_is _ _ _ _
def JT(P:Program)(w:World)(h0:Heap)(S:Addr)(ns:List Str)(i:Nat)(h:Heap):Prop :=
 Zdy P w h S (fun l=>GS l/\GT (fun k=>∃j:Nat,j<i/\ns[j]?= some k) l) i (Zdq w)/\∀b o,b<S->h0.get? b=some o->h.get? b=some o
theorem JT.goes{P:Program}{w:World}{A:Around}{h0:Heap}{S:Addr}{items:Array Value}{ns:List Str}(x:Vals (ns.map V.str) items.toList)(hn:items.size<=900):Goes P w A S items (JT P w h0 S ns) where
 keep:=fun i h h' ⟨⟨o,es,ep,t,ho,hx,hd,hE,hT,hsz,hl,hG⟩,hb⟩ k =>
  ⟨⟨o,es,ep,t,k S o (Nat.le_refl _) ho,hx,hd,hE,hT,hsz,hl,hG⟩,fun b o hlt e=>k b o (Nat.le_of_lt hlt) (hb b o hlt e)⟩
 add:=fun i v s Q E hi ⟨hS1,hb⟩ q=>by
  have hi':items.toList[i]?= some v:=by rw[Array.getElem?_toList];exact hi
  have hil:i<items.size:=(Array.getElem?_eq_some_iff.mp hi).1;obtain⟨z,hz,rz⟩:=ZbD x i v hi';rw[List.getElem?_map] at hz;obtain⟨k,hk,rfl⟩:=Option.map_eq_some_iff.mp hz;obtain⟨tk0,rfl⟩:=rz;have eP:∀m:Str,(∃j:Nat,j<i+1/\ns[j]?= some m)↔((∃j:Nat,j<i/\ns[j]?= some m)\/m=k):=fun m=>by
   constructor
   ·rintro⟨j,h1,h2⟩;by_cases c:j<i
    ·exact .inl ⟨j,c,h2⟩
    ·have:j=i:=by lia
     subst this;rw[hk] at h2;cases h2;exact .inr rfl
   ·rintro(⟨j,h1,h2⟩|rfl)
    ·exact⟨j,by lia,h2⟩
    ·exact⟨i,by lia,hk⟩
  refine ZlI (G':=fun l=>GS l/\GT (fun k=>∃j:Nat,j<i+1/\ns[j]?= some k) l) (fun l l' pp ⟨g1,g2⟩=>⟨fun e he=>g1 e (pp.mem_iff.mp he),GT.perm l l' pp g2⟩) hS1 (by lia) (fun l ⟨hN,g1,g2⟩ hex=>⟨hN,g1,fun m=>?_⟩) (fun l x ⟨hN,g1,g2⟩ hno=>⟨fun e he=>?_,List.pairwise_cons.mpr ⟨fun e he z=>?_,g1⟩,fun m=>?_⟩) fun b h' tk _ sb hS2=>q b h' tk sb ⟨hS2,fun b o hlt e=>(sb.2 b (Nat.ne_of_lt hlt)).trans (hb b o hlt e)⟩
  ·refine Iff.trans ?_ (Iff.trans (or_congr (g2 m) Iff.rfl) (eP m).symm);constructor
   ·exact .inl
   ·rintro(h|rfl)
    ·exact h
    ·obtain⟨e,he,h1⟩:=hex;obtain⟨i',t',h2⟩:=hN e he;rw[h2] at h1;exact⟨e,he,by rw[h2];exact Zea.mp h1⟩
  ·rcases List.mem_cons.mp he with rfl|he
   ·exact⟨k,tk0,rfl⟩
   ·exact hN e he
  ·obtain⟨i',t',h2⟩:=hN e he;have h3:=hno e he;rw[h2] at h3 z;have:i'=k:=z.symm;rw[Zea.mpr this] at h3;cases h3
  ·refine Iff.trans ?_ (Iff.trans (or_congr (g2 m) Iff.rfl) (eP m).symm);constructor
   ·rintro⟨e,he,h1⟩;rcases List.mem_cons.mp he with rfl|he
    ·exact .inr h1.symm
    ·exact .inl ⟨e,he,h1⟩
   ·rintro(⟨e,he,h1⟩|rfl)
    ·exact⟨e,List.mem_cons_of_mem _ he,h1⟩
    ·exact⟨_,List.mem_cons_self ..,rfl⟩
theorem JT.zero{P:Program}{w:World}{h0 h:Heap}{S:Addr}{ns:List Str}(hS:h.get? S=some (Z2 w))(k:∀b o,b<S->h0.get? b=some o->h.get? b=some o):JT P w h0 S ns 0 h :=
 ⟨⟨_,#[],0,_,hS,⟨rfl,rfl,rfl⟩,rfl,(fun _ h=>(nomatch h)),⟨rfl,rfl,.inl rfl,(by show(0:Nat)*5<7*3;decide),List.Pairwise.nil⟩,Nat.le_refl _,rfl,⟨(fun _ h=>(nomatch h)),List.Pairwise.nil,fun ks=>⟨fun⟨_,h,_⟩=>(nomatch h),fun⟨_,h,_⟩=>absurd h (Nat.not_lt_zero _)⟩⟩⟩,k⟩
def sLt(a b:Str):Bool:=decide (a.cps.toList<b.cps.toList)
theorem Zdm:Sto sLt:=Zha
theorem ZbR{prog:Program}{w:World}{A:Around}{s:Shared}{vs:List Value}(hv:∀v∈vs,∃i t,v=Value.str i t)(h2:2<=vs.length):Zbf prog w A (fun u v=>sLt (Zcv u) (Zcv v)) vs s:=by
 refine⟨oneType',fun Q E hq=>kas_kind (T:=.type "str") h2 (fun v hm=>?_) rfl rfl hq,?_⟩
 ·obtain⟨i,t,rfl⟩:=hv v hm;exact Looks.of_pure rfl
 ·intro x y hx hy E;rw[pairsOf_toList] at hx hy;obtain⟨i,t,e⟩:=hv _ (mem_zip_self hx).2;obtain⟨i',t',e'⟩:=hv _ (mem_zip_self hy).2;rw[e,e',keyLt'_oneType];refine oneLt_str ⟨rfl,?_⟩;show decide (i.cps.toList<i'.cps.toList)=sLt (Zcv x.1) (Zcv y.1);rw[e,e'];rfl
def Zez(K:PySem.W.Frag)(v:V)(H:Hp)(Q:VK):Prop :=
 ∃(l:Addr)(ns:List Str),v=.ref l/\SqL K H l (ns.map V.str)/\ns.length<=900/\∀r (ms:List Str),H r=none->ms.Pairwise (fun a b=>sLt a b=true)->(∀i,i∈ms↔i∈ns)->Q (.ref r) (upd H r (.lst (ms.map V.str)))
set_option maxHeartbeats 1000000 in
theorem Zeq(hc:X.calm=true)(hu:X.A.units+200<cLine)(hg:Gl X "sorted") (hm:X.mg "sorted" = none) (hg':Gl X "set") (hm':X.mg "set" = none) (pa:PA X [e] (ZdW te Zh7))
  (hs:starEach [e] X.env=[(false,eval e X.env)]:=by rfl) (hs':starEach [.Call (.Name "set" p') [e] [] pos'] X.env=[(false,eval (.Call (.Name "set" p') [e] [] pos') X.env)]:=by rfl) :
  PE X (.Call (.Name "sorted" p) [.Call (.Name "set" p') [e] [] pos'] [] pos) (fun σ H Q=>te σ H fun v H1=>Zez X.K v H1 Q):=by
 intro pins s σ H Q I h;refine wpAny_Call_Name_kw (Zbp I hg hm ZbL ?_);refine PyProof.Rows.callWith_builtin1 ?_ hs' rfl;rw[hs'];refine Calls.spliced_cons ?_;refine wpAny_Call_Name_kw (Zbp I hg' hm' Zgh ?_);refine PyProof.Rows.callWith_type1 (thn (pa pos' pins s σ H (fun vs H1=>match vs with | [v]=>Zez X.K v H1 Q|_=>False) I h) fun us s1 ⟨vs,H1,I1,r,q⟩=>?_) hs rfl
 match vs,r,q with
 | [v],r,q =>
  obtain⟨u,rfl,ru⟩:=r.one;obtain⟨l,ns,rfl,hq,hl9,q⟩:=q;cases ru;obtain⟨its,rv,pl,hz⟩:=I1.list hq;have hlen:=rv.length;rw[List.length_map] at hlen;refine Zby (J:=JT X.prog X.w s1.heap s1.heap.objs.size ns) (I1.ok.hd hc) (by lia) pl.isList (fun B hB=>JT.goes rv (by rw[List.size_toArray];lia)) (fun h h1 h2=>JT.zero h1 h2) fun h2 tk hJ k2=>?_;refine Calls.spliced_nil ?_;have k2':∀b o,s1.heap.get? b=some o->h2.get? b=some o:=fun b o e=>k2 b o (Heap.lt_size e) e;obtain⟨⟨o,es,ep,t,ho,hx,hd,hE,hT,hsz,hled,hN,hnd,hmem⟩,hb⟩:=hJ;have hsz':es.size<=its.length:=by simpa using hsz
  refine Z8 (lv:=fun u v=>sLt (Zcv u) (Zcv v)) (s:={ s1 with heap:=h2,toks:=tk }) (C:=fun ys=>ys.Perm (es.toList.map (·.2))) (Zdm.swo Zcv) (fun Q' E' hq'=>?_) (fun ys' h6 tk6 d6 hC k6 h2l=>?_) fun pa ys' out h3 tk3 d3 c hC hperm hso k3 e3 hle hos=>?_
  ·refine ZaL (I1.ok.hd hc) ho hx hd hT hled (by lia) fun ys' h' tk' d' k' hp hle=>hq' ys' h' tk' d' k' hp ?_ hle;rw[hp.length_eq,List.length_map,Array.length_toList];lia
  ·refine ZbR (fun v hv'=>?_) h2l;obtain⟨e,he,rfl⟩:=List.mem_map.mp (hC.mem_iff.mp hv');exact hN e he
  ·have hpm:out.toList.Perm (es.toList.map (·.2)):=hperm.trans hC;have hon:∀us:List Value,(∀u∈us,∃i t,u=Value.str i t)->Vals ((us.map Zcv).map V.str) us:=fun us=>by
    induction us with
    | nil=>exact fun _=>.nil
    | cons u us ih =>
     intro hu;obtain⟨i,t,rfl⟩:=hu u (List.mem_cons_self ..);exact .cons ⟨t,rfl⟩ (ih fun x hx=>hu x (List.mem_cons_of_mem _ hx))
   have rz:=hon out.toList fun u hu=>by
    obtain⟨e,he,rfl⟩:=List.mem_map.mp (hpm.mem_iff.mp hu);exact hN e he
   have hS0:s1.heap.objs.size<=pa:=Nat.le_trans (Nat.le_of_lt (Heap.lt_size ho)) hle;have I2:=I1.laid (h':=h3) (t':=tk3) (a:=pa) (o:=.lst ((out.toList.map Zcv).map V.str)) (fun b o e=>k3 b o (k2' b o e)) hS0 (show Z4 X.prog X.w _ h3 _ (.lst ((out.toList.map Zcv).map V.str)) from⟨by rw[List.length_map,List.length_map,Array.length_toList,sizeLine_eq];lia,out.toList,c,rz,e3⟩);have hmp:(out.toList.map Zcv).Perm (es.toList.map fun e=>Zcv e.2):=by
    have:=hpm.map Zcv;rw[List.map_map] at this;exact this
   refine⟨.ref pa,_,I2.draws (d:=d3),rfl,q pa _ (I1.hok.fresh hS0) (Zdm.strict (List.pairwise_map.mpr hso) (hmp.nodup_iff.mpr (List.pairwise_map.mpr hnd))) (fun i=>hmp.mem_iff.trans (Iff.trans ?_ ((hmem i).trans ?_)))⟩
   ·constructor
    ·intro hi;obtain⟨e,he,rfl⟩:=List.mem_map.mp hi;exact⟨e,he,rfl⟩
    ·rintro⟨e,he,rfl⟩;exact List.mem_map.mpr ⟨e,he,rfl⟩
   ·constructor
    ·rintro⟨j,_,h2⟩;exact List.mem_of_getElem? h2
    ·intro hi;obtain⟨j,hj⟩:=List.mem_iff_getElem?.mp hi;exact⟨j,by have:=(List.getElem?_eq_some_iff.mp hj).1;simp;lia,hj⟩
end
end L2
namespace Fg
open PySem L2 FgM
theorem ZjZ{X:Cx}{K:PySem.W.Frag}{es:List Expr}{k:Nat}{t:TGs}{n:Nat}{pos:Pos}(hK:X.K=K)(hc:X.calm=true)(h:PGs X es t)(hn:(assignEach es X.env).length=n:=by rfl)(hst:(assignEach es X.env).findIdx? (·.1)=none:=by rfl):PG X (.Tuple es k pos) (ZlO K n t):=by
 subst hK;exact Zcr hc h hn hst
theorem Zc4:bootBuiltins "sorted" = some (.builtin "sorted"):=by decide +kernel
theorem Zf1{K:PySem.W.Frag}{a p:Addr}{xs:List V}{g:TG}{te:TE}{R:Hp->Prop}{σ0:St}{H0:Hp}(Pv:Nat->List V->St->Hp->Prop)(h0:Pv 0 [] σ0 H0)
  (hl:∀i ys σ H,i<=xs.length->Pv i ys σ H->SqT K H a xs/\H p=some (.lst ys))
  (hs:∀i ys x σ H,i<xs.length->xs[i]?= some x->Pv i ys σ H->g x σ H fun σ3 H4=>te σ3 H4 fun v H5=>H5 p=some (.lst ys)/\ys.length<sizeLine/\∃m',m'<xs.length-i/\CW xs.length Pv (i+1) m' (ys ++ [v]) σ3 (upd H5 p (.lst (ys ++ [v]))))
  (hd:∀ys σ H,Pv xs.length ys σ H->R H) :
  ∃W:Nat->Nat->List V->St->Hp->Prop,(∃m,W 0 m [] σ0 H0)/\∀i m ys σc H2,W i m ys σc H2->H2 p=some (.lst ys)/\(((Itt K a).stop i H2/\R H2)\/((Itt K a).go i H2/\∀x H3,(Itt K a).yld i H2 x H3->g x σc H3 fun σ3 H4=>te σ3 H4 fun v H5 =>
   H5 p=some (.lst ys)/\ys.length<sizeLine/\∃m',m'<m/\W (i+1) m' (ys ++ [v]) σ3 (upd H5 p (.lst (ys ++ [v]))))):=by
 refine⟨CW xs.length Pv,⟨_,rfl,Nat.zero_le _,h0⟩,?_⟩;rintro i m ys σ H ⟨rfl,hi,hp⟩;obtain⟨h1,h2⟩:=hl i ys σ H hi hp;refine⟨h2,?_⟩;by_cases hlt:i<xs.length
 ·refine .inr ⟨⟨xs,xs[i],h1,List.getElem?_eq_getElem hlt⟩,?_⟩;rintro x H3 ⟨rfl,hx⟩;exact hs i ys x σ _ hlt (hx xs h1) hp
 ·refine .inl ⟨⟨xs,h1,by lia⟩,hd ys σ H ?_⟩;have e:i=xs.length:=by lia
  rw[<- e];exact hp
theorem Zk{α : Type}{l:List α}{i:Nat}{x : α}(h:l[i]?= some x):l.take (i+1)=l.take i ++ [x]:=by
 rw[List.take_add_one,h];rfl
theorem Zf6{X:Cx}{K:PySem.W.Frag}(h:X.K=K):IxR X (Zk8 K):=h ▸ Zaj
def Zln(K:PySem.W.Frag)(ta:TE):TT:=fun σ H Q=>ta σ H fun x H'=>∃k,Zk4 K x H' k/\Q k H'
theorem Zht{X:Cx}{K:PySem.W.Frag}{a:Expr}{ta:TE}(h:X.K=K)(ha:PE X a ta)(he:∀whole,isTrue a X.env whole=(do let v <- whole;standAt a.pos;holding [v] (truthy v))) :
  PT X a (Zln K ta):=by
 subst h;exact ZP ha he
theorem ZaN{H:Hp}{p:Addr}{ys zs:List V}(hp:H p=some (.lst ys)):∀b xs,H b=some (.tup xs)->(upd H p (.lst zs)) b=some (.tup xs):=fun b xs h=>by
 rw[Zh (fun e=>by rw[e,hp] at h;cases h)];exact h
theorem ZlK{X:Cx}{body:List Stmt}{D:Ends}(R0:St->Hp->Prop)(n:Nat)(R:St->Hp->Prop)(h2:∃u,PSs X (body.drop n) u/\∀ σ' H',R σ' H'->u D σ' H')
  (h1:∀u,PSs X (body.drop n) u->(∀ σ' H',R σ' H'->u D σ' H')->∃t,PSs X body t/\∀ σ H,R0 σ H->t D σ H):∃t,PSs X body t/\∀ σ H,R0 σ H->t D σ H :=
 let ⟨u,a,b⟩:=h2
 h1 u a b
theorem Zli(x:Int){n:Nat}(h:0<n):∃k:Nat,x % (n:Int)=(k:Int)/\k<n:=by
 have h1:=Int.emod_nonneg x (by lia:(n:Int)≠0);have h2:=Int.emod_lt_of_pos x (by lia:(0:Int)<(n:Int));obtain⟨k,hk⟩:=Int.eq_ofNat_of_zero_le h1;exact⟨k,hk,by lia⟩
structure FQ where
 n:Int
 hs:List Int
 ts:List Int
 qs:List Srd.Qd
abbrev Zjb(l:List Int):Prop:=l.Pairwise (· < ·)
abbrev Zkk(l:List Srd.Qd):Prop:=l.Pairwise (fun a b=>Srd.qLt a b=true)
def FmQ(H:Hp)(a:Addr)(f:FQ):Prop := ∃(h1 h2 h3:Addr)(zs:List V),H a=some (.tup [.int f.n,.ref h1,.ref h2,.ref h3])/\H h1=some (.tup (f.hs.map V.int))/\H h2=some (.tup (f.ts.map V.int))/\H h3=some (.tup zs)/\QL H zs f.qs
theorem FmQ.same{H H':Hp}{a:Addr}{f:FQ}(h:FmQ H a f)(s:Zj H H'):FmQ H' a f:=by
 obtain⟨h1,h2,h3,zs,e1,e2,e3,e4,e5⟩:=h;exact⟨h1,h2,h3,zs,s _ _ e1,s _ _ e2,s _ _ e3,s _ _ e4,e5.keep fun b xs e=>s _ _ e⟩
theorem QL.snoc{H:Hp}{q:Srd.Qd}{p:Addr}(e:H p=some (tq q)):∀{zs:List V}{qs:List Srd.Qd},QL H zs qs->QL H (zs ++ [.ref p]) (qs ++ [q])
 | _,_,.nil=>.cons ⟨p,rfl,e⟩ .nil
 | _,_,.cons r t=>.cons r (QL.snoc e t)
theorem Zbl{α : Type}[DecidableEq α]:∀{l m:List α},l.Nodup->(∀x∈l,x∈m)->l.length<=m.length
 | [],_,_,_=>Nat.zero_le _
 | a::l,m,hn,h=>by
  obtain⟨h1,h2⟩:=List.nodup_cons.mp hn;have ha:=h a (List.mem_cons_self ..);have h3:=Zbl (m:=m.erase a) h2 fun x hx=>(List.mem_erase_of_ne (fun(e:x=a)=>h1 (e ▸ hx))).mpr (h x (List.mem_cons_of_mem _ hx));rw[List.length_erase_of_mem ha] at h3;have:=List.length_pos_of_mem ha;rw[List.length_cons];lia
theorem ZdC{l:List Int}(h:Zjb l):l.Nodup:=h.imp fun{a b} hab e=>by lia
theorem ZfR{l m:List Int}(hl:Zjb l)(hm:Zjb m)(h:∀x,x∈l↔x∈m):l=m :=
 Srd.Zcg.one (hl.imp fun h=>decide_eq_true h) (hm.imp fun h=>decide_eq_true h) h
theorem Zg3(x:Int){n:Int}(h:1<=n):0<=x % n/\x % n<n:=⟨Int.emod_nonneg _ (by lia),Int.emod_lt_of_pos _ (by lia)⟩
def QB(n:Int)(qs:List Srd.Qd):Prop := ∀q∈qs,(0<=q.1/\q.1<n)/\(0<=q.2.2.1/\q.2.2.1<n)/\0<=q.2.2.2/\q.2.2.2<n
def IB(n:Int)(xs:List Int):Prop := ∀x∈xs,0<=x/\x<n
theorem IB.snoc{n x:Int}{xs:List Int}(h:IB n xs)(hx:0<=x/\x<n):IB n (xs ++ [x]):=fun y hy=>by
 rcases List.mem_append.mp hy with hy|hy
 ·exact h y hy
 ·rw[List.mem_singleton.mp hy];exact hx
theorem ZcP{K:PySem.W.Frag}{a p:Addr}{xs:List V}{g:TG}{tt:TT}{te:TE}{R:Hp->Prop}{σ0:St}{H0:Hp}(Pv:Nat->List V->St->Hp->Prop)(h0:Pv 0 [] σ0 H0)
  (hl:∀i ys σ H,i<=xs.length->Pv i ys σ H->SqT K H a xs/\H p=some (.lst ys))
  (hs:∀i ys x σ H,i<xs.length->xs[i]?= some x->Pv i ys σ H->g x σ H fun σ3 H4=>tt σ3 H4 fun b H4'=>if b=true then te σ3 H4' fun v H5=>H5 p=some (.lst ys)/\ys.length<sizeLine/\∃m',m'<xs.length-i/\CW xs.length Pv (i+1) m' (ys ++ [v]) σ3 (upd H5 p (.lst (ys ++ [v])))
   else ∃m',m'<xs.length-i/\CW xs.length Pv (i+1) m' ys σ3 H4')
  (hd:∀ys σ H,Pv xs.length ys σ H->R H) :
  ∃W:Nat->Nat->List V->St->Hp->Prop,(∃m,W 0 m [] σ0 H0)/\∀i m ys σc H2,W i m ys σc H2->H2 p=some (.lst ys)/\(((Itt K a).stop i H2/\R H2)\/((Itt K a).go i H2/\∀x H3,(Itt K a).yld i H2 x H3->g x σc H3 fun σ3 H4=>tt σ3 H4 fun b H4'=>if b=true then te σ3 H4' fun v H5 =>
   H5 p=some (.lst ys)/\ys.length<sizeLine/\∃m',m'<m/\W (i+1) m' (ys ++ [v]) σ3 (upd H5 p (.lst (ys ++ [v]))) else ∃m',m'<m/\W (i+1) m' ys σ3 H4')):=by
 refine⟨CW xs.length Pv,⟨_,rfl,Nat.zero_le _,h0⟩,?_⟩;rintro i m ys σ H ⟨rfl,hi,hp⟩;obtain⟨h1,h2⟩:=hl i ys σ H hi hp;refine⟨h2,?_⟩;by_cases hlt:i<xs.length
 ·refine .inr ⟨⟨xs,xs[i],h1,List.getElem?_eq_getElem hlt⟩,?_⟩;rintro x H3 ⟨rfl,hx⟩;exact hs i ys x σ _ hlt (hx xs h1) hp
 ·have e:i=xs.length:=by lia
  subst e;exact .inl ⟨⟨xs,h1,Nat.le_refl _⟩,hd ys σ H hp⟩
end Fg
namespace L2
open PySem PySem.Spec PyProof.Rows
def ZkX(td ty tx:TE):TE:=fun σ H Q=>td σ H fun x H1=>∃a,x=.ref a/\IsD H1 a/\ty σ H1 fun y H2=>tx σ H2 fun z H3=>∃kvs k,H3 a=some (.dK kvs)/\y=kV k/\kvs.length<sizeLine /\
 (∀v,Zbi kvs k=some v->Q v H3)/\(Zbi kvs k=none->Q z (upd H3 a (.dK (putK kvs k z))))
section
variable{X:Cx}{o e f:Expr}{apos cpos:Pos}{td ty tx:TE}
theorem Zgn(ho:PE X o td)(he:PE X e ty)(hf:PE X f tx)(m:M2 X o "setdefault" apos e f cpos):PE X (.Call (.Attribute o "setdefault" apos) [e,f] [] cpos) (ZkX td ty tx):=by
 intro pins s σ H Q I h;refine wpAny_Call_method m.base m.few m.line PySem.F.plainAttrs_dict PySem.F.slot_dict_setdefault PySem.F.type_dict_setdefault (thn (ho pins s σ H _ I h) fun u s1 ⟨x,H1,I1,rx,a,ex,d,q1⟩=>?_);subst ex;obtain rfl:u=Value.ref a:=rx;obtain⟨t1,t2,_⟩:=Zjt I1 d;refine⟨t1,t2,?_⟩;rw[m.trees];refine Calls.callWith_builtin rfl (Calls.evalArgs_plain (Calls.spliced_cons (thn (he pins s1 σ H1 _ I1 q1) fun iv s2 ⟨y,H2,I2,ry,q2⟩ =>
  Calls.spliced_cons (thn (hf pins s2 σ H2 _ I2 q2) fun fv s3 ⟨z,H3,I3,rz,kvs,k,e3,ey,hl,g1,g2⟩=>Calls.spliced_nil ?_))))
 subst ey;obtain⟨zz,hd,vs,rel,dd⟩:=ZiN I3.hok e3;have hz:vs.length<=sizeLine:=by rw[<- rel.length];exact zz
 have rv:=rel.val k;refine call_meetsIn PySem.F.slot_dict_setdefault dd.typeIs PySem.F.entry_dict_setdefault (PySem.F.args_dict_setdefault_3 _ _ _) (kt_meets_setdefault (Zn X.prog X.w) a (ZfJ ry) hd fv) ⟨vs,dd,hz,fun v hv=>?_,fun hn h' dd' hs=>?_⟩
 ·rw[hv] at rv;cases hk:Zbi kvs k with
  | none =>
   rw[hk] at rv;exact(show False from rv).elim
  | some x =>
   rw[hk] at rv;exact⟨x,H3,I3.tok _,rv,g1 x hk⟩
 ·rw[hn] at rv;cases hk:Zbi kvs k with
  | some x =>
   rw[hk] at rv;exact(show False from rv).elim
  | none =>
   have he:∃q,h'.get? a=some q:=let ⟨q,_,_,hq,_⟩:=dd';⟨q,hq⟩;have hl2:(putK kvs k z).length<=sizeLine:=by have:=ZaZ kvs k z;lia
   exact⟨z,_,Zfl I3 (by rw[e3];exact True.intro) hs he (Zjy hl2 hd (rel.put k rz) dd'),rz,g2 hk⟩
end
end L2
namespace Fg
open PySem L2 FgM
def DI(H:Hp)(p:Addr)(ns:List Int):Prop := ∃m:List (Key×V),H p=some (.dK m)/\m.map (·.1)=ns.map Sum.inl
theorem DI.same{H H':Hp}{p:Addr}{ns:List Int}(h:DI H p ns)(s:Zj H H'):DI H' p ns:=by
 obtain⟨m,h1,h2⟩:=h;exact⟨m,s _ _ h1,h2⟩
theorem DI.has{m:List (Key×V)}{ns:List Int}(h:m.map (·.1)=ns.map Sum.inl)(x:Int):(Zbi m (Sum.inl x)).isSome=decide (x∈ns):=by
 rw[<- Zar];have e1:(m.any fun kv=>decide (kv.1=(Sum.inl x:Key)))=(m.map (·.1)).any (fun y=>decide (y=(Sum.inl x:Key))):=by rw[List.any_map];rfl
 rw[e1,h,List.any_map,Bool.eq_iff_iff,List.any_eq_true,decide_eq_true_eq];constructor
 ·rintro⟨y,hy,h⟩;have:=of_decide_eq_true h;injection this with this;rw[<- this];exact hy
 ·intro hx;exact⟨x,hx,decide_eq_true rfl⟩
theorem DI.put{m:List (Key×V)}{ns:List Int}(h:m.map (·.1)=ns.map Sum.inl)(x:Int)(v:V):(putK m (Sum.inl x) v).map (·.1)=(if x∈ns then ns else ns ++ [x]).map Sum.inl:=by
 have hh:=DI.has h x;unfold putK;rw[Zar,hh];by_cases hx:x∈ns
 ·rw[decide_eq_true hx,if_pos rfl,if_pos hx,List.map_map,<- h];refine List.map_congr_left fun kv _=>?_;show(if kv.1=Sum.inl x then(kv.1,v) else kv).1=kv.1
  split <;> rfl
 ·rw[decide_eq_false hx,if_neg (by decide),if_neg hx,List.map_append,List.map_append,h];rfl
end Fg
namespace L2
open PySem PySem.Spec PyProof.Rows
theorem ZbI{K:PySem.W.Frag}{a p:Addr}{xs:List V}{g:TG}{tt:TT}{te:TE}{R:Hp->Prop}{σ0:St}{H0:Hp}(Pv:Nat->List V->St->Hp->Prop)(h0:Pv 0 [] σ0 H0)
  (hl:∀i ys σ H,i<=xs.length->Pv i ys σ H->SqL K H a xs/\H p=some (.lst ys))
  (hs:∀i ys x σ H,i<xs.length->xs[i]?= some x->Pv i ys σ H->g x σ H fun σ3 H4=>tt σ3 H4 fun b H4'=>if b=true then te σ3 H4' fun v H5=>H5 p=some (.lst ys)/\ys.length<sizeLine/\∃m',m'<xs.length-i/\CW xs.length Pv (i+1) m' (ys ++ [v]) σ3 (upd H5 p (.lst (ys ++ [v])))
   else ∃m',m'<xs.length-i/\CW xs.length Pv (i+1) m' ys σ3 H4')
  (hd:∀ys σ H,Pv xs.length ys σ H->R H) :
  ∃W:Nat->Nat->List V->St->Hp->Prop,(∃m,W 0 m [] σ0 H0)/\∀i m ys σc H2,W i m ys σc H2->H2 p=some (.lst ys)/\(((Itl K a).stop i H2/\R H2)\/((Itl K a).go i H2/\∀x H3,(Itl K a).yld i H2 x H3->g x σc H3 fun σ3 H4=>tt σ3 H4 fun b H4'=>if b=true then te σ3 H4' fun v H5 =>
   H5 p=some (.lst ys)/\ys.length<sizeLine/\∃m',m'<m/\W (i+1) m' (ys ++ [v]) σ3 (upd H5 p (.lst (ys ++ [v]))) else ∃m',m'<m/\W (i+1) m' ys σ3 H4')):=by
 refine⟨CW xs.length Pv,⟨_,rfl,Nat.zero_le _,h0⟩,?_⟩;rintro i m ys σ H ⟨rfl,hi,hp⟩;obtain⟨h1,h2⟩:=hl i ys σ H hi hp;refine⟨h2,?_⟩;by_cases hlt:i<xs.length
 ·refine .inr ⟨⟨xs,xs[i],h1,List.getElem?_eq_getElem hlt⟩,?_⟩;rintro x H3 ⟨rfl,hx⟩;exact hs i ys x σ _ hlt (hx xs h1) hp
 ·have e:i=xs.length:=by lia
  subst e;exact .inl ⟨⟨xs,h1,Nat.le_refl _⟩,hd ys σ H hp⟩
end L2
namespace Srd
open PySem PyProof.Rows Srt PySem.W
abbrev Pr:=Int×Int
def pLt:Pr->Pr->Bool:=ZiM (fun a b:Int=>decide (a<b)) fun a b:Int=>decide (a<b)
theorem Zdd:Sto pLt:=Zcg.lex Zcg
def IsP(h:Heap)(v:Value)(q:Pr):Prop := ∃a o t u n,v=.ref a/\h.get? a=some o/\o.cls=.type "tuple" /\ o.data=.seq #[.int q.1 t,.int q.2 u] n
theorem IsP.inj{h:Heap}{v:Value}{q q':Pr}(x:IsP h v q)(y:IsP h v q'):q=q':=by
 obtain⟨a,o,t,u,n,rfl,h1,_,h3⟩:=x;obtain⟨a',o',t',u',n',e,h1',_,h3'⟩:=y;cases e;rw[h1] at h1';cases h1';rw[h3] at h3';obtain⟨q1,q2⟩:=q;obtain⟨r1,r2⟩:=q';simp only[Data.seq.injEq,Array.mk.injEq,List.cons.injEq,Value.int.injEq,and_true] at h3';obtain⟨⟨⟨e1,_⟩,⟨e2,_⟩⟩,_⟩:=h3';rw[e1,e2]
theorem IsP.keep{h h':Heap}{v:Value}{q:Pr}(x:IsP h v q)(k:∀b o,h.get? b=some o->h'.get? b=some o):IsP h' v q:=by
 obtain⟨a,o,t,u,n,rfl,h1,r⟩:=x;exact⟨a,o,t,u,n,rfl,k _ _ h1,r⟩
open Classical in
noncomputable def kpr(h:Heap)(v:Value):Pr:=if x:∃q,IsP h v q then x.choose else(0,0)
theorem ZeV{h:Heap}{v:Value}{q:Pr}(x:IsP h v q):kpr h v=q:=by
 unfold kpr;rw[dif_pos ⟨q,x⟩];exact(Exists.choose_spec (⟨q,x⟩:∃q,IsP h v q)).inj x
section
variable{prog:Program}{w:World}{A:Around}{s:Shared}
theorem Zhe{h:Heap}:∀{vs:List Value},(∀v∈vs,∃q,IsP h v q)->∃fs,KatTups h vs fs/\fs.length=vs.length/\∀f∈fs,∃i t,f=.int i t
 | [],_=>⟨[],trivial,rfl,fun _ h=>nomatch h⟩
 | v::vs,hv=>by
  obtain⟨q,a,o,t,u,n,rfl,ho,hc,hd⟩:=hv v (List.mem_cons_self ..);obtain⟨fs,kt,hl,hf⟩:=Zhe (vs:=vs) fun x hx=>hv x (List.mem_cons_of_mem _ hx);refine⟨.int q.1 t::fs,KatTups.cons ho hc hd rfl kt,by simp[hl],fun f hm=>?_⟩;rcases List.mem_cons.mp hm with rfl|hm
  ·exact⟨_,t,rfl⟩
  ·exact hf f hm
theorem Zcz{h0:Heap}{vs:List Value}(hv:∀v∈vs,∃q,IsP h0 v q)(k0:∀b o,h0.get? b=some o->s.heap.get? b=some o)(h2:2<=vs.length):Zbf prog w A (fun u v=>pLt (kpr h0 u) (kpr h0 v)) vs s:=by
 have hv':∀v∈vs,∃q,IsP s.heap v q:=fun v hm=>let ⟨q,x⟩:=hv v hm;⟨q,x.keep k0⟩;obtain⟨fs,k,hl,hf⟩:=Zhe hv';refine⟨tuples' true,fun Q E hq=>?_,?_⟩
 ·refine kat_kind (T:=.type "int") k (by lia) (fun v hm=>?_) rfl hq;obtain⟨i,t,rfl⟩:=hf v hm;exact Looks.of_pure rfl
 ·intro x y hx hy E;rw[pairsOf_toList] at hx hy;obtain⟨q,xq⟩:=hv _ (mem_zip_self hx).2;obtain⟨q',yq⟩:=hv _ (mem_zip_self hy).2;have e1:(fun x y:Keyed=>pLt (kpr h0 x.1) (kpr h0 y.1)) x y=pLt q q':=by
   show pLt (kpr h0 x.1) (kpr h0 y.1)=_;have hx1:=(mem_zip_self hx);have hy1:=(mem_zip_self hy);rw[ZeV xq,ZeV yq]
  rw[e1];obtain⟨a,o,t,u,n,e,ho,hc,hd⟩:=xq.keep k0;obtain⟨a',o',t',u',n',e',ho',hc',hd'⟩:=yq.keep k0;rw[e,e'];obtain⟨q1,q2⟩:=q;obtain⟨r1,r2⟩:=q';refine kat_lt ho hd ho' hd' ?_;have unf:pLt (q1,q2) (r1,r2)=(decide (q1<r1) || (decide (q1=r1)&&decide (q2<r2))):=rfl;rw[unf];refine kat_cons (wpAny_eqBool_int (kat_go (fun c1=>kat_yes ?_) (fun c1=>kat_no ?_)))
  ·have c1':q1=r1:=eq_of_beq c1;refine kat_cons (wpAny_eqBool_int (kat_go (fun c4=>kat_yes (kat_nil ⟨rfl,?_⟩)) (fun c4=>kat_no ?_)))
   ·have c4':q2=r2:=eq_of_beq c4;subst c1' c4';simp
   ·refine kat_one _ _ (wpAny_lt_int ⟨rfl,?_⟩);subst c1';simp
  ·refine oneLt_int ⟨rfl,?_⟩;have c1' : ¬ q1=r1:=fun z=>by rw[z] at c1;simp at c1
   simp[c1']
end
end Srd
namespace L2
open PySem PySem.Spec PyProof.Rows PySem.W Srd
def tp(q:Pr):HO:=.tup [.int q.1,.int q.2]
def pK(q:Pr):List Key:=[Sum.inl q.1,Sum.inl q.2]
def PL(H:Hp)(zs:List V)(qs:List Pr):Prop:=Paired (fun z q=>∃p,z=V.ref p/\H p=some (tp q)) zs qs
theorem PL.mem{H:Hp}:∀{zs:List V}{qs:List Pr},PL H zs qs->∀z∈zs,∃p,∃q∈qs,z=V.ref p/\H p=some (tp q)
 | _,_,.cons ⟨p,e1,e2⟩ t,z,hz=>by
  rcases List.mem_cons.mp hz with rfl|hz
  ·exact⟨p,_,List.mem_cons_self ..,e1,e2⟩
  ·obtain⟨p,q,hq,r⟩:=PL.mem t z hz;exact⟨p,q,List.mem_cons_of_mem _ hq,r⟩
theorem PL.length{H:Hp}:∀{zs:List V}{qs:List Pr},PL H zs qs->zs.length=qs.length
 | _,_,.nil=>rfl
 | _,_,.cons _ t=>by rw[List.length_cons,List.length_cons,PL.length t]
theorem PL.get{H:Hp}:∀{zs:List V}{qs:List Pr},PL H zs qs->∀(i:Nat) z,zs[i]?= some z->∃p q,qs[i]?= some q/\z=V.ref p/\H p=some (tp q)
 | _,_,.cons ⟨p,e1,e2⟩ t,i,z,hz=>by
  cases i with
  | zero =>
   injection hz with hz;subst hz;exact⟨p,_,rfl,e1,e2⟩
  | succ i=>exact PL.get t i z hz
theorem PL.keep{H H':Hp}:∀{zs:List V}{qs:List Pr},PL H zs qs->(∀b xs,H b=some (.tup xs)->H' b=some (.tup xs))->PL H' zs qs
 | _,_,.nil,_=>.nil
 | _,_,.cons ⟨p,e1,e2⟩ t,k=>.cons ⟨p,e1,k _ _ e2⟩ (PL.keep t k)
theorem PL.snoc{H:Hp}{q:Pr}{p:Addr}(e:H p=some (tp q)):∀{zs:List V}{qs:List Pr},PL H zs qs->PL H (zs ++ [.ref p]) (qs ++ [q])
 | _,_,.nil=>.cons ⟨p,rfl,e⟩ .nil
 | _,_,.cons r t=>.cons r (PL.snoc e t)
theorem Zge{P:Program}{w:World}{H:Hp}{h:Heap}{t:Addr}{q:Pr}(ok:HOk P w H h)(e:H t=some (tp q)):IsP h (.ref t) q:=by
 obtain⟨_,us,rus,o,ho,hc',n,hd⟩:=ok t _ e;obtain⟨u1,us,rfl,r1,rus⟩:=Vals.inv rus;obtain⟨u2,us,rfl,r2,rus⟩:=Vals.inv rus;obtain rfl:=Vals.end_ rus;obtain⟨t1,rfl⟩:=r1;obtain⟨t2,rfl⟩:=r2;exact⟨t,o,t1,t2,n,rfl,ho,hc',hd⟩
theorem ZhK{P:Program}{w:World}{H:Hp}{h0:Heap}(ok:HOk P w H h0){ys:List V}{its:List Value}{qs:List Pr}(rv:Vals ys its)(ql:PL H ys qs):∀us:List Value,(∀u∈us,u∈its)->∃zs,Vals zs us/\PL H zs (us.map (kpr h0))
 | [],_=>⟨[],.nil,.nil⟩
 | u::us,h=>by
  obtain⟨y,hy,ry⟩:=ZbH rv u (h u (List.mem_cons_self ..));obtain⟨zs,rz,hz⟩:=ZhK ok rv ql us fun x hx=>h x (List.mem_cons_of_mem _ hx);obtain⟨t,q,_,rfl,e2⟩:=ql.mem y hy;have hu:u=Value.ref t:=ry;subst hu;exact⟨_,.cons ry rz,.cons ⟨t,rfl,by rw[ZeV (Zge ok e2)];exact e2⟩ hz⟩
theorem Zhp{P:Program}{w:World}{H:Hp}{h0:Heap}(ok:HOk P w H h0):∀{ys:List V}{its:List Value}{qs:List Pr},Vals ys its->PL H ys qs->its.map (kpr h0)=qs
 | _,_,_,.nil,.nil=>rfl
 | _,_,_,.cons (b:=u) r rr,.cons ⟨p,e1,e2⟩ t=>by
  subst e1;have hu:u=Value.ref p:=r;subst hu;rw[List.map_cons,Zhp ok rr t,ZeV (Zge ok e2)]
theorem Zj4{H:Hp}{kvs:List (List Key×V)}{xs:List (List Key×Addr×Value)}(h:Paired (fun(p:List Key×V)(q:List Key×Addr×Value)=>p.1=q.1/\H q.2.1=some (.tup (p.1.map kV))/\RelV p.2 q.2.2) kvs xs):∀{ps:List Pr},kvs.map (·.1)=ps.map pK->∃ys,Vals ys (xs.map fun x=>Value.ref x.2.1)/\PL H ys ps:=by
 induction h with
 | nil =>
  intro ps e;cases ps with
  | nil=>exact⟨[],.nil,.nil⟩
  | cons n ns=>cases e
 | @cons p q l m r t ih =>
  intro ps e;cases ps with
  | nil=>cases e
  | cons n ns =>
   rw[List.map_cons,List.map_cons] at e;obtain⟨e1,e2⟩:=List.cons.inj e;obtain⟨ys,h1,h2⟩:=ih e2;refine⟨.ref q.2.1::ys,.cons rfl h1,.cons ⟨q.2.1,rfl,?_⟩ h2⟩;have h3:=r.2.1;rw[e1] at h3;exact h3
section
variable{X:Cx}
theorem Zdx(hc:X.calm=true):Zb2 X (.builtin "sorted") (fun xs H Q=>∃(d:Addr)(kvs:List (List Key×V))(ps:List Pr),xs=[.ref d]/\H d=some (.dT kvs)/\kvs.length<=90000/\kvs.map (·.1)=ps.map pK/\∀(r:Addr)(zs:List V)(ms:List Pr),H r=none->ms.Perm ps->ms.Pairwise (fun a b=>pLt b a=false)->PL H zs ms->Q (.ref r) (upd H r (.lst zs))):=by
 intro pins s σ H xs us Q I r h;obtain⟨d,kvs,ps,rfl,hd,hlen,hkn,q⟩:=h;obtain⟨u,rfl,rx⟩:=vals1 r;obtain rfl:u=.ref d:=rx;obtain⟨z,lo,xs,rel,o,es,ep,ho,hx,hdat,hes,hnd⟩:=(show Z4 X.prog X.w H s.heap d (.dT kvs) from I.hok d _ hd);obtain⟨ys,rv,pl⟩:=Zj4 rel hkn;have hek:es.toList.map (·.key)=xs.map fun x=>Value.ref x.2.1:=by
  rw[hes,List.map_map];rfl
 have hxl:kvs.length=xs.length:=rel.length;have hel:es.size=xs.length:=by rw[<- Array.length_toList,hes,List.length_map]
 refine Z8 (lv:=fun u v=>pLt (kpr s.heap u) (kpr s.heap v)) (C:=fun ys=>ys=xs.map fun x=>Value.ref x.2.1) (Zdd.swo (kpr s.heap)) (fun Q' E' hq=>?_) (fun ys' h6 tk6 d6 hC k6 h2l=>?_) fun pa ys' out h3 tk3 d3 c hC hperm hso k3 e3 hle hos=>?_
 ·refine ZcQ (Zd7 lo) (I.ok.hd hc) (⟨o,ho,hx,hdat⟩:ZfP s.heap d es ep) (by rw[sizeLine_eq];lia) fun acc h' tk kp hit hle=>?_;have hacc:acc.toList=es.toList.map (·.key):=by
   refine List.ext_getElem? fun j=>?_;rw[Array.getElem?_toList,List.getElem?_map,Array.getElem?_toList];cases hj:acc[j]? with
   | none =>
    have h3:acc.size<=j:=Array.getElem?_eq_none_iff.mp hj;rw[hit.1] at h3;rw[Array.getElem?_eq_none h3];rfl
   | some v =>
    obtain⟨e,h1,rfl⟩:=hit.2 j v hj;rw[h1];rfl
  rw[hacc,hek];exact hq _ h' tk s.drawn kp rfl (by rw[List.length_map];lia) hle
 ·subst hC;refine Zcz (h0:=s.heap) (fun v hv=>?_) k6 h2l;obtain⟨y,hy,ry⟩:=ZbH rv v hv;obtain⟨t,q1,_,rfl,e2⟩:=pl.mem y hy;obtain rfl:v=Value.ref t:=ry;exact⟨q1,Zge I.hok e2⟩
 ·subst hC;obtain⟨zs,rz,hzq⟩:=ZhK I.hok rv pl out.toList fun u hu=>hperm.mem_iff.mp hu;have hzl:zs.length=out.size:=rz.length.trans (Array.length_toList ..);have hol:out.size=xs.length:=by
   have:=hperm.length_eq;rw[Array.length_toList,List.length_map] at this;exact this
  have I2:=I.laid (h':=h3) (t':=tk3) (a:=pa) (o:=.lst zs) (fun b o e=>k3 b o e) hle (show Z4 X.prog X.w _ h3 _ (.lst zs) from⟨by rw[sizeLine_eq];lia,out.toList,c,rz,e3⟩);refine⟨.ref pa,_,I2.draws (d:=d3),rfl,q pa zs _ (I.hok.fresh hle) ?_ (List.pairwise_map.mpr hso) hzq⟩;rw[<- Zhp I.hok rv pl];exact hperm.map _
end
theorem Zgt{P:Program}{w:World}{kvs:List (Key×V)}{ps:List (Key×Value)}(h:KV kvs ps):∀{es:List DictEntry},PySem.Pairs (Zn P w) es ps->Vals (kvs.map fun p=>kV p.1) (es.map (·.key)):=by
 have h':Paired (fun(p:Key×V)(q:Key×Value)=>p.1=q.1/\RelV p.2 q.2) kvs ps:=h;clear h
 induction h' with
 | nil =>
  intro es h2;cases h2;exact .nil
 | @cons a b l m r t ih =>
  intro es h2;cases h2 with
  | cons h1 h2 h3 =>
   refine .cons ?_ (ih h3);rw[<- r.1] at h1;have h1':ZeG a.1 _=true:=h1;rcases ZV h1' with⟨i,t,he,hk⟩|⟨x,t,he,hk⟩
   ·show RelV (kV a.1) _;rw[he];exact⟨t,hk⟩
   ·show RelV (kV a.1) _;rw[he];exact⟨t,hk⟩
def KL(H:Hp)(ys:List V)(ks:List (List Key)):Prop:=Paired (fun z k=>∃b,z=V.ref b/\H b=some (.tup (k.map kV))) ys ks
theorem ZjT{H:Hp}{kvs:List (List Key×V)}{xs:List (List Key×Addr×Value)}(h:Paired (fun(p:List Key×V)(q:List Key×Addr×Value)=>p.1=q.1/\H q.2.1=some (.tup (p.1.map kV))/\RelV p.2 q.2.2) kvs xs):∃ys,Vals ys (xs.map fun x=>Value.ref x.2.1)/\KL H ys (kvs.map (·.1)):=by
 induction h with
 | nil=>exact⟨[],.nil,.nil⟩
 | @cons p q l m r t ih =>
  obtain⟨ys,h1,h2⟩:=ih;exact⟨.ref q.2.1::ys,.cons rfl h1,.cons ⟨q.2.1,rfl,r.2.1⟩ h2⟩
theorem KL.quads{H:Hp}:∀{ys:List V}{qs:List Qd},KL H ys (qs.map kOf)->QL H ys qs
 | [],[],_=>.nil
 | _::_,_::_,.cons ⟨b,e1,e2⟩ t=>.cons ⟨b,e1,e2⟩ (KL.quads t)
section
variable{X:Cx}
theorem ZdB{es:Array DictEntry}{acc:Array Value}(hit:ItemsOf (fun i v=>∃e,es[i]?= some e/\v=e.key) acc es.size):acc.toList=es.toList.map (·.key):=by
 refine List.ext_getElem? fun j=>?_;rw[Array.getElem?_toList,List.getElem?_map,Array.getElem?_toList];cases hj:acc[j]? with
 | none =>
  have h3:acc.size<=j:=Array.getElem?_eq_none_iff.mp hj;rw[hit.1] at h3;rw[Array.getElem?_eq_none h3];rfl
 | some v =>
  obtain⟨e,h1,rfl⟩:=hit.2 j v hj;rw[h1];rfl
theorem ZdV(hc:X.calm=true):Zb2 X (.type "list") (fun xs H Q=>∃(d:Addr)(kvs:List (List Key×V)),xs=[.ref d]/\H d=some (.dT kvs)/\∀l ys,H l=none->KL H ys (kvs.map (·.1))->Q (.ref l) (upd H l (.lst ys))):=by
 intro pins s σ H xs us Q I r h;obtain⟨d,kvs,rfl,hd,q⟩:=h;obtain⟨u,rfl,rx⟩:=vals1 r;obtain rfl:u=.ref d:=rx;obtain⟨hl,lo,xs,rel,o,es,ep,ho,hx,hdat,hes,hnd⟩:=(show Z4 X.prog X.w H s.heap d (.dT kvs) from I.hok d _ hd);obtain⟨ys,rv,kl⟩:=ZjT rel;have hek:es.toList.map (·.key)=xs.map fun x=>Value.ref x.2.1:=by
  rw[hes,List.map_map];rfl
 have hxl:kvs.length=xs.length:=rel.length;have hel:es.size=xs.length:=by rw[<- Array.length_toList,hes,List.length_map]
 have hyl:=rv.length;rw[List.length_map] at hyl;refine kdl_call (Zd7 lo) (I.ok.hd hc) (⟨o,ho,hx,hdat⟩:ZfP s.heap d es ep) (by rw[hel,<- hxl];exact hl) fun h' tk acc c k e hit=>?_;have hacc:=ZdB hit;have I2:=I.laid (h':=h') (t':=tk) (a:=s.heap.objs.size) (o:=.lst ys) k (Nat.le_refl _) (show Z4 X.prog X.w _ h' _ (.lst ys) from⟨by rw[hyl,<- hxl];exact hl,acc.toList,c,by rw[hacc,hek];exact rv,e⟩);exact⟨.ref s.heap.objs.size,_,I2,rfl,q _ _ (I.hok.fresh (Nat.le_refl _)) kl⟩
end
section
variable{prog:Program}{w:World}{A:Around}{I S:Addr}{fp wr:List Addr}{n:Nat}{P:Nat->Value->Prop}{St:Nat->Heap->Prop}{R:Result->Shared->Prop}{res:Value}
theorem Zcy(W:Walks prog w A.in1 I fp wr n P St)(hS:S∉fp)(pre:Array Value)(hz:pre.size+n<=sizeLine):∀(k i:Nat)(s:Shared)(acc:Array Value)(c:Nat),n-i=k->i<=n->St i s.heap->s.heap.get? S=some { cls:=.type "list",data:=.seq (pre++acc) c }->ItemsOf P acc i ->
  (∀(h':Heap)(tk:Nat)(acc':Array Value)(c':Nat),(∀b o,b≠S->b∉wr->s.heap.get? b=some o->h'.get? b=some o)->h'.get? S=some { cls:=.type "list",data:=.seq (pre++acc') c' }->ItemsOf P acc' n->R (.ok (.ret res)) { s with heap:=h',toks:=tk }) ->
  codeAny (model prog w) A (.builtin "list.extend.loop" ⟨[.ref S,.ref I,res],[]⟩) R s
 | k,i,s,acc,c,hk,hi,hst,hl,hit,q=>by
  refine codeAny_builtin F.entry_extend_loop ?_;unfold Builtin.«list.extend.loop»;refine wpAny_bind ?_;have hw:S∉wr:=fun z=>hS (W.sub _ z);by_cases hlt:i<n
  ·refine W.item i s _ _ hlt hst fun v h' tk hP hst' hkeep=>?_;have hl':=hkeep _ _ hw hl;have hsz:(pre++acc).size=pre.size+i:=by rw[Array.size_append,hit.1]
   refine wpAny_bind (wpAny_updateSeq (s:={ s with heap:=h',toks:=tk }) hl' rfl ?_ (by lia) (by rw[Array.size_push];lia));refine wpAny_pure ⟨Code.quiet_builtin _ (by decide +kernel),?_⟩;obtain⟨c2,e2⟩:∃c2,(h'.update S (Obj.mapSeq fun x=>x.push v)).get? S=some { cls:=.type "list",data:=.seq (pre++acc.push v) c2 }:=by
    refine⟨if(((pre++acc).push v).size == (pre++acc).size)=true then c else c+1,(Heap.get?_update_self _ hl' rfl).trans ?_⟩
    rw[Array.append_push];rfl
   refine Zcy W hS pre hz (k-1) (i+1) { s with heap:=h'.update S (Obj.mapSeq fun x=>x.push v),toks:=tk } (acc.push v) c2 (by lia) hlt (W.frame (i+1) h' _ hst' fun b hb o e=>?_) e2 ⟨by rw[Array.size_push,hit.1],fun j u hj=>?_⟩ fun h2 tk2 acc2 c3 hk2 e3 hit2=>q h2 tk2 acc2 c3 (fun b o hb hbw e=>?_) e3 hit2
   ·rw[Heap.get?_update_other _ _ (show S≠b from fun z=>hS (by rw[z];exact hb))];exact e
   ·rw[Array.getElem?_push] at hj
    split at hj
    ·rename_i ej
     cases hj;rw[ej,hit.1];exact hP
    ·exact hit.2 j u hj
   ·refine hk2 b o hb hbw ?_;show(h'.update S _).get? b=some o;rw[Heap.get?_update_other _ _ (show S≠b from fun z=>hb z.symm)];exact hkeep b o hbw e
  ·have ei:i=n:=by lia
   subst ei;refine W.done s _ _ hst fun h' tk hkeep=>?_;exact wpAny_pure (q h' tk acc c (fun b o _ hbw e=>hkeep b o hbw e) (hkeep _ _ hw hl) hit)
end
theorem Ze6(l d:Addr)(items:Array Value)(n:Nat)(es:Array DictEntry)(ep:Nat)(lo:(d == sysModules)=false)(hne:l≠d)(hsz:items.size+es.size<sizeLine) :
  Meets (Builtin.«list.extend» ⟨[.ref l,.ref d],[]⟩) (fun A R s=>A.handled=none/\s.heap.get? l=some { cls:=.type "list",data:=.seq items n }/\ZfP s.heap d es ep/\∀h' tk acc c,(∀b o,b≠l->s.heap.get? b=some o->h'.get? b=some o)->h'.get? l=some { cls:=.type "list",data:=.seq (items++acc) c }->ItemsOf (fun i v=>∃e,es[i]?= some e/\v=e.key) acc es.size->R (.ok (.ret .none)) { s with heap:=h',toks:=tk }):=by
 intro prog w A R s h;obtain⟨hh,hl,hr,q⟩:=h;have K:=Zd7 (prog:=prog) (w:=w) (es:=es) (ep:=ep) lo;obtain⟨oI,St,hit,W,st0⟩:=K.iter A.in1 s hh hr;have ht:=K.type s hr;have hlt:=Heap.lt_size hl;unfold Builtin.«list.extend»;change wpAny _ A.in1 (Builtin.List.listExtendWith (.ref l) (.ref d) .none) _ _ s;unfold Builtin.List.listExtendWith;refine wpAny_bind (wpAny_typeOf ht ?_);have h1:(Builtin.List.listSameRef (.ref l) (.ref d) || (Value.type "dict" == Value.type "list") || (Value.type "dict" == Value.type "tuple"))=false:=by
  have:Builtin.List.listSameRef (.ref l) (.ref d)=(l == d):=rfl;rw[this,beq_eq_false_iff_ne.mpr hne];rfl
 rw[if_neg (by rw[h1];decide)];refine wpAny_bind (hit _ _ ?_);refine wpAny_bind (wpAny_holding (K.hint _ _ _ _ (K.keep _ _ hr fun b _ o e=>Heap.get?_push_of_some _ e) ?_));dsimp only;rw[if_pos (by decide)];refine wpAny_bind (wpAny_rule ?_);unfold Builtin.List.listTouch;have hl1:(s.heap.push oI).get? l=some { cls:=.type "list",data:=.seq items n }:=Heap.get?_push_of_some _ hl;refine wpAny_bind (wpAny_bind (wpAny_updateSeq (s:={ s with heap:=s.heap.push oI }) hl1 rfl ?_ (by lia) (by rw[Array.size_push];lia)));have e1:((s.heap.push oI).update l (Obj.mapSeq fun x=>x.push .none)).get? l=some { cls:=.type "list",data:=.seq (items.push .none) (if((items.push Value.none).size == items.size)=true then n else n+1) }:=Heap.get?_update_self _ hl1 rfl
 have k1:∀b o,b≠l->(s.heap.push oI).get? b=some o->((s.heap.push oI).update l (Obj.mapSeq fun x=>x.push .none)).get? b=some o:=fun b o hb e=>by
  rw[Heap.get?_update_other _ _ (show l≠b from fun z=>hb z.symm)];exact e
 generalize (if((items.push Value.none).size == items.size)=true then n else n+1)=c1 at e1
 generalize (s.heap.push oI).update l (Obj.mapSeq fun x=>x.push .none)=h1 at e1 k1;refine wpAny_updateSeq (s:={ s with heap:=h1 }) e1 rfl ?_ (by rw[Array.size_push];lia) (by rw[Array.pop_push];lia);have e2:(h1.update l (Obj.mapSeq fun x=>x.pop)).get? l=some { cls:=.type "list",data:=.seq (items.push Value.none).pop (if((items.push Value.none).pop.size == (items.push Value.none).size)=true then c1 else c1+1) }:=Heap.get?_update_self _ e1 rfl
 rw[Array.pop_push] at e2;have k2:∀b o,b≠l->(s.heap.push oI).get? b=some o->(h1.update l (Obj.mapSeq fun x=>x.pop)).get? b=some o:=fun b o hb e=>by
  rw[Heap.get?_update_other _ _ (show l≠b from fun z=>hb z.symm)];exact k1 b o hb e
 generalize (if(items.size == (items.push Value.none).size)=true then c1 else c1+1)=c2 at e2
 generalize h1.update l (Obj.mapSeq fun x=>x.pop)=h2 at e2 k2;refine wpAny_pure ⟨Code.quiet_builtin _ (by decide +kernel),?_⟩;have hS:l ∉ [s.heap.objs.size,d]:=by
  simp only[List.mem_cons,List.not_mem_nil,or_false,not_or];exact⟨Nat.ne_of_lt hlt,hne⟩
 refine Zcy (res:=.none) (R:=R) W hS items (by lia) es.size 0 { s with heap:=h2 } #[] c2 rfl (Nat.zero_le _) (W.frame 0 _ h2 st0 fun b hb o e=>k2 b o (fun z=>hS (z ▸ hb)) e) (by rw[Array.append_empty];exact e2) ⟨rfl,fun j v hj=>by simp at hj⟩ fun h' tk acc c k e hi=>?_;refine q h' tk acc c (fun b o hb eb=>k b o hb ?_ (k2 b o hb (Heap.get?_push_of_some _ eb))) e hi;intro z;rw[List.mem_singleton] at z;exact absurd (Heap.lt_size eb) (by rw[z];exact Nat.lt_irrefl _)
section
variable{X:Cx}
def ZfQ:V->List V->Hp->VK->Prop:=fun x vs H Q=>∃(l d:Addr)(xs:List V)(m:List (Key×V)),x=.ref l/\vs=[.ref d]/\H l=some (.lst xs)/\H d=some (.dK m)/\xs.length+m.length<sizeLine/\Q .non (upd H l (.lst (xs++m.map fun p=>kV p.1)))
theorem ZgA(hc:X.calm=true):MtM X "list.extend" ZfQ:=by
 intro pins s σ H x vs v us Q I rx rv h;obtain⟨l,d,xs,m,rfl,rfl,hH,hD,hz,q⟩:=h;cases rx;obtain⟨u,rfl,ru⟩:=rv.one;cases ru;obtain⟨z,its,n,r,hl,e⟩:=I.lstM hH;obtain⟨zl,lo,ws,kv,o,es,ep,ho,hx,hdat,hko,hpr,hnd⟩:=ZiN I.hok hD;have hvals:=Zgt kv hpr;have hes:es.size=m.length:=by
  have:=hvals.length
  simpa using this.symm
 have hne:l≠d:=fun z=>by
  rw[z,hD] at hH;cases hH
 refine call_meets F.slot_list_extend ⟨_,e,rfl⟩ F.entry_list_extend (F.args_list_extend_2 _ _)
  (Ze6 l d its.toArray n es ep lo hne (by rw[List.size_toArray,hes,<- hl];exact hz)) ⟨I.ok.hd hc,e,⟨o,ho,hx,hdat⟩,fun h' tk acc c k e' hi=>?_⟩
 have hacc:=ZdB hi;have ea:its.toArray++acc=(its++es.toList.map (·.key)).toArray:=by
  rw[<- hacc];simp
 rw[ea] at e';refine⟨.non,_,I.write (x:=l) (e:=l) (t':=tk) (by rw[hH];exact trivial) (.inl rfl) k ⟨_,e'⟩ (show Z4 X.prog X.w _ h' l (.lst (xs++m.map fun p=>kV p.1)) from⟨?_,_,c,r.append hvals,e'⟩),rfl,q⟩;rw[List.length_append,List.length_map];lia
end
end L2
namespace L2
open PySem PySem.Spec PyProof.Rows
section
variable{X:Cx}{C:Addr}{m x:Str}{ps:List Str}{j k:Nat}{sp:Sp}{o e:Expr}{es:List Expr}{ta:TE}{t:TA}{p pos apos:Pos}
theorem Zhd(G:HasC X.prog X.w X.K X.mg X.base C x ps j sp)(hr:Room k X.A)(hg:Gl X x)(ha:PA X (e::es) t)(hk:j+1<=k:=by decide)(hdb:(x == ("__debug__" : Str))=false:=by decide)
  (he:starEach (e::es) X.env=(false,eval e X.env)::starEach es X.env:=by rfl) (hpl:(backTo pos (starEach es X.env)).any (·.1)=false:=by rfl):PE X (.Call (.Name x p) (e::es) [] pos) (Zkf C sp [] E0 t):=by
 obtain⟨f,fd,F,b,M,hm⟩:=G.ex;exact ZjS M F (hr.mono hk) hg hm b .nil ZiW ha hdb he hpl
end
end L2
namespace Stg
open PySem PyProof.Rows Sts
theorem Zdy.less{prog:Program}{w:World}{h:Heap}{S:Addr}{G:List (Int×Value)->Prop}{n m:Nat}{led:Bool}(x:Zdy prog w h S G n led)(hm:∀l,G l->l.length<=m):Zdy prog w h S G m led:=by
 obtain⟨o,es,ep,t,h1,h2,h3,h4,h5,h6,h7,h8⟩:=x;exact⟨o,es,ep,t,h1,h2,h3,h4,h5,by have:=hm _ h8;rw[Array.length_toList] at this;exact this,h7,h8⟩
end Stg
namespace L2
open PySem PySem.Spec PyProof.Rows PySem.W Srd Sts Stg
section
variable{X:Cx}{e:Expr}{te:TE}{p p' pos pos':Pos}
theorem ZkT{P:Str->Prop}{l:List (Int×Value)}{D:List Str}(h:GT P l)(hD:∀k,P k->k∈D):l.length<=D.length:=by
 have hn:(l.map fun e=>Zcv e.2).Nodup:=List.pairwise_map.mpr h.1;have:=Fg.Zbl hn fun k hk=>by
  obtain⟨e,he,rfl⟩:=List.mem_map.mp hk;exact hD _ ((h.2 _).mp ⟨e,he,rfl⟩)
 rw[List.length_map] at this;exact this
def JU(P:Program)(w:World)(h0:Heap)(S:Addr)(D ns:List Str)(i:Nat)(h:Heap):Prop :=
 Zdy P w h S (fun l=>GS l/\GT (fun k=>∃j:Nat,j<i/\ns[j]?= some k) l) D.length (Zdq w)/\∀b o,b<S->h0.get? b=some o->h.get? b=some o
theorem JU.goes{P:Program}{w:World}{A:Around}{h0:Heap}{S:Addr}{items:Array Value}{D ns:List Str}(hD:∀k∈ns,k∈D)(hn:D.length<=900)(x:Vals (ns.map V.str) items.toList):Goes P w A S items (JU P w h0 S D ns) where
 keep:=fun i h h' ⟨⟨o,es,ep,t,ho,hx,hd,hE,hT,hsz,hl,hG⟩,hb⟩ k =>
  ⟨⟨o,es,ep,t,k S o (Nat.le_refl _) ho,hx,hd,hE,hT,hsz,hl,hG⟩,fun b o hlt e=>k b o (Nat.le_of_lt hlt) (hb b o hlt e)⟩
 add:=fun i v s Q E hi ⟨hS1,hb⟩ q=>by
  have hi':items.toList[i]?= some v:=by rw[Array.getElem?_toList];exact hi
  have hil:i<items.size:=(Array.getElem?_eq_some_iff.mp hi).1;obtain⟨z,hz,rz⟩:=ZbD x i v hi';rw[List.getElem?_map] at hz;obtain⟨k,hk,rfl⟩:=Option.map_eq_some_iff.mp hz;obtain⟨tk0,rfl⟩:=rz;have eP:∀m:Str,(∃j:Nat,j<i+1/\ns[j]?= some m)↔((∃j:Nat,j<i/\ns[j]?= some m)\/m=k):=fun m=>by
   constructor
   ·rintro⟨j,h1,h2⟩;by_cases c:j<i
    ·exact .inl ⟨j,c,h2⟩
    ·have:j=i:=by lia
     subst this;rw[hk] at h2;cases h2;exact .inr rfl
   ·rintro(⟨j,h1,h2⟩|rfl)
    ·exact⟨j,by lia,h2⟩
    ·exact⟨i,by lia,hk⟩
  refine ZlI (G':=fun l=>GS l/\GT (fun k=>∃j:Nat,j<i+1/\ns[j]?= some k) l) (fun l l' pp ⟨g1,g2⟩=>⟨fun e he=>g1 e (pp.mem_iff.mp he),GT.perm l l' pp g2⟩) hS1 hn (fun l ⟨hN,g1,g2⟩ hex=>⟨hN,g1,fun m=>?_⟩) (fun l x ⟨hN,g1,g2⟩ hno=>⟨fun e he=>?_,List.pairwise_cons.mpr ⟨fun e he z=>?_,g1⟩,fun m=>?_⟩) fun b h' tk _ sb hS2=>q b h' tk sb ⟨hS2.less fun l hG=>ZkT hG.2 fun k ⟨j,_,hj⟩=>hD k (List.mem_of_getElem? hj),fun b o hlt e=>(sb.2 b (Nat.ne_of_lt hlt)).trans (hb b o hlt e)⟩
  ·refine Iff.trans ?_ (Iff.trans (or_congr (g2 m) Iff.rfl) (eP m).symm);constructor
   ·exact .inl
   ·rintro(h|rfl)
    ·exact h
    ·obtain⟨e,he,h1⟩:=hex;obtain⟨i',t',h2⟩:=hN e he;rw[h2] at h1;exact⟨e,he,by rw[h2];exact Zea.mp h1⟩
  ·rcases List.mem_cons.mp he with rfl|he
   ·exact⟨k,tk0,rfl⟩
   ·exact hN e he
  ·obtain⟨i',t',h2⟩:=hN e he;have h3:=hno e he;rw[h2] at h3 z;have:i'=k:=z.symm;rw[Zea.mpr this] at h3;cases h3
  ·refine Iff.trans ?_ (Iff.trans (or_congr (g2 m) Iff.rfl) (eP m).symm);constructor
   ·rintro⟨e,he,h1⟩;rcases List.mem_cons.mp he with rfl|he
    ·exact .inr h1.symm
    ·exact .inl ⟨e,he,h1⟩
   ·rintro(⟨e,he,h1⟩|rfl)
    ·exact⟨e,List.mem_cons_of_mem _ he,h1⟩
    ·exact⟨_,List.mem_cons_self ..,rfl⟩
theorem JU.zero{P:Program}{w:World}{h0 h:Heap}{S:Addr}{D ns:List Str}(hS:h.get? S=some (Z2 w))(k:∀b o,b<S->h0.get? b=some o->h.get? b=some o):JU P w h0 S D ns 0 h :=
 ⟨⟨_,#[],0,_,hS,⟨rfl,rfl,rfl⟩,rfl,(fun _ h=>(nomatch h)),⟨rfl,rfl,.inl rfl,(by show(0:Nat)*5<7*3;decide),List.Pairwise.nil⟩,Nat.zero_le _,rfl,⟨(fun _ h=>(nomatch h)),List.Pairwise.nil,fun ks=>⟨fun⟨_,h,_⟩=>(nomatch h),fun⟨_,h,_⟩=>absurd h (Nat.not_lt_zero _)⟩⟩⟩,k⟩
def Ze5(K:PySem.W.Frag)(v:V)(H:Hp)(Q:VK):Prop :=
 ∃(l:Addr)(D ns:List Str),v=.ref l/\SqL K H l (ns.map V.str)/\(∀k∈ns,k∈D)/\D.length<=900/\∀r (ms:List Str),H r=none->ms.Pairwise (fun a b=>sLt a b=true)->(∀i,i∈ms↔i∈ns)->Q (.ref r) (upd H r (.lst (ms.map V.str)))
set_option maxHeartbeats 1000000 in
theorem Zey(hc:X.calm=true)(hu:X.A.units+200<cLine)(hg:Gl X "sorted") (hm:X.mg "sorted" = none) (hg':Gl X "set") (hm':X.mg "set" = none) (pa:PA X [e] (ZdW te Zh7))
  (hs:starEach [e] X.env=[(false,eval e X.env)]:=by rfl) (hs':starEach [.Call (.Name "set" p') [e] [] pos'] X.env=[(false,eval (.Call (.Name "set" p') [e] [] pos') X.env)]:=by rfl) :
  PE X (.Call (.Name "sorted" p) [.Call (.Name "set" p') [e] [] pos'] [] pos) (fun σ H Q=>te σ H fun v H1=>Ze5 X.K v H1 Q):=by
 intro pins s σ H Q I h;refine wpAny_Call_Name_kw (Zbp I hg hm ZbL ?_);refine PyProof.Rows.callWith_builtin1 ?_ hs' rfl;rw[hs'];refine Calls.spliced_cons ?_;refine wpAny_Call_Name_kw (Zbp I hg' hm' Zgh ?_);refine PyProof.Rows.callWith_type1 (thn (pa pos' pins s σ H (fun vs H1=>match vs with | [v]=>Ze5 X.K v H1 Q|_=>False) I h) fun us s1 ⟨vs,H1,I1,r,q⟩=>?_) hs rfl
 match vs,r,q with
 | [v],r,q =>
  obtain⟨u,rfl,ru⟩:=r.one;obtain⟨l,D,ns,rfl,hq,hD,hl9,q⟩:=q;cases ru;obtain⟨its,rv,pl,hz⟩:=I1.list hq;have hlen:=rv.length;rw[List.length_map] at hlen;refine Zby (J:=JU X.prog X.w s1.heap s1.heap.objs.size D ns) (I1.ok.hd hc) (by lia) pl.isList (fun B hB=>JU.goes hD hl9 rv) (fun h h1 h2=>JU.zero h1 h2) fun h2 tk hJ k2=>?_;refine Calls.spliced_nil ?_;have k2':∀b o,s1.heap.get? b=some o->h2.get? b=some o:=fun b o e=>k2 b o (Heap.lt_size e) e;obtain⟨⟨o,es,ep,t,ho,hx,hd,hE,hT,hsz,hled,hN,hnd,hmem⟩,hb⟩:=hJ;refine Z8 (lv:=fun u v=>sLt (Zcv u) (Zcv v)) (s:={ s1 with heap:=h2,toks:=tk }) (C:=fun ys=>ys.Perm (es.toList.map (·.2))) (Zdm.swo Zcv) (fun Q' E' hq'=>?_) (fun ys' h6 tk6 d6 hC k6 h2l=>?_) fun pa ys' out h3 tk3 d3 c hC hperm hso k3 e3 hle hos=>?_
  ·refine ZaL (I1.ok.hd hc) ho hx hd hT hled (by lia) fun ys' h' tk' d' k' hp hle=>hq' ys' h' tk' d' k' hp ?_ hle;rw[hp.length_eq,List.length_map,Array.length_toList];lia
  ·refine ZbR (fun v hv'=>?_) h2l;obtain⟨e,he,rfl⟩:=List.mem_map.mp (hC.mem_iff.mp hv');exact hN e he
  ·have hpm:out.toList.Perm (es.toList.map (·.2)):=hperm.trans hC;have hon:∀us:List Value,(∀u∈us,∃i t,u=Value.str i t)->Vals ((us.map Zcv).map V.str) us:=fun us=>by
    induction us with
    | nil=>exact fun _=>.nil
    | cons u us ih =>
     intro hu;obtain⟨i,t,rfl⟩:=hu u (List.mem_cons_self ..);exact .cons ⟨t,rfl⟩ (ih fun x hx=>hu x (List.mem_cons_of_mem _ hx))
   have rz:=hon out.toList fun u hu=>by
    obtain⟨e,he,rfl⟩:=List.mem_map.mp (hpm.mem_iff.mp hu);exact hN e he
   have hS0:s1.heap.objs.size<=pa:=Nat.le_trans (Nat.le_of_lt (Heap.lt_size ho)) hle;have I2:=I1.laid (h':=h3) (t':=tk3) (a:=pa) (o:=.lst ((out.toList.map Zcv).map V.str)) (fun b o e=>k3 b o (k2' b o e)) hS0 (show Z4 X.prog X.w _ h3 _ (.lst ((out.toList.map Zcv).map V.str)) from⟨by rw[List.length_map,List.length_map,Array.length_toList,sizeLine_eq];lia,out.toList,c,rz,e3⟩);have hmp:(out.toList.map Zcv).Perm (es.toList.map fun e=>Zcv e.2):=by
    have:=hpm.map Zcv;rw[List.map_map] at this;exact this
   refine⟨.ref pa,_,I2.draws (d:=d3),rfl,q pa _ (I1.hok.fresh hS0) (Zdm.strict (List.pairwise_map.mpr hso) (hmp.nodup_iff.mpr (List.pairwise_map.mpr hnd))) (fun i=>hmp.mem_iff.trans (Iff.trans ?_ ((hmem i).trans ?_)))⟩
   ·constructor
    ·intro hi;obtain⟨e,he,rfl⟩:=List.mem_map.mp hi;exact⟨e,he,rfl⟩
    ·rintro⟨e,he,rfl⟩;exact List.mem_map.mpr ⟨e,he,rfl⟩
   ·constructor
    ·rintro⟨j,_,h2⟩;exact List.mem_of_getElem? h2
    ·intro hi;obtain⟨j,hj⟩:=List.mem_iff_getElem?.mp hi;exact⟨j,by have:=(List.getElem?_eq_some_iff.mp hj).1;simp;lia,hj⟩
end
end L2
namespace L2
open PySem PySem.Spec PyProof.Rows
theorem ZjD{X:Cx}{K:PySem.W.Frag}{e:Expr}{f:Str}{pos:Pos}{ta:TE}(hK:X.K=K)(he:PE X e ta)(hb:attributeBase e f X.env (eval e X.env)=eval e X.env):PE X (.Attribute e f pos) (ZlC K ta f):=hK ▸ ZaM he hb
end L2
namespace Fg
open PySem L2 FgM
inductive LvQ(f:FQ):Int->Prop
 | e {x:Int}:x∈f.ts->LvQ f x
 | r {q:Srd.Qd}:q∈f.qs->LvQ f q.2.2.1->LvQ f q.2.2.2->LvQ f q.1
def ZcE(n:Nat)(S:List Int):Nat:=((List.range n).map fun k:Nat=>if(k:Int)∈S then 0 else 1).sum
theorem Zjo{g g':Nat->Nat}:∀{l:List Nat},(∀x∈l,g' x<=g x)->(l.map g').sum<=(l.map g).sum
 | [],_=>Nat.le_refl _
 | y::l,h=>by
  rw[List.map_cons,List.map_cons,List.sum_cons,List.sum_cons];have h1:=h y (List.mem_cons_self ..);have h2:=Zjo fun x hx=>h x (List.mem_cons_of_mem (a:=x) y hx);lia
theorem Zgi{g g':Nat->Nat}{k:Nat}(hs:g' k+1<=g k):∀{l:List Nat},(∀x∈l,g' x<=g x)->k∈l->(l.map g').sum+1<=(l.map g).sum
 | [],_,hk=>nomatch hk
 | y::l,h,hk=>by
  rw[List.map_cons,List.map_cons,List.sum_cons,List.sum_cons];have hy:=h y (List.mem_cons_self ..);have hl:=fun x hx=>h x (List.mem_cons_of_mem (a:=x) y hx);rcases List.mem_cons.mp hk with rfl|hk
  ·have:=Zjo hl;lia
  ·have:=Zgi hs hl hk;lia
theorem ZcK{n:Nat}{k:Int}{S:List Int}(h0:0<=k)(hk:k<(n:Int))(h:k∉S):ZcE n (S ++ [k])+1<=ZcE n S:=by
 unfold ZcE;have ek:((k.toNat:Nat):Int)=k:=Int.toNat_of_nonneg h0;refine Zgi (k:=k.toNat) ?_ (fun x _=>?_) (List.mem_range.mpr (by lia))
 ·rw[ek,if_pos (List.mem_append_right _ (List.mem_singleton.mpr rfl)),if_neg h];exact Nat.le_refl _
 ·by_cases hx:(x:Int)∈S
  ·rw[if_pos (List.mem_append_left _ hx),if_pos hx];exact Nat.le_refl _
  ·rw[if_neg hx]
   split <;> lia
theorem Zit(n:Nat)(S:List Int):ZcE n S<=n:=by
 have h:∀l:List Nat,(l.map fun k:Nat=>if(k:Int)∈S then 0 else 1).sum<=l.length:=by
  intro l
  induction l with
  | nil=>exact Nat.le_refl _
  | cons a l ih =>
   rw[List.map_cons,List.sum_cons,List.length_cons]
   split <;> lia
 have:=h (List.range n);rw[List.length_range] at this;exact this
def PT(H:Hp)(ys:List V)(es:List Int):Prop:=Paired (fun(y:V)(e:Int)=>∃t,y=V.ref t/\H t=some (.tup [.int e,.bl true])) ys es
theorem PT.keep{H H':Hp}:∀{ys:List V}{es:List Int},PT H ys es->(∀b xs,H b=some (.tup xs)->H' b=some (.tup xs))->PT H' ys es
 | _,_,.nil,_=>.nil
 | _,_,.cons ⟨p,e1,e2⟩ t,k=>.cons ⟨p,e1,k _ _ e2⟩ (PT.keep t k)
theorem PT.snoc{H:Hp}{e:Int}{p:Addr}(h:H p=some (.tup [.int e,.bl true])):∀{ys:List V}{es:List Int},PT H ys es->PT H (ys ++ [.ref p]) (es ++ [e])
 | _,_,.nil=>.cons ⟨p,rfl,h⟩ .nil
 | _,_,.cons r t=>.cons r (PT.snoc h t)
theorem PT.length{H:Hp}:∀{ys:List V}{es:List Int},PT H ys es->ys.length=es.length
 | _,_,.nil=>rfl
 | _,_,.cons _ t=>by rw[List.length_cons,List.length_cons,PT.length t]
def kB(e:Int):Key×V:=(Sum.inl e,V.bl true)
theorem PT.pairs{H:Hp}:∀{ys:List V}{es:List Int},PT H ys es->Paired (fun(y:V)(kv:Key×V)=>∃t,y=.ref t/\H t=some (.tup [kV kv.1,kv.2])) ys (es.map kB)
 | _,_,.nil=>.nil
 | _,_,.cons ⟨p,e1,e2⟩ t=>.cons ⟨p,e1,e2⟩ (PT.pairs t)
def ZfN(S:List Int)(x:Int):List Int:=if x∈S then S else S ++ [x]
theorem ZbJ{S:List Int}{x y:Int}:y∈ZfN S x↔y∈S\/y=x:=by
 unfold ZfN
 split
 ·rename_i h
  exact⟨.inl,fun z=>z.elim id fun z=>z ▸ h⟩
 ·rw[List.mem_append,List.mem_singleton]
theorem ZiF{n:Nat}{S:List Int}{x:Int}(h0:0<=x)(h1:x<(n:Int)):(ZfN S x).length+ZcE n (ZfN S x)<=S.length+ZcE n S:=by
 unfold ZfN
 split
 ·exact Nat.le_refl _
 ·rename_i h
  have:=ZcK h0 h1 h;rw[List.length_append,List.length_singleton];lia
theorem Zf0:∀(es:List Int)(m:List (Key×V))(S:List Int),m.map (·.1)=S.map Sum.inl->∃S':List Int,((es.map kB).foldl (fun m kv=>putK m kv.1 kv.2) m).map (·.1)=S'.map Sum.inl/\∀x,x∈S'↔x∈S\/x∈es
 | [],m,S,h=>⟨S,h,fun x=>⟨.inl,fun z=>z.elim id fun z=>nomatch z⟩⟩
 | e::es,m,S,h=>by
  obtain⟨S',h1,h2⟩:=Zf0 es (putK m (Sum.inl e) (V.bl true)) (ZfN S e) (DI.put h e (V.bl true));refine⟨S',h1,fun x=>(h2 x).trans ?_⟩;rw[ZbJ,List.mem_cons,or_assoc]
theorem ZaU{m:List (Key×V)}{S:List Int}(h:m.map (·.1)=S.map Sum.inl):m.length=S.length:=by
 have:=congrArg List.length h
 simpa using this
def Zdt(qs:List Srd.Qd)(S:List Int):Prop := ∀q∈qs,q.2.2.1∈S->q.2.2.2∈S->q.1∈S
theorem ZfW{f:FQ}{S:List Int}(he:∀e∈f.ts,e∈S)(hs:Zdt f.qs S){k:Int}(h:LvQ f k):k∈S:=by
 induction h with
 | e h=>exact he _ h
 | r h _ _ h1 h2=>exact hs _ h h1 h2
abbrev Pr:=Srd.Pr
abbrev ZhO(l:List Pr):Prop:=l.Pairwise (fun a b=>Srd.pLt a b=true)
structure OkR(f:FQ):Prop where
 n0:0<=f.n
 n8:f.n<=64
 hs:Zjb f.hs
 ts:Zjb f.ts
 qs:Zkk f.qs
 hb:IB f.n f.hs
 tb:IB f.n f.ts
 qb:QB f.n f.qs
 hl:f.hs.length<=70
 tl:f.ts.length<=70
 ql:f.qs.length<=100
 lt:∀q∈f.qs,q.2.1≠SL
def ZfF(K:PySem.W.Frag):Sp:=fun vs H Q _=>∃(a:Addr)(f:FQ),vs=[.ref a]/\FmQ H a f/\OkR f/\∀(d:Addr)(S:List Int)(H':Hp),Zj H H'->H d=none->DI H' d S->S.length<=200->(∀x,x∈S↔LvQ f x)->Q (.ref d) H'
def ROk(f:FQ)(R:List Srd.Qd):Prop := ∀q,q∈R↔q∈f.qs/\LvQ f q.2.2.1/\LvQ f q.2.2.2
def rlA(A:List Int)(qs:List Srd.Qd):List Srd.Qd:=qs.filter fun q=>decide (q.2.2.1∈A)&&decide (q.2.2.2∈A)
theorem Zjp{f:FQ}{A:List Int}(h:∀x,x∈A↔LvQ f x):ROk f (rlA A f.qs):=fun q=>by
 unfold rlA;rw[List.mem_filter,Bool.and_eq_true,decide_eq_true_eq,decide_eq_true_eq,h,h]
def pr2(q:Srd.Qd):Pr:=(q.2.2.1,q.2.2.2)
def Zcq(R:List Srd.Qd)(k:Int)(t:Str):List Pr:=(R.filter fun q=>decide (q.1=k)&&decide (q.2.1=t)).map pr2
theorem ZaS{R:List Srd.Qd}{k:Int}{t:Str}{p:Pr}:p∈Zcq R k t↔(k,t,p.1,p.2)∈R:=by
 unfold Zcq;rw[List.mem_map];constructor
 ·rintro⟨⟨q1,q2,q3,q4⟩,hq,rfl⟩;obtain⟨h1,h2⟩:=List.mem_filter.mp hq;rw[Bool.and_eq_true,decide_eq_true_eq,decide_eq_true_eq] at h2;obtain⟨e1,e2⟩:=h2;have e1:q1=k:=e1;have e2:q2=t:=e2;subst e1 e2;exact h1
 ·intro h;refine⟨_,List.mem_filter.mpr ⟨h,?_⟩,rfl⟩;rw[decide_eq_true rfl,decide_eq_true rfl];rfl
theorem ZhM(R:List Srd.Qd)(q:Srd.Qd)(k:Int)(t:Str):Zcq (R ++ [q]) k t=Zcq R k t++if q.1=k/\q.2.1=t then [pr2 q] else []:=by
 unfold Zcq;rw[List.filter_append,List.map_append]
 congr 1
 rw[List.filter_cons];by_cases h:q.1=k/\q.2.1=t
 ·rw[if_pos (by rw[decide_eq_true h.1,decide_eq_true h.2];rfl),if_pos h];rfl
 ·rw[if_neg (by rw[Bool.and_eq_true,decide_eq_true_eq,decide_eq_true_eq];exact h),if_neg h];rfl
theorem Zi9(R:List Srd.Qd)(k:Int)(t:Str):(Zcq R k t).length<=R.length:=by
 unfold Zcq;rw[List.length_map];exact List.length_filter_le ..
def dup(x:Int):Pr:=(x,x)
def Bgs(R:List Srd.Qd)(l:List Pr)(w:Str)(x:Int):Prop := ∃p∈l,∃r,(p.2,w,x,r)∈R
def Edd(ts:List Int)(l:List Pr)(b:Int):Prop := ∃n,(b,n)∈l/\n∈ts
def Shu(ts:List Int)(R:List Srd.Qd)(l1 l:List Pr)(w:Str)(p:Pr):Prop := ∃n i,(p.1,n)∈l1/\(n,w,i,p.2)∈R/\Edd ts l i
inductive Stp(ts:List Int)(R:List Srd.Qd):List (List Pr)->List Str->Str->List (List Pr)->List Str->Prop
 | tag {lv:List (List Pr)} {l:List Pr} {tg:List Str} {w:Str} {ks:List Int}:w≠SL->Zjb ks->(∀x,x∈ks↔Bgs R l w x)->ks ≠ []->Stp ts R (lv ++ [l]) tg w ((lv ++ [l]) ++ [ks.map dup]) (tg ++ [w])
 | fin {lv:List (List Pr)} {l1 l l2:List Pr} {tg:List Str} {w:Str}:(∃b,Edd ts l b)->ZhO l2->(∀p,p∈l2↔Shu ts R l1 l w p)->Stp ts R ((lv ++ [l1]) ++ [l]) (tg ++ [w]) SL (lv ++ [l2]) tg
def Nst(ts:List Int)(R:List Srd.Qd)(l:List Pr)(tg:List Str)(w:Str):Prop:=(w≠SL/\∀x,¬ Bgs R l w x)\/(w=SL/\(tg=[]\/∀b,¬ Edd ts l b))
def Gng(ts:List Int)(R:List Srd.Qd)(l:List Pr)(tg:List Str)(w:Str):Prop:=(w=SL/\tg ≠ []/\∃b,Edd ts l b)\/∃p∈l,∃i r,(p.2,w,i,r)∈R
structure RdOk(n:Int)(lv:List (List Pr))(tg:List Str):Prop where
 len:lv.length=tg.length+1
 ri:∀l∈lv,ZhO l
 bd:∀l∈lv,∀p∈l,(0<=p.1/\p.1<n)/\0<=p.2/\p.2<n
theorem Zg9{a b:Pr}:Srd.pLt a b=true↔a.1<b.1\/(a.1=b.1/\a.2<b.2):=by
 simp only[Srd.pLt,Srd.ZiM,Bool.or_eq_true,Bool.and_eq_true,decide_eq_true_eq]
theorem Zdk{ks:List Int}(h:Zjb ks):ZhO (ks.map dup):=List.pairwise_map.mpr (h.imp fun hab=>Zg9.mpr (.inl hab))
theorem Zfq{l:List Pr}(h:ZhO l):l.Nodup:=h.imp fun{a b} hab e=>by
 rw[Zg9,e] at hab;lia
theorem RdOk.stp{f:FQ}{R:List Srd.Qd}{lv lv':List (List Pr)}{tg tg':List Str}{w:Str}(h:RdOk f.n lv tg)(hR:QB f.n R)(s:Stp f.ts R lv tg w lv' tg'):RdOk f.n lv' tg':=by
 obtain⟨h1,h2,h3⟩:=h;cases s with
 | @tag lv l tg w ks hw r m e =>
  refine⟨?_,fun x hx=>?_,fun x hx p hp=>?_⟩
  ·rw[List.length_append,h1,List.length_append];rfl
  ·rcases List.mem_append.mp hx with hx|hx
   ·exact h2 x hx
   ·rw[List.mem_singleton.mp hx];exact Zdk r
  ·rcases List.mem_append.mp hx with hx|hx
   ·exact h3 x hx p hp
   ·rw[List.mem_singleton.mp hx] at hp;obtain⟨k,hk,rfl⟩:=List.mem_map.mp hp;obtain⟨p',_,r',hq⟩:=(m k).mp hk;have:=(hR _ hq).2.1;exact⟨this,this⟩
 | @fin lv l1 l l2 tg w hb r m =>
  refine⟨?_,fun x hx=>?_,fun x hx p hp=>?_⟩
  ·rw[List.length_append,List.length_append,List.length_append,List.length_singleton,List.length_singleton,List.length_singleton] at h1;rw[List.length_append,List.length_singleton];lia
  ·rcases List.mem_append.mp hx with hx|hx
   ·exact h2 x (List.mem_append_left _ (List.mem_append_left _ hx))
   ·rw[List.mem_singleton.mp hx];exact r
  ·rcases List.mem_append.mp hx with hx|hx
   ·exact h3 x (List.mem_append_left _ (List.mem_append_left _ hx)) p hp
   ·rw[List.mem_singleton.mp hx] at hp;obtain⟨n,i,e1,e2,_⟩:=(m p).mp hp;exact⟨(h3 l1 (List.mem_append_left _ (List.mem_append_right _ (List.mem_singleton.mpr rfl))) _ e1).1,(hR _ e2).2.2⟩
def Zl8:List Pr:=(List.range 64).flatMap fun a:Nat=>(List.range 64).map fun b:Nat=>((a:Int),(b:Int))
theorem ZiB:Zl8.length=4096:=by decide +kernel
theorem ZcT{l:List Pr}{n:Int}(hn:n<=64)(h:l.Nodup)(hb:∀p∈l,(0<=p.1/\p.1<n)/\0<=p.2/\p.2<n):l.length<=4096:=by
 rw[<- ZiB];refine Zbl h fun p hp=>?_;obtain⟨⟨a1,a2⟩,b1,b2⟩:=hb p hp;refine List.mem_flatMap.mpr ⟨p.1.toNat,List.mem_range.mpr (by lia),List.mem_map.mpr ⟨p.2.toNat,List.mem_range.mpr (by lia),?_⟩⟩;rw[Int.toNat_of_nonneg a1,Int.toNat_of_nonneg b1]
theorem RdOk.few{n:Int}{lv:List (List Pr)}{tg:List Str}(h:RdOk n lv tg)(hn:n<=64){l:List Pr}(hl:l∈lv):l.length<=4096:=ZcT hn (Zfq (h.ri l hl)) (h.bd l hl)
def Zaq(ex:List Addr)(H H':Hp):Prop := ∀b o,b∉ex->H b=some o->H' b=some o
theorem Zj.keepX{ex:List Addr}{H H':Hp}(s:Zj H H'):Zaq ex H H':=fun b o _ h=>s b o h
theorem Zaq.upd{ex:List Addr}{H H':Hp}{a:Addr}{o:HO}(k:Zaq ex H H')(h:a∈ex):Zaq ex H (L2.upd H' a o):=fun b u hb e=>by
 have hne:b≠a:=fun z=>hb (by rw[z];exact h);rw[Zh hne];exact k b u hb e
def WK(ex:List Addr)(H:Hp)(a:Addr)(W:Str->List Pr):Prop:=a∉ex/\∃(mk:List (Key×V))(ts:List Str),H a=some (.dK mk)/\mk.map (·.1)=ts.map Sum.inr/\ts.length<=900/\∀t,(Zbi mk (Sum.inr t)=none/\W t=[])\/∃l zs,Zbi mk (Sum.inr t)=some (.ref l)/\l∉ex/\H l=some (.lst zs)/\PL H zs (W t)/\W t ≠ []
def WI(ex:List Addr)(H:Hp)(d:Addr)(R:List Srd.Qd):Prop:=d∉ex/\∃(m:List (Key×V))(D:Int->Option Addr),H d=some (.dK m)/\(∀k,Zbi m (Sum.inl k)=(D k).map V.ref)/\(∀k,D k=none->∀t,Zcq R k t=[])/\∀k a,D k=some a->WK ex H a fun t=>Zcq R k t
def Ziv(H H':Hp):Prop := ∀b xs,H b=some (.tup xs)->H' b=some (.tup xs)
theorem WK.keep{ex:List Addr}{H H':Hp}{a:Addr}{W:Str->List Pr}(h:WK ex H a W)(k:Zaq ex H H')(kt:Ziv H H'):WK ex H' a W:=by
 obtain⟨h1,mk,ts,h2,h3,h4,h5⟩:=h;refine⟨h1,mk,ts,k _ _ h1 h2,h3,h4,fun t=>?_⟩;rcases h5 t with h|⟨l,zs,e1,e2,e3,e4,e5⟩
 ·exact .inl h
 ·exact .inr ⟨l,zs,e1,e2,k _ _ e2 e3,e4.keep kt,e5⟩
theorem WI.keep{ex:List Addr}{H H':Hp}{d:Addr}{R:List Srd.Qd}(h:WI ex H d R)(k:Zaq ex H H')(kt:Ziv H H'):WI ex H' d R:=by
 obtain⟨h1,m,D,h2,h3,h4,h5⟩:=h;exact⟨h1,m,D,k _ _ h1 h2,h3,h4,fun x a e=>(h5 x a e).keep k kt⟩
theorem KS.has{m:List (Key×V)}{ts:List Str}(h:m.map (·.1)=ts.map Sum.inr)(x:Str):(Zbi m (Sum.inr x)).isSome=decide (x∈ts):=by
 rw[<- Zar];have e1:(m.any fun kv=>decide (kv.1=(Sum.inr x:Key)))=(m.map (·.1)).any (fun y=>decide (y=(Sum.inr x:Key))):=by rw[List.any_map];rfl
 rw[e1,h,List.any_map,Bool.eq_iff_iff,List.any_eq_true,decide_eq_true_eq];constructor
 ·rintro⟨y,hy,h⟩;have:=of_decide_eq_true h;injection this with this;rw[<- this];exact hy
 ·intro hx;exact⟨x,hx,decide_eq_true rfl⟩
theorem KS.new{m:List (Key×V)}{ts:List Str}(h:m.map (·.1)=ts.map Sum.inr){x:Str}(v:V)(hn:Zbi m (Sum.inr x)=none):(putK m (Sum.inr x) v).map (·.1)=(ts ++ [x]).map Sum.inr:=by
 rw[ZdQ v hn,List.map_append,List.map_append,h];rfl
def LVs(ex:List Addr)(H:Hp)(zs:List V)(lv:List (List Pr)):Prop:=Paired (fun z l=>∃p xs,z=V.ref p/\p∉ex/\H p=some (.lst xs)/\PL H xs l) zs lv
theorem LVs.keep{ex:List Addr}{H H':Hp}(k:Zaq ex H H')(kt:Ziv H H'):∀{zs:List V}{lv:List (List Pr)},LVs ex H zs lv->LVs ex H' zs lv
 | _,_,.nil=>.nil
 | _,_,.cons ⟨p,xs,e1,e2,e3,e4⟩ t=>.cons ⟨p,xs,e1,e2,k _ _ e2 e3,e4.keep kt⟩ (LVs.keep k kt t)
theorem LVs.length{ex:List Addr}{H:Hp}{zs:List V}{lv:List (List Pr)}(h:LVs ex H zs lv):zs.length=lv.length:=Paired.length h
theorem LVs.last{ex:List Addr}{H:Hp}:∀{lv:List (List Pr)}{zs:List V}{l:List Pr},LVs ex H zs (lv ++ [l])->∃zs' p xs,zs=zs' ++ [V.ref p]/\LVs ex H zs' lv/\p∉ex/\H p=some (.lst xs)/\PL H xs l
 | [],_,_,.cons ⟨p,xs,e1,e2,e3,e4⟩ .nil=>⟨[],p,xs,by rw[e1];rfl,.nil,e2,e3,e4⟩
 | _::lv,_,_,.cons r t=>by
  obtain⟨zs',p,xs,h1,h2,h3⟩:=LVs.last (lv:=lv) t;exact⟨_::zs',p,xs,by rw[h1];rfl,.cons r h2,h3⟩
theorem LVs.snoc{ex:List Addr}{H:Hp}{p:Addr}{xs:List V}{l:List Pr}(h1:p∉ex)(h2:H p=some (.lst xs))(h3:PL H xs l){zs:List V}{lv:List (List Pr)}(h:LVs ex H zs lv):LVs ex H (zs ++ [.ref p]) (lv ++ [l]):=Paired.snoc h ⟨p,xs,rfl,h1,h2,h3⟩
def rdF(p df dw L T:Addr):List (Str×V):=[("form",.ref p),("final",.ref df),("ways",.ref dw),("levels",.ref L),("tags",.ref T)]
structure RdC(K:PySem.W.Frag)(C:Addr):Prop where
 cls:Cls K C
 n1:Zbs K C "form"
 n2:Zbs K C "final"
 n3:Zbs K C "ways"
 n4:Zbs K C "levels"
 n5:Zbs K C "tags"
structure RdAt(C:Addr)(H:Hp)(a L T:Addr)(ex:List Addr)(f:FQ)(R:List Srd.Qd)(lv:List (List Pr))(tg:List Str):Prop where
 ok:OkR f
 rk:ROk f R
 st:RdOk f.n lv tg
 ne:L≠T
 al:∀x∈ex,x ∉ [L,T]/\∃xs,H x=some (.lst xs)
 ho:∃(dx p df dw:Addr)(ns:List Int)(zs:List V),H a=some (.ins C dx (rdF p df dw L T))/\FmQ H p f/\DI H df ns/\(∀x,x∈ns↔x∈f.ts)/\WI (L::T::ex) H dw R/\H L=some (.lst zs)/\LVs (L::T::ex) H zs lv/\H T=some (.lst (tg.map V.str))
theorem ROk.qb{f:FQ}{R:List Srd.Qd}(h:ROk f R)(ok:OkR f):QB f.n R:=fun q hq=>ok.qb q ((h q).mp hq).1
theorem Zb7{b L T:Addr}(h1:b≠L)(h2:b≠T):b ∉ [L,T]:=fun h=>by
 rcases List.mem_cons.mp h with h|h
 ·exact h1 h
 ·exact h2 (List.mem_singleton.mp h)
theorem Zaq.tups{L T:Addr}{H H':Hp}{xs ys:List V}(k:Zaq [L,T] H H')(hL:H L=some (.lst xs))(hT:H T=some (.lst ys)):Ziv H H':=fun b zs e=>k b _ (Zb7 (fun z=>by rw[z,hL] at e;cases e) (fun z=>by rw[z,hT] at e;cases e)) e
theorem Zaq.less{ex ex':List Addr}{H H':Hp}(k:Zaq ex H H')(h:∀b∈ex,b∈ex'):Zaq ex' H H':=fun b o hb e=>k b o (fun z=>hb (h b z)) e
theorem ZbT{L T:Addr}{ex:List Addr}:∀b ∈ [L,T],b∈L::T::ex:=fun b hb=>by
 rcases List.mem_cons.mp hb with rfl|hb
 ·exact List.mem_cons_self ..
 ·rw[List.mem_singleton.mp hb];exact List.mem_cons_of_mem _ (List.mem_cons_self ..)
section
variable{C a L T:Addr}{ex:List Addr}{H H':Hp}{f:FQ}{R:List Srd.Qd}{lv lv':List (List Pr)}{tg tg':List Str}
theorem RdAt.same(h:RdAt C H a L T ex f R lv tg)(s:Zj H H'):RdAt C H' a L T ex f R lv tg:=by
 obtain⟨ok,rk,st,ne,al,dx,p,df,dw,ns,zs,h1,h2,h3,h4,h5,h6,h7,h8⟩:=h;have kt:Ziv H H':=fun b xs e=>s _ _ e;exact⟨ok,rk,st,ne,fun x hx=>⟨(al x hx).1,let ⟨xs,e⟩:=(al x hx).2;⟨xs,s _ _ e⟩⟩,dx,p,df,dw,ns,zs,s _ _ h1,h2.same s,h3.same s,h4,h5.keep (Zj.keepX s) kt,s _ _ h6,h7.keep (Zj.keepX s) kt,s _ _ h8⟩
theorem RdAt.fresh(h:RdAt C H a L T ex f R lv tg){b:Addr}(hb:H b=none):b∉L::T::ex:=fun hm=>by
 obtain⟨dx,p,df,dw,ns,zs,h1,h2,h3,h4,h5,h6,h7,h8⟩:=h.ho;rcases List.mem_cons.mp hm with rfl|hm
 ·rw[hb] at h6;cases h6
 ·rcases List.mem_cons.mp hm with rfl|hm
  ·rw[hb] at h8;cases h8
  ·obtain⟨xs,e⟩:=(h.al b hm).2;rw[hb] at e;cases e
theorem RdAt.move{zs':List V}(h:RdAt C H a L T ex f R lv tg)(k:Zaq [L,T] H H')(st:RdOk f.n lv' tg')(e1:H' L=some (.lst zs'))(e2:LVs (L::T::ex) H' zs' lv')(e3:H' T=some (.lst (tg'.map V.str))):RdAt C H' a L T ex f R lv' tg':=by
 obtain⟨ok,rk,_,ne,al,dx,p,df,dw,ns,zs,h1,h2,⟨m,h3,h3'⟩,h4,h5,h6,h7,h8⟩:=h;have kt:=k.tups h6 h8;have no:∀b o,H b=some o->(∀xs,o ≠ .lst xs)->b ∉ [L,T]:=fun b o e n=>Zb7 (fun z=>by rw[z,h6] at e;injection e with e;exact n _ e.symm) (fun z=>by rw[z,h8] at e;injection e with e;exact n _ e.symm);refine⟨ok,rk,st,ne,fun x hx=>⟨(al x hx).1,let ⟨xs,e⟩:=(al x hx).2;⟨xs,k _ _ (al x hx).1 e⟩⟩,dx,p,df,dw,ns,zs',k _ _ (no _ _ h1 fun _ z=>nomatch z) h1,?_,⟨m,k _ _ (no _ _ h3 fun _ z=>nomatch z) h3,h3'⟩,h4,h5.keep (k.less ZbT) kt,e1,e2,e3⟩
 obtain⟨f1,f2,f3,zf,a1,a2,a3,a4,a5⟩:=h2;exact⟨f1,f2,f3,zf,kt _ _ a1,kt _ _ a2,kt _ _ a3,kt _ _ a4,a5.keep kt⟩
theorem RdAt.more{b:Addr}{ys:List V}(h:RdAt C H a L T ex f R lv tg)(hb:H b=none):RdAt C (upd H b (.lst ys)) a L T (b::ex) f R lv tg:=by
 have s:Zj H (upd H b (.lst ys)):=Zj.new hb;have hf:=h.fresh hb;obtain⟨ok,rk,st,ne,al,dx,p,df,dw,ns,zs,h1,h2,h3,h4,⟨w1,m,D,w2,w3,w4,w5⟩,h6,h7,h8⟩:=h;have kt:Ziv H (upd H b (.lst ys)):=fun b xs e=>s _ _ e;have wid:∀c o,H c=some o->c∉L::T::ex->c∉L::T::b::ex:=fun c o e hc hm=>by
  rcases List.mem_cons.mp hm with rfl|hm
  ·exact hc (List.mem_cons_self ..)
  ·rcases List.mem_cons.mp hm with rfl|hm
   ·exact hc (List.mem_cons_of_mem _ (List.mem_cons_self ..))
   ·rcases List.mem_cons.mp hm with rfl|hm
    ·rw[hb] at e;cases e
    ·exact hc (List.mem_cons_of_mem _ (List.mem_cons_of_mem _ hm))
 have hlv:∀{zs:List V}{lv:List (List Pr)},LVs (L::T::ex) H zs lv->LVs (L::T::b::ex) (upd H b (.lst ys)) zs lv:=fun{zs lv} h=>by
  induction h with
  | nil=>exact .nil
  | cons r t ih =>
   obtain⟨p,xs,e1,e2,e3,e4⟩:=r;exact .cons ⟨p,xs,e1,wid _ _ e3 e2,s _ _ e3,e4.keep kt⟩ ih
 refine⟨ok,rk,st,ne,fun x hx=>?_,dx,p,df,dw,ns,zs,s _ _ h1,h2.same s,h3.same s,h4,⟨wid _ _ w2 w1,m,D,s _ _ w2,w3,w4,fun k a' e=>?_⟩,s _ _ h6,hlv h7,s _ _ h8⟩
 ·rcases List.mem_cons.mp hx with rfl|hx
  ·exact⟨fun z=>hf (ZbT _ z),ys,Za⟩
  ·obtain⟨z1,xs,z2⟩:=al x hx;exact⟨z1,xs,s _ _ z2⟩
 ·obtain⟨u1,mk,ts,u2,u3,u4,u5⟩:=w5 k a' e;refine⟨wid _ _ u2 u1,mk,ts,s _ _ u2,u3,u4,fun t=>?_⟩;rcases u5 t with h|⟨l,zs,g1,g2,g3,g4,g5⟩
  ·exact .inl h
  ·exact .inr ⟨l,zs,g1,wid _ _ g3 g2,s _ _ g3,g4.keep kt,g5⟩
theorem RdAt.put{b:Addr}{ys:List V}(h:RdAt C H a L T ex f R lv tg)(hb:b∈ex):RdAt C (upd H b (.lst ys)) a L T ex f R lv tg:=by
 obtain⟨ok,rk,st,ne,al,dx,p,df,dw,ns,zs,h1,h2,⟨md,h3,h3'⟩,h4,h5,h6,h7,h8⟩:=h;obtain⟨nb,xb,eb⟩:=al b hb;have k:Zaq (L::T::ex) H (upd H b (.lst ys)):=Zaq.upd (Zj.keepX (Zj.refl H)) (List.mem_cons_of_mem _ (List.mem_cons_of_mem _ hb));have kt:Ziv H (upd H b (.lst ys)):=ZaN eb;have kn:∀c o,H c=some o->(∀xs,o ≠ .lst xs)->(upd H b (.lst ys)) c=some o:=fun c o e n=>by
  rw[Zh (fun z=>by rw[z,eb] at e;injection e with e;exact n _ e.symm)];exact e
 refine⟨ok,rk,st,ne,fun x hx=>⟨(al x hx).1,?_⟩,dx,p,df,dw,ns,zs,kn _ _ h1 (fun _ z=>nomatch z),?_,⟨md,kn _ _ h3 (fun _ z=>nomatch z),h3'⟩,h4,h5.keep k kt,?_,h7.keep k kt,?_⟩
 ·by_cases e:x=b
  ·rw[e];exact⟨ys,Za⟩
  ·obtain⟨xs,z⟩:=(al x hx).2;exact⟨xs,by rw[Zh e];exact z⟩
 ·obtain⟨f1,f2,f3,zf,a1,a2,a3,a4,a5⟩:=h2;exact⟨f1,f2,f3,zf,kt _ _ a1,kt _ _ a2,kt _ _ a3,kt _ _ a4,a5.keep kt⟩
 ·rw[Zh (fun z=>nb (by rw[<- z];exact List.mem_cons_self ..))];exact h6
 ·rw[Zh (fun z=>nb (by rw[<- z];exact List.mem_cons_of_mem _ (List.mem_cons_self ..)))];exact h8
end
structure WS(H5 H:Hp)(d:Addr)(m:List (Key×V))(D:Int->Option Addr)(mk:Int->List (Key×V))(tf:Int->List Str)(Lf:Int->Str->Option Addr)(W:Int->Str->List Pr)(c:Nat):Prop where
 kp:∀b o,b≠d->H5 b=some o->H b=some o
 h5:∃o,H5 d=some o
 hm:H d=some (.dK m)
 ml:m.length<=c
 vm:∀k,Zbi m (Sum.inl k)=(D k).map V.ref
 dk:∀k a,D k=some a->H5 a=none/\H a=some (.dK (mk k))/\(mk k).map (·.1)=(tf k).map Sum.inr/\(tf k).length<=c/\∀t,Zbi (mk k) (Sum.inr t)=(Lf k t).map V.ref
 dn:∀k t,D k=none->Lf k t=none
 ln:∀k t,Lf k t=none->W k t=[]
 ls:∀k t l,Lf k t=some l->H5 l=none/\∃zs,H l=some (.lst zs)/\PL H zs (W k t)
 di:∀k k' a,D k=some a->D k'=some a->k=k'
 li:∀k t k' t' l,Lf k t=some l->Lf k' t'=some l->k=k'/\t=t'
section
variable{H5 H:Hp}{d:Addr}{m:List (Key×V)}{D:Int->Option Addr}{mk:Int->List (Key×V)}{tf:Int->List Str}{Lf:Int->Str->Option Addr}{W:Int->Str->List Pr}{c:Nat}
theorem WS.same{H':Hp}(h:WS H5 H d m D mk tf Lf W c)(s:Zj H H'):WS H5 H' d m D mk tf Lf W c where
 kp:=fun b o hb e=>s _ _ (h.kp b o hb e)
 h5:=h.h5
 hm:=s _ _ h.hm
 ml:=h.ml
 vm:=h.vm
 dk:=fun k a e=>by
  obtain⟨a1,a2,a3⟩:=h.dk k a e;exact⟨a1,s _ _ a2,a3⟩
 dn:=h.dn
 ln:=h.ln
 ls:=fun k t l e=>by
  obtain⟨a1,zs,a2,a3⟩:=h.ls k t l e;exact⟨a1,zs,s _ _ a2,a3.keep fun b xs e=>s _ _ e⟩
 di:=h.di
 li:=h.li
theorem WS.ned(h:WS H5 H d m D mk tf Lf W c){b:Addr}(hb:H5 b=none):b≠d:=fun z=>by
 obtain⟨o,ho⟩:=h.h5;rw[z,ho] at hb;cases hb
theorem WS.newk(h:WS H5 H d m D mk tf Lf W c){k:Int}{d0:Addr}(hk:D k=none)(e0:H d0=some (.dK []))(f0:H5 d0=none)(hf:∀k',D k'≠some d0) :
  WS H5 (upd H d (.dK (putK m (Sum.inl k) (.ref d0)))) d (putK m (Sum.inl k) (.ref d0)) (fun k'=>if k'=k then some d0 else D k') (fun k'=>if k'=k then [] else mk k') (fun k'=>if k'=k then [] else tf k') Lf W (c+1) where
 kp:=fun b o hb e=>by rw[Zh hb];exact h.kp b o hb e
 h5:=h.h5
 hm:=Za
 ml:=by have:=ZaZ m (Sum.inl k) (.ref d0);have:=h.ml;lia
 vm:=fun k'=>by
  rw[Zf4];by_cases e:k'=k
  ·subst e;rw[if_pos rfl,if_pos rfl];rfl
  ·rw[if_neg (fun z=>e (by injection z)),if_neg e];exact h.vm k'
 dk:=fun k' a e=>by
  by_cases e1:k'=k
  ·subst e1;simp only[if_pos] at e ⊢;injection e with e;subst e;refine⟨f0,by rw[Zh (h.ned f0)];exact e0,rfl,Nat.zero_le _,fun t=>?_⟩;rw[h.dn k' t hk];rfl
  ·simp only[if_neg e1] at e ⊢;obtain⟨a1,a2,a3,a4,a5⟩:=h.dk k' a e;exact⟨a1,by rw[Zh (h.ned a1)];exact a2,a3,by lia,a5⟩
 dn:=fun k' t e=>by
  by_cases e1:k'=k
  ·subst e1;simp only[if_pos] at e;cases e
  ·simp only[if_neg e1] at e;exact h.dn k' t e
 ln:=h.ln
 ls:=fun k' t l e=>by
  obtain⟨a1,zs,a2,a3⟩:=h.ls k' t l e;refine⟨a1,zs,by rw[Zh (h.ned a1)];exact a2,a3.keep fun b xs z=>?_⟩;rw[Zh (fun y=>by rw[y,h.hm] at z;cases z)];exact z
 di:=fun k1 k2 a e1 e2=>by
  by_cases c1:k1=k
  ·by_cases c2:k2=k
   ·rw[c1,c2]
   ·simp only[if_pos c1,if_neg c2] at e1 e2;injection e1 with e1;rw[<- e1] at e2;exact absurd e2 (hf k2)
  ·by_cases c2:k2=k
   ·simp only[if_neg c1,if_pos c2] at e1 e2;injection e2 with e2;rw[<- e2] at e1;exact absurd e1 (hf k1)
   ·simp only[if_neg c1,if_neg c2] at e1 e2;exact h.di k1 k2 a e1 e2
 li:=h.li
theorem WS.newl(h:WS H5 H d m D mk tf Lf W c){k:Int}{t:Str}{a l0:Addr}(hk:D k=some a)(hl:Lf k t=none)(e0:H l0=some (.lst []))(f0:H5 l0=none)(hf:∀k' t',Lf k' t'≠some l0) :
  WS H5 (upd H a (.dK (putK (mk k) (Sum.inr t) (.ref l0)))) d m D (fun k'=>if k'=k then putK (mk k) (Sum.inr t) (.ref l0) else mk k') (fun k'=>if k'=k then tf k ++ [t] else tf k') (fun k' t'=>if k'=k/\t'=t then some l0 else Lf k' t') W (c+1):=by
 obtain⟨b1,b2,b3,b4,b5⟩:=h.dk k a hk;have hv:Zbi (mk k) (Sum.inr t)=none:=by rw[b5,hl];rfl
 have nl:l0≠a:=fun z=>by rw[z,b2] at e0;cases e0
 have kt:∀b xs,H b=some (.tup xs)->(upd H a (.dK (putK (mk k) (Sum.inr t) (.ref l0)))) b=some (.tup xs):=fun b xs z=>by
  rw[Zh (fun y=>by rw[y,b2] at z;cases z)];exact z
 refine⟨fun b o hb e=>?_,h.h5,?_,?_,h.vm,fun k' a' e=>?_,fun k' t' e=>?_,fun k' t' e=>?_,fun k' t' l e=>?_,h.di,fun k1 t1 k2 t2 l e1 e2=>?_⟩
 ·rw[Zh (Zi e b1)];exact h.kp b o hb e
 ·rw[Zh (h.ned b1).symm];exact h.hm
 ·have:=h.ml;lia
 ·by_cases e1:k'=k
  ·subst e1;rw[hk] at e;injection e with e;subst e;simp only[if_pos];refine⟨b1,Za,KS.new b3 _ hv,by rw[List.length_append,List.length_singleton];lia,fun t'=>?_⟩;rw[Zf4];by_cases e2:t'=t
   ·subst e2;simp only[if_true,true_and];rfl
   ·rw[if_neg (fun z=>e2 (by injection z))];simp only[e2,and_false,if_false];exact b5 t'
  ·simp only[if_neg e1];obtain⟨a1,a2,a3,a4,a5⟩:=h.dk k' a' e;have na:a'≠a:=fun z=>by
    subst z;exact e1 (h.di k' k _ e hk)
   refine⟨a1,by rw[Zh na];exact a2,a3,by lia,fun t'=>?_⟩;rw[if_neg (fun z=>e1 z.1)];exact a5 t'
 ·have hno : ¬ (k'=k/\t'=t):=fun z=>by rw[z.1,hk] at e;cases e
  simp only[if_neg hno];exact h.dn k' t' e
 ·by_cases hh:k'=k/\t'=t
  ·simp only[if_pos hh] at e;cases e
  ·simp only[if_neg hh] at e;exact h.ln k' t' e
 ·by_cases hh:k'=k/\t'=t
  ·obtain⟨rfl,rfl⟩:=hh;simp only[and_self,if_true] at e;injection e with e;subst e;exact⟨f0,[],by rw[Zh nl];exact e0,by rw[h.ln _ _ hl];exact .nil⟩
  ·simp only[if_neg hh] at e;obtain⟨a1,zs,a2,a3⟩:=h.ls k' t' l e;exact⟨a1,zs,by rw[Zh (fun y=>by rw[y,b2] at a2;cases a2)];exact a2,a3.keep kt⟩
 ·by_cases c1:k1=k/\t1=t
  ·by_cases c2:k2=k/\t2=t
   ·exact⟨c1.1.trans c2.1.symm,c1.2.trans c2.2.symm⟩
   ·simp only[if_pos c1,if_neg c2] at e1 e2;injection e1 with e1;rw[<- e1] at e2;exact absurd e2 (hf k2 t2)
  ·by_cases c2:k2=k/\t2=t
   ·simp only[if_neg c1,if_pos c2] at e1 e2;injection e2 with e2;rw[<- e2] at e1;exact absurd e1 (hf k1 t1)
   ·simp only[if_neg c1,if_neg c2] at e1 e2;exact h.li _ _ _ _ l e1 e2
theorem WS.app(h:WS H5 H d m D mk tf Lf W c){k:Int}{t:Str}{l pt:Addr}{zs:List V}{p:Pr}{W':Int->Str->List Pr}(hl:Lf k t=some l)(e1:H l=some (.lst zs))(ep:H pt=some (tp p))(hW:∀k' t',W' k' t'=W k' t'++if k=k'/\t=t' then [p] else []) :
  WS H5 (upd H l (.lst (zs ++ [.ref pt]))) d m D mk tf Lf W' c:=by
 obtain⟨b1,zs',b2,b3⟩:=h.ls k t l hl;rw[e1] at b2;injection b2 with b2;injection b2 with b2;subst b2;have kt:=ZaN (zs:=zs ++ [.ref pt]) e1;refine⟨fun b o hb e=>?_,h.h5,?_,h.ml,h.vm,fun k' a' e=>?_,h.dn,fun k' t' e=>?_,fun k' t' l' e=>?_,h.di,h.li⟩
 ·rw[Zh (Zi e b1)];exact h.kp b o hb e
 ·rw[Zh (h.ned b1).symm];exact h.hm
 ·obtain⟨a1,a2,a3⟩:=h.dk k' a' e;exact⟨a1,by rw[Zh (fun y=>by rw[y,e1] at a2;cases a2)];exact a2,a3⟩
 ·have hno : ¬ (k=k'/\t=t'):=fun z=>by rw[<- z.1,<- z.2,hl] at e;cases e
  rw[hW,if_neg hno,h.ln k' t' e];rfl
 ·by_cases hh:k=k'/\t=t'
  ·obtain⟨rfl,rfl⟩:=hh;rw[hl] at e;injection e with e;subst e;refine⟨b1,_,Za,?_⟩;rw[hW,if_pos ⟨rfl,rfl⟩];exact(PL.snoc ep b3).keep kt
  ·obtain⟨a1,zs',a2,a3⟩:=h.ls k' t' l' e;have nl:l'≠l:=fun y=>by
    subst y;have:=h.li k' t' k t _ e hl;exact hh ⟨this.1.symm,this.2.symm⟩
   refine⟨a1,zs',by rw[Zh nl];exact a2,?_⟩;rw[hW,if_neg hh,List.append_nil];exact a3.keep kt
theorem WS.out{R:List Srd.Qd}{ex:List Addr}(h:WS H5 H d m D mk tf Lf (Zcq R) c)(hex:∀b∈ex,H b=none)(hc:c<=900)(hne:∀k t l,Lf k t=some l->Zcq R k t ≠ []):WI ex H d R:=by
 have no:∀b o,H b=some o->b∉ex:=fun b o e hb=>by
  rw[hex b hb] at e;cases e
 refine⟨no _ _ h.hm,m,D,h.hm,h.vm,fun k e t=>h.ln k t (h.dn k t e),fun k a e=>?_⟩;obtain⟨a1,a2,a3,a4,a5⟩:=h.dk k a e;refine⟨no _ _ a2,mk k,tf k,a2,a3,by lia,fun t=>?_⟩;cases hl:Lf k t with
 | none=>exact .inl ⟨by rw[a5,hl];rfl,h.ln k t hl⟩
 | some l =>
  obtain⟨b1,zs,b2,b3⟩:=h.ls k t l hl;exact .inr ⟨l,zs,by rw[a5,hl];rfl,no _ _ b2,b2,b3,hne k t l hl⟩
end
def Zfv(K:PySem.W.Frag)(C:Addr):Sp:=fun vs H Q _=>∃(a p dx:Addr)(f:FQ),vs=[.ref a,.ref p]/\H a=some (.ins C dx [])/\FmQ H p f/\OkR f/\∀(H':Hp)(L T:Addr)(R:List Srd.Qd)(hs:List Int),(∀b o,b≠a->H b=some o->H' b=some o)->H L=none->H T=none->Zjb hs->(∀x,x∈hs↔x∈f.hs/\LvQ f x)->RdAt C H' a L T [] f R [hs.map dup] []->Q .non H'
def ZdN(C:Addr):Sp:=fun vs H Q _=>∃(a L T:Addr)(ex:List Addr)(f:FQ)(R:List Srd.Qd)(lv:List (List Pr))(tg:List Str)(k:Int)(t:Str),vs=[.ref a,.int k,.str t]/\RdAt C H a L T ex f R lv tg/\∀(r:Addr)(zs:List V)(H':Hp),Zj H H'->H' r=some (.lst zs)->PL H' zs (Zcq R k t)->Q (.ref r) H'
def ZcC(C:Addr):Sp:=fun vs H Q _=>∃(a L T:Addr)(ex:List Addr)(f:FQ)(R:List Srd.Qd)(lv:List (List Pr))(l:List Pr)(tg:List Str),vs=[.ref a]/\RdAt C H a L T ex f R (lv ++ [l]) tg/\∀(d:Addr)(ns:List Int)(H':Hp),Zj H H'->H d=none->DI H' d ns->ns.length<=5000->(∀x,x∈ns↔Edd f.ts l x)->Q (.ref d) H'
def ZhR(C:Addr):Sp:=fun vs H Q _=>∃(a L T:Addr)(ex:List Addr)(f:FQ)(R:List Srd.Qd)(lv:List (List Pr))(l:List Pr)(tg:List Str)(w:Str),vs=[.ref a,.str w]/\RdAt C H a L T ex f R (lv ++ [l]) tg/\tg.length<=900/\w≠SL /\
 (∀H',Zj H H'->Nst f.ts R l tg w->Q (.bl false) H')/\∀(H':Hp)(lv':List (List Pr))(tg':List Str),Zaq [L,T] H H'->RdAt C H' a L T ex f R lv' tg'->Stp f.ts R (lv ++ [l]) tg w lv' tg'->Q (.bl true) H'
def Zh4(C:Addr):Sp:=fun vs H Q _=>∃(a L T:Addr)(ex:List Addr)(f:FQ)(R:List Srd.Qd)(lv:List (List Pr))(l:List Pr)(tg:List Str),vs=[.ref a]/\RdAt C H a L T ex f R (lv ++ [l]) tg/\tg.length<=900 /\
 (∀H',Zj H H'->Nst f.ts R l tg SL->Q (.bl false) H')/\∀(H':Hp)(lv':List (List Pr))(tg':List Str),Zaq [L,T] H H'->RdAt C H' a L T ex f R lv' tg'->Stp f.ts R (lv ++ [l]) tg SL lv' tg'->Q (.bl true) H'
def ZfL(C:Addr):Sp:=fun vs H Q _=>∃(a L T:Addr)(ex:List Addr)(f:FQ)(R:List Srd.Qd)(lv:List (List Pr))(l:List Pr)(tg:List Str)(w:Str),vs=[.ref a,.str w]/\RdAt C H a L T ex f R (lv ++ [l]) tg/\tg.length<=900 /\
 (∀H',Zj H H'->Nst f.ts R l tg w->Q (.bl false) H')/\∀(H':Hp)(lv':List (List Pr))(tg':List Str),Zaq [L,T] H H'->RdAt C H' a L T ex f R lv' tg'->Stp f.ts R (lv ++ [l]) tg w lv' tg'->Q (.bl true) H'
def ZfE(C:Addr):Sp:=fun vs H Q _=>∃(a L T:Addr)(ex:List Addr)(f:FQ)(R:List Srd.Qd)(lv:List (List Pr))(l:List Pr)(tg:List Str),vs=[.ref a]/\RdAt C H a L T ex f R (lv ++ [l]) tg/\∀(r:Addr)(ws:List Str)(H':Hp),Zj H H'->H r=none->H' r=some (.lst (ws.map V.str))->ws.Pairwise (fun a b=>sLt a b=true)->ws.length<=200->(∀w,w∈ws↔Gng f.ts R l tg w)->Q (.ref r) H'
def Zgo(K:PySem.W.Frag):Sp:=fun vs H Q _=>∃(a:Addr)(ns:List Int)(fi m:Int),vs=[.ref a,.int fi,.int m]/\SqL K H a (ns.map V.int)/\ns.length<=63/\0<=fi/\fi<=1000/\0<=m/\m<=1000/\∀(r:Addr)(xs:List Int)(H':Hp),Zj H H'->H r=none->H' r=some (.lst (xs.map V.int))->(xs.length:Int)=m->(∀x∈xs,0<=x/\x<2147483647)->Q (.ref r) H'
def Zfp:Sp:=fun vs H Q _=>∃c:Int,vs=[.int c]/\∀(r:Addr)(ts:List Str)(H':Hp),Zj H H'->H r=none->H' r=some (.lst (ts.map V.str))->ts.length=3->(∀t∈ts,ZhH t/\t.length<=8)->Q (.ref r) H'
def Zef(K:PySem.W.Frag):Sp:=fun vs H Q _=>∃(fi m:Int)(tr nr:Addr)(ts:List Str)(ns:List Int),vs=[.int fi,.int m,.ref tr,.ref nr]/\1<=m/\m<=64/\H tr=some (.lst (ts.map V.str))/\ts.length=3/\H nr=some (.lst (ns.map V.int))/\ns.length<=60/\∀(r:Addr)(zs:List V)(qs:List Srd.Qd)(H':Hp),Zj H H'->H' r=some (.tup zs)->QL H' zs qs->Zkk qs->qs.length<=60->QB m qs->(∀q∈qs,q.2.1∈ts)->Q (.ref r) H'
def Zd6(K:PySem.W.Frag):Sp:=fun vs H Q _=>∃(a tr:Addr)(ns:List Int)(ts:List Str),vs=[.ref a,.ref tr]/\SqL K H a (ns.map V.int)/\ns.length<=63/\H tr=some (.lst (ts.map V.str))/\ts.length=3/\(∀t∈ts,ZhH t/\t.length<=8)/\∀(r:Addr)(f:FQ)(H':Hp),Zj H H'->FmQ H' r f->OkR f->f.qs.length<=60->(∀q∈f.qs,q.2.1∈ts)->Q (.ref r) H'
theorem Zj6{t:Str}(h:ZhH t):t≠SL:=fun e=>by
 have:=h.2 47 (by rw[e];decide);lia
theorem Zei{a b:Srd.Qd}(e:kOf a=kOf b):a=b:=by
 obtain⟨a1,a2,a3,a4⟩:=a;obtain⟨b1,b2,b3,b4⟩:=b;injection e with e1 e;injection e with e2 e;injection e with e3 e;injection e with e4 e;injection e1 with e1;injection e2 with e2;injection e3 with e3;injection e4 with e4;have e1:a1=b1:=e1;have e2:a2=b2:=e2;have e3:a3=b3:=e3;have e4:a4=b4:=e4;rw[e1,e2,e3,e4]
theorem ZkY{m:List (List Key×V)}{S:List Srd.Qd}(h:m.map (·.1)=S.map kOf)(x:Srd.Qd)(v:V):(putK m (kOf x) v).map (·.1)=(if x∈S then S else S ++ [x]).map kOf:=by
 cases hv:Zbi m (kOf x) with
 | none =>
  have hn:=Zgp hv;have hx:x∉S:=fun hx=>hn (by rw[h];exact List.mem_map.mpr ⟨x,hx,rfl⟩);rw[ZdQ v hv,if_neg hx,List.map_append,List.map_append,h];rfl
 | some y =>
  have hi:=Zg5 hv;rw[h] at hi;obtain⟨z,hz,e⟩:=List.mem_map.mp hi;have e:=Zei e;subst e;rw[if_pos hz,<- h];unfold putK;rw[Zar,hv,if_pos (show(some y).isSome=true from rfl),List.map_map];refine List.map_congr_left fun kv _=>?_;show(if kv.1=kOf z then(kv.1,v) else kv).1=kv.1
  split <;> rfl
end Fg
namespace L2
open PySem PySem.Spec PyProof.Rows
theorem ZcW{lo:Int}{n:Nat}{p:Addr}{g:TG}{tt:TT}{te:TE}{R:Hp->Prop}{σ0:St}{H0:Hp}(Pv:Nat->List V->St->Hp->Prop)(h0:Pv 0 [] σ0 H0)
  (hl:∀i ys σ H,i<=n->Pv i ys σ H->H p=some (.lst ys))
  (hs:∀i ys σ H,i<n->Pv i ys σ H->g (.int (lo+i)) σ H fun σ3 H4=>tt σ3 H4 fun b H4'=>if b=true then te σ3 H4' fun v H5=>H5 p=some (.lst ys)/\ys.length<sizeLine/\∃m',m'<n-i/\CW n Pv (i+1) m' (ys ++ [v]) σ3 (upd H5 p (.lst (ys ++ [v])))
   else ∃m',m'<n-i/\CW n Pv (i+1) m' ys σ3 H4')
  (hd:∀ys σ H,Pv n ys σ H->R H) :
  ∃W:Nat->Nat->List V->St->Hp->Prop,(∃m,W 0 m [] σ0 H0)/\∀i m ys σc H2,W i m ys σc H2->H2 p=some (.lst ys)/\(((Itr lo n).stop i H2/\R H2)\/((Itr lo n).go i H2/\∀x H3,(Itr lo n).yld i H2 x H3->g x σc H3 fun σ3 H4=>tt σ3 H4 fun b H4'=>if b=true then te σ3 H4' fun v H5 =>
   H5 p=some (.lst ys)/\ys.length<sizeLine/\∃m',m'<m/\W (i+1) m' (ys ++ [v]) σ3 (upd H5 p (.lst (ys ++ [v]))) else ∃m',m'<m/\W (i+1) m' ys σ3 H4')):=by
 refine⟨CW n Pv,⟨_,rfl,Nat.zero_le _,h0⟩,?_⟩;rintro i m ys σ H ⟨rfl,hi,hp⟩;refine⟨hl i ys σ H hi hp,?_⟩;by_cases hlt:i<n
 ·refine .inr ⟨hlt,?_⟩;rintro x H3 ⟨rfl,rfl⟩;exact hs i ys σ _ hlt hp
 ·have e:i=n:=by lia
  subst e;exact .inl ⟨Nat.le_refl _,hd ys σ H hp⟩
end L2
namespace Fg
open PySem L2 FgM
theorem via{u t:TS}{D:Ends}{σ : St}{H:Hp}(R:St->Hp->Prop)(h2:∀ σ' H',R σ' H'->t D σ' H')(h1:(∀ σ' H',R σ' H'->t D σ' H')->u D σ H):u D σ H:=h1 h2
theorem made{H H':Hp}{x dx C:Addr}(hx:H x=none)(hdx:H dx=none)(kb:∀b o,b≠x->(upd (upd H dx (.own x)) x (.ins C dx [])) b=some o->H' b=some o):Zj H H':=fun b o e=>kb b o (Zi e hx) (by
 rw[Zh (Zi e hx),Zh (Zi e hdx)];exact e)
theorem making{H:Hp}{x dx C:Addr}(hx:H x=none)(hdx:H dx=none)(hne:dx≠x):Zj H (upd (upd H dx (.own x)) x (.ins C dx [])):=(Zj.new hdx).trans (Zj.new (by
 rw[Zh hne.symm];exact hx))
theorem Zc7{H:Hp}{x dx C b:Addr}(h:(upd (upd H dx (.own x)) x (.ins C dx [])) b=none):H b=none:=by
 by_cases h1:b=x
 ·rw[h1,Za] at h;cases h
 ·rw[Zh h1] at h;by_cases h2:b=dx
  ·rw[h2,Za] at h;cases h
  ·rw[Zh h2] at h;exact h
theorem Stp.len{ts:List Int}{R:List Srd.Qd}{lv lv':List (List Pr)}{tg tg':List Str}{w:Str}(s:Stp ts R lv tg w lv' tg'):(w=SL/\tg.length=tg'.length+1)\/(w≠SL/\tg'.length=tg.length+1):=by
 cases s with
 | tag hw _ _ _=>exact .inr ⟨hw,by rw[List.length_append];rfl⟩
 | fin _ _ _=>exact .inl ⟨rfl,by rw[List.length_append];rfl⟩
section
variable{f:FQ}{ts:List Int}{R R':List Srd.Qd}{hs:List Int}{lv lv' lv2:List (List Pr)}{l:List Pr}{tg tg' tg2:List Str}{w:Str}{ws:List Str}
theorem ZhX{n:Nat}{S:List Int}(h:ZcE n S=0){k:Int}(h0:0<=k)(hk:k<(n:Int)):k∈S:=by
 refine Classical.byContradiction fun hc=>?_;have:=ZcK h0 hk hc;lia
end
end Fg
namespace L2
open PySem PySem.Spec PyProof.Rows
def intsOf:List Expr->Option (List Int)
 | []=>some []
 | .Constant (.int x) _ _::es=>(intsOf es).map (x :: ·)
 | _=>none
def ZjK(ss:List Int):TA:=fun _ H Q=>Q (ss.map V.int) H
theorem Zgz{X:Cx}:∀{es:List Expr}{ss:List Int},intsOf es=some ss->PA X es (ZjK ss):=by
 intro es
 induction es with
 | nil =>
  intro ss h;cases h;exact Zd
 | cons e es ih =>
  intro ss h;cases e with
  | Constant k j p =>
   cases k with
   | int x =>
    cases h1:intsOf es with
    | none=>simp[intsOf,h1] at h
    | some ss' =>
     simp[intsOf,h1] at h;subst h;exact fun pos pins s σ H Q I h=>Zb Zf (ih h1) rfl pos pins s σ H Q I h
   | _=>simp[intsOf] at h
  | _=>simp[intsOf] at h
theorem ZjJ{X:Cx}{es:List Expr}{ss:List Int}(h:intsOf es=some ss:=by rfl):PA X es (ZjK ss):=Zgz h
theorem ZiG{X:Cx}{i:Nat}{x:Str}{es:List Expr}{ss:List Int}{b:Expr}{tb:TE}{pos' p1 p2 pos:Pos}(hN:X.N.Nodup)(hi:X.N[i]?= some x)(hx:Loc X.env.scope x)(hes:intsOf es=some ss)(hb:PE X b tb)(hs:ZhP b)(hf:X.fn x=true\/X.env.scope.names.lookup x=some .local) :
  PS X (.Assign [.Name x pos'] (.Subscript (.List es p1) b p2) pos) (Zk3 (tOp (Zk8 X.K) (ZlF (ZjK ss)) tb) (Zhc i)) :=
 Zt hN hi hx (ZX Zaj (ZaQ (ZjJ hes)) hb hs) rfl hf
theorem ZdM{X:Cx}{K:PySem.W.Frag}(hK:X.K=K):Zb2 X (.type "list") (fun xs H Q=>∃p ys,xs=[.ref p]/\(SqL K H p ys\/SqT K H p ys)/\∀l,H l=none->Q (.ref l) (upd H l (.lst ys))):=hK ▸ Ze1
theorem Zeo{X:Cx}{K:PySem.W.Frag}(hK:X.K=K):Zb2 X (.builtin "isinstance") (fun xs H Q=>∃x n t b,xs=[x,.ty n]/\TyOf K H x t/\PySem.W.kitOne K t (.type n)=some b/\Q (.bl b) H):=hK ▸ Zae
end L2
namespace Fg
open PySem L2 FgM
def LVf(P:Addr->Prop)(H:Hp)(zs:List V)(lv:List (List Pr)):Prop:=Paired (fun z l=>∃p xs,z=V.ref p/\P p/\H p=some (.lst xs)/\PL H xs l) zs lv
theorem LVf.keep{P:Addr->Prop}{H H':Hp}(k:∀b o,P b->H b=some o->H' b=some o)(kt:Ziv H H'):∀{zs:List V}{lv:List (List Pr)},LVf P H zs lv->LVf P H' zs lv
 | _,_,.nil=>.nil
 | _,_,.cons ⟨p,xs,e1,e2,e3,e4⟩ t=>.cons ⟨p,xs,e1,e2,k _ _ e2 e3,e4.keep kt⟩ (LVf.keep k kt t)
theorem LVf.get{P:Addr->Prop}{H:Hp}:∀{zs:List V}{lv:List (List Pr)},LVf P H zs lv->∀(i:Nat) z,zs[i]?= some z->∃p xs l,lv[i]?= some l/\z=V.ref p/\P p/\H p=some (.lst xs)/\PL H xs l
 | _,_,.nil,_,_,h=>by cases h
 | _,_,.cons ⟨p,xs,e1,e2,e3,e4⟩ t,0,z,h=>by
  injection h with h;subst h;exact⟨p,xs,_,rfl,e1,e2,e3,e4⟩
 | _,_,.cons _ t,i+1,z,h=>LVf.get t i z h
theorem LVf.length{P:Addr->Prop}{H:Hp}{zs:List V}{lv:List (List Pr)}(h:LVf P H zs lv):zs.length=lv.length:=Paired.length h
def dPr(p:Pr):PyData:=.tuple [.int p.1,.int p.2]
theorem Zgg{K:PySem.W.Frag}{H:Hp}:∀{xs:List V}{l:List Pr},PL H xs l->DpAll K H xs (l.map dPr)
 | _,_,.nil=>.nil
 | _,_,.cons ⟨p,e1,e2⟩ t=>.cons (by rw[e1];exact .tup (SqT.of e2) (.cons (.int _) (.cons (.int _) .nil))) (Zgg t)
theorem ZeI:∀l:List Pr,PyData.canLayAll0 (l.map dPr)=true
 | []=>rfl
 | p::l=>by
  show(PyData.canLay0 (dPr p)&&PyData.canLayAll0 (l.map dPr))=true;rw[ZeI l];rfl
theorem ZcU:∀l:List Pr,PyData.depthAll (l.map dPr)<=1
 | []=>Nat.zero_le _
 | p::l=>by
  show max (PyData.depth (dPr p)) (PyData.depthAll (l.map dPr))<=1;have h1:=ZcU l;have h2:PyData.depth (dPr p)<=1:=Nat.le_refl _;lia
theorem eq_data{K:PySem.W.Frag}{H:Hp}{a b:V}{d:PyData}{neg:Bool}{Q:VK}(ha:Dp K H a d)(hb:Dp K H b d)(hl:d.canLay0=true)(hd:d.depth<=200)(q:Q (.bl (!neg)) H):Zls K neg a b H Q:=by
 refine⟨d,d,ha,hb,hl,hl,by lia,?_⟩;rw[PySem.SeqAt.eqv_refl _ hl];cases neg <;> exact q
end Fg
namespace L2
open PySem PySem.Spec PyProof.Rows PySem.W Srd Sts Stg
section
variable{X:Cx}{e:Expr}{te:TE}{p p' pos pos':Pos}
def kPr(q:Pr):List Key:=[Sum.inl q.1,Sum.inl q.2]
theorem Zhw{q q':Pr}(h:kPr q=kPr q'):q=q':=by
 obtain⟨a,b⟩:=q;obtain⟨a',b'⟩:=q';simp only[kPr,List.cons.injEq,Sum.inl.injEq,and_true] at h;obtain⟨rfl,rfl⟩:=h;rfl
theorem ZcX{P:Program}{w:World}{h0 h:Heap}{S t:Addr}{q:Pr}{x:Int}(hk:IsTupleKey (Zn P w) h0 (kPr q) t)(hlt:t<S)(k:∀b o,b<S->h0.get? b=some o->h.get? b=some o)(ks:List Key):Zaz (Zn P w) h ks (x,.ref t)↔ks=kPr q:=by
 obtain⟨o,its,n,h1,h2⟩:=hk;have hk':IsTupleKey (Zn P w) h (kPr q) t:=⟨o,its,n,k t o hlt h1,h2⟩;constructor
 ·rintro⟨b,e,hb⟩;cases e;exact ZbW hb hk'
 ·rintro rfl;exact⟨t,rfl,hk'⟩
def PIt(P:Program)(w:World)(h0:Heap)(items:List Value)(qs:List Pr):Prop:=items.length=qs.length/\∀(i:Nat) v q,items[i]?= some v->qs[i]?= some q->∃t,v=.ref t/\IsTupleKey (Zn P w) h0 (kPr q) t/\IsP h0 v q
theorem PIt.of{P:Program}{w:World}{H:Hp}{h:Heap}{zs:List V}{qs:List Pr}{us:List Value}(ok:HOk P w H h)(r:Vals zs us)(ql:PL H zs qs):PIt P w h us qs:=by
 refine⟨by rw[<- r.length,ql.length],fun i v q hv hq=>?_⟩;obtain⟨z,hz,rz⟩:=ZbD r i v hv;obtain⟨t,q',h1,rfl,h3⟩:=ql.get i z hz;rw[hq] at h1;cases h1;obtain rfl:v=Value.ref t:=rz;exact⟨t,rfl,Zdo ok (ks:=kPr q) h3,Zge ok h3⟩
theorem PIt.mem{P:Program}{w:World}{h0:Heap}{items:List Value}{qs:List Pr}(x:PIt P w h0 items qs){v:Value}(hv:v∈items):∃t,∃q∈qs,v=.ref t/\IsTupleKey (Zn P w) h0 (kPr q) t/\IsP h0 v q:=by
 obtain⟨i,hi⟩:=List.mem_iff_getElem?.mp hv;have hlt:=(List.getElem?_eq_some_iff.mp hi).1;rw[x.1] at hlt;obtain⟨t,h1,h2,h3⟩:=x.2 i v qs[i] hi (List.getElem?_eq_getElem hlt);exact⟨t,qs[i],List.getElem_mem hlt,h1,h2,h3⟩
def JP(P:Program)(w:World)(h0:Heap)(S:Addr)(items:Array Value)(qs:List Pr)(i:Nat)(h:Heap):Prop :=
 Zfa (Zn P w) h S (· ∈ items.toList) (fun ks=>∃(j:Nat)(q:Pr),j<i/\qs[j]?= some q/\ks=kPr q) i (Zdq w)/\∀b o,b<S->h0.get? b=some o->h.get? b=some o
theorem JP.goes{P:Program}{w:World}{A:Around}{h0:Heap}{S:Addr}{items:Array Value}{qs:List Pr}(hu:A.units<cLine)(x:PIt P w h0 items.toList qs)(hS:h0.objs.size<=S)(hn:items.size<=900):Goes P w A S items (JP P w h0 S items qs) where
 keep:=fun i h h' ⟨⟨o,es,ep,t,ho,hx,hd,hT,hsz,hl,hv,hP⟩,hb⟩ k=>by
  have hb':∀b o,b<S->h0.get? b=some o->h'.get? b=some o:=fun b o hlt e=>k b o (Nat.le_of_lt hlt) (hb b o hlt e);have key:∀e∈es.toList,∀ks,Zaz (Zn P w) h ks e↔Zaz (Zn P w) h' ks e:=fun e he ks=>by
   obtain⟨tt,q,_,h1,h2,_⟩:=x.mem (hv e he);obtain⟨e1,e2⟩:=e;dsimp only at h1;subst h1;have hlt:tt<S:=by
    obtain⟨o2,_,_,g1,_⟩:=h2;exact Nat.lt_of_lt_of_le (Heap.lt_size g1) hS
   rw[ZcX h2 hlt hb,ZcX h2 hlt hb']
  refine⟨⟨o,es,ep,t,k S o (Nat.le_refl _) ho,hx,hd,⟨hT.tab,fun e he=>?_,hT.way,?_⟩,hsz,hl,hv,fun ks=>?_⟩,hb'⟩
  ·obtain⟨ks,h1,h2⟩:=hT.ent e he;exact⟨ks,(key e he ks).mp h1,h2⟩
  ·exact List.Pairwise.imp_of_mem (fun{a b} ha hb' hab ks h1 h2=>hab ks ((key a ha ks).mpr h1) ((key b hb' ks).mpr h2)) hT.one
  ·rw[<- hP ks];constructor
   ·rintro⟨e,he,h1⟩;exact⟨e,he,(key e he ks).mpr h1⟩
   ·rintro⟨e,he,h1⟩;exact⟨e,he,(key e he ks).mp h1⟩
 add:=fun i v s Q E hi ⟨hS1,hb⟩ q=>by
  have hil:i<items.size:=(Array.getElem?_eq_some_iff.mp hi).1;have hiq:i<qs.length:=by rw[<- x.1,Array.length_toList];exact hil
  have hi':items.toList[i]?= some v:=by rw[Array.getElem?_toList];exact hi
  obtain⟨t,rfl,h2,_⟩:=x.2 i v qs[i] hi' (List.getElem?_eq_getElem hiq);obtain⟨o2,its2,n2,g1,g2⟩:=h2;have hlt:t<S:=Nat.lt_of_lt_of_le (Heap.lt_size g1) hS;have hk:IsTupleKey (Zn P w) s.heap (kPr qs[i]) t:=⟨o2,its2,n2,hb t o2 hlt g1,g2⟩;refine ZlP hu hS1 (by lia) hk (List.mem_of_getElem? hi') fun b h' tk _ sb hS2=>q b h' tk sb ⟨?_,fun b o hlt e=>(sb.2 b (Nat.ne_of_lt hlt)).trans (hb b o hlt e)⟩;have e:(fun ks=>(∃(j:Nat)(q:Pr),j<i/\qs[j]?= some q/\ks=kPr q)\/ks=kPr qs[i])=fun ks=>∃(j:Nat)(q:Pr),j<i+1/\qs[j]?= some q/\ks=kPr q:=funext fun ks=>propext (by
   constructor
   ·rintro(⟨j,q,h1,h2,h3⟩|h)
    ·exact⟨j,q,by lia,h2,h3⟩
    ·exact⟨i,qs[i],by lia,List.getElem?_eq_getElem hiq,h⟩
   ·rintro⟨j,q,h1,h2,h3⟩;by_cases c:j<i
    ·exact .inl ⟨j,q,c,h2,h3⟩
    ·have:j=i:=by lia
     subst this;rw[List.getElem?_eq_getElem hiq] at h2;cases h2;exact .inr h3)
  rw[<- e];exact hS2
theorem JP.zero{P:Program}{w:World}{h0 h:Heap}{S:Addr}{items:Array Value}{qs:List Pr}(hS:h.get? S=some (Z2 w))(k:∀b o,b<S->h0.get? b=some o->h.get? b=some o):JP P w h0 S items qs 0 h :=
 ⟨⟨_,#[],0,_,hS,⟨rfl,rfl,rfl⟩,rfl,⟨⟨rfl,rfl,.inl rfl,(by show(0:Nat)*5<7*3;decide),List.Pairwise.nil⟩,(fun _ h=>(nomatch h)),(fun i e j h=>(nomatch h)),List.Pairwise.nil⟩,Nat.le_refl _,rfl,(fun _ h=>(nomatch h)),fun ks=>⟨fun⟨_,h,_⟩=>(nomatch h),fun⟨_,_,h,_⟩=>absurd h (Nat.not_lt_zero _)⟩⟩,k⟩
theorem JP.out{P:Program}{w:World}{h0 h:Heap}{S:Addr}{items:Array Value}{qs:List Pr}(x:PIt P w h0 items.toList qs)(hS:h0.objs.size<=S)(j:JP P w h0 S items qs items.size h) :
  ∃o es ep t,h.get? S=some o/\o.ExactSet/\o.data=.set es ep t/\Tab es t/\es.size<=items.size/\t.led=Zdq w/\(∀e∈es.toList,e.2∈items.toList)/\(es.toList.map fun e=>kpr h0 e.2).Nodup/\∀q,q∈(es.toList.map fun e=>kpr h0 e.2)↔q∈qs:=by
 obtain⟨⟨o,es,ep,t,ho,hx,hd,hT,hsz,hl,hv,hP⟩,hb⟩:=j;have key:∀e∈es.toList,∀ks,Zaz (Zn P w) h ks e↔ks=kPr (kpr h0 e.2):=fun e he ks=>by
  obtain⟨tt,q,_,h1,h2,h3⟩:=x.mem (hv e he);have hq:=ZeV h3;obtain⟨e1,e2⟩:=e;dsimp only at h1 hq ⊢;subst h1;have hlt:tt<S:=by
   obtain⟨o2,_,_,g1,_⟩:=h2;exact Nat.lt_of_lt_of_le (Heap.lt_size g1) hS
  rw[ZcX h2 hlt hb,hq]
 refine⟨o,es,ep,t,ho,hx,hd,hT.tab,hsz,hl,hv,?_,fun q=>?_⟩
 ·refine List.pairwise_map.mpr (List.Pairwise.imp_of_mem (fun{a b} ha hb' hab z=>?_) hT.one);exact hab _ ((key a ha _).mpr rfl) ((key b hb' _).mpr (by rw[z]))
 ·have h1:=hP (kPr q);constructor
  ·intro hq;obtain⟨e,he,rfl⟩:=List.mem_map.mp hq;obtain⟨j,q',_,h2,h3⟩:=h1.mp ⟨e,he,(key e he _).mpr rfl⟩;rw[Zhw h3];exact List.mem_of_getElem? h2
  ·intro hq;obtain⟨j,hj⟩:=List.mem_iff_getElem?.mp hq;have hjl:=(List.getElem?_eq_some_iff.mp hj).1;obtain⟨e,he,hbr⟩:=h1.mpr ⟨j,q,by rw[<- Array.length_toList,x.1];exact hjl,hj,rfl⟩;exact List.mem_map.mpr ⟨e,he,(Zhw ((key e he _).mp hbr)).symm⟩
def Ze2(K:PySem.W.Frag)(v:V)(H:Hp)(Q:VK):Prop :=
 ∃l ys qs,v=.ref l/\SqL K H l ys/\ys.length<=900/\PL H ys qs/\∀r zs ms,H r=none->ms.Pairwise (fun a b=>pLt a b=true)->(∀q,q∈ms↔q∈qs)->PL H zs ms->Q (.ref r) (upd H r (.lst zs))
set_option maxHeartbeats 1000000 in
theorem ZeR(hc:X.calm=true)(hu:X.A.units+200<cLine)(hg:Gl X "sorted") (hm:X.mg "sorted" = none) (hg':Gl X "set") (hm':X.mg "set" = none) (pa:PA X [e] (ZdW te Zh7))
  (hs:starEach [e] X.env=[(false,eval e X.env)]:=by rfl) (hs':starEach [.Call (.Name "set" p') [e] [] pos'] X.env=[(false,eval (.Call (.Name "set" p') [e] [] pos') X.env)]:=by rfl) :
  PE X (.Call (.Name "sorted" p) [.Call (.Name "set" p') [e] [] pos'] [] pos) (fun σ H Q=>te σ H fun v H1=>Ze2 X.K v H1 Q):=by
 intro pins s σ H Q I h;refine wpAny_Call_Name_kw (Zbp I hg hm ZbL ?_);refine PyProof.Rows.callWith_builtin1 ?_ hs' rfl;rw[hs'];refine Calls.spliced_cons ?_;refine wpAny_Call_Name_kw (Zbp I hg' hm' Zgh ?_);refine PyProof.Rows.callWith_type1 (thn (pa pos' pins s σ H (fun vs H1=>match vs with | [v]=>Ze2 X.K v H1 Q|_=>False) I h) fun us s1 ⟨vs,H1,I1,r,q⟩=>?_) hs rfl
 match vs,r,q with
 | [v],r,q =>
  obtain⟨u,rfl,ru⟩:=r.one;obtain⟨l,ys,qs,rfl,hq,hl9,hql,q⟩:=q;cases ru;obtain⟨its,rv,pl,hz⟩:=I1.list hq;have hlen:=rv.length;have x:PIt X.prog X.w s1.heap its.toArray.toList qs:=PIt.of I1.hok rv hql;refine Zby (J:=JP X.prog X.w s1.heap s1.heap.objs.size its.toArray qs) (I1.ok.hd hc) (by lia) pl.isList (fun B hB=>JP.goes hB x (Nat.le_refl _) (by rw[List.size_toArray];lia)) (fun h h1 h2=>JP.zero h1 h2) fun h2 tk hJ k2=>?_;refine Calls.spliced_nil ?_;have k2':∀b o,s1.heap.get? b=some o->h2.get? b=some o:=fun b o e=>k2 b o (Heap.lt_size e) e;obtain⟨o,es,ep,t,ho,hx,hd,hT,hsz,hled,hv,hnd,hmem⟩:=hJ.out x (Nat.le_refl _);have hsz':es.size<=its.length:=by simpa using hsz
  refine Z8 (lv:=fun u v=>pLt (kpr s1.heap u) (kpr s1.heap v)) (s:={ s1 with heap:=h2,toks:=tk }) (C:=fun ys=>ys.Perm (es.toList.map (·.2))) (Zdd.swo (kpr s1.heap)) (fun Q' E' hq'=>?_) (fun ys' h6 tk6 d6 hC k6 h2l=>?_) fun pa ys' out h3 tk3 d3 c hC hperm hso k3 e3 hle hos=>?_
  ·refine ZaL (I1.ok.hd hc) ho hx hd hT hled (by lia) fun ys' h' tk' d' k' hp hle=>hq' ys' h' tk' d' k' hp ?_ hle;rw[hp.length_eq,List.length_map,Array.length_toList];lia
  ·refine Zcz (h0:=s1.heap) (fun v hv'=>?_) (fun b o e=>k6 b o (k2' b o e)) h2l;obtain⟨e,he,rfl⟩:=List.mem_map.mp (hC.mem_iff.mp hv');obtain⟨tt,q,_,h1,_,h3⟩:=x.mem (hv e he);exact⟨q,h3⟩
  ·have hpm:out.toList.Perm (es.toList.map (·.2)):=hperm.trans hC;obtain⟨zs,rz,hzq⟩:=ZhK I1.hok rv hql out.toList fun u hu=>by
    obtain⟨e,he,rfl⟩:=List.mem_map.mp (hpm.mem_iff.mp hu);exact hv e he
   have hzl:zs.length=out.size:=rz.length.trans (Array.length_toList ..);have hS0:s1.heap.objs.size<=pa:=Nat.le_trans (Nat.le_of_lt (Heap.lt_size ho)) hle;have I2:=I1.laid (h':=h3) (t':=tk3) (a:=pa) (o:=.lst zs) (fun b o e=>k3 b o (k2' b o e)) hS0 (show Z4 X.prog X.w _ h3 _ (.lst zs) from⟨by rw[sizeLine_eq];lia,out.toList,c,rz,e3⟩);have hmp:(out.toList.map (kpr s1.heap)).Perm (es.toList.map fun e=>kpr s1.heap e.2):=by
    have:=hpm.map (kpr s1.heap);rw[List.map_map] at this;exact this
   refine⟨.ref pa,_,I2.draws (d:=d3),rfl,q pa zs _ (I1.hok.fresh hS0) (Zdd.strict ?_ (hmp.nodup_iff.mpr hnd)) (fun q=>hmp.mem_iff.trans (hmem q)) hzq⟩;exact List.pairwise_map.mpr hso
def ZlG(K:PySem.W.Frag):R2:=fun x y H Q=>∃(b p:Addr)(q:Pr)(zs:List V)(qs:List Pr),x=.ref b/\y=.ref p/\H b=some (tp q)/\SqL K H p zs/\PL H zs qs/\Q (.bl (decide (q∈qs))) H
theorem Zkd(a b:Pr):PyData.eqv (Fg.dPr a) (Fg.dPr b)=decide (a=b):=by
 obtain⟨a1,a2⟩:=a;obtain⟨b1,b2⟩:=b;rw[Bool.eq_iff_iff];simp[Fg.dPr,PyData.eqv,PyData.eqvAll]
theorem Zjl(q:Pr):∀qs:List Pr,((qs.map Fg.dPr).any fun y=>PyData.eqv y (Fg.dPr q))=decide (q∈qs)
 | []=>rfl
 | a::qs=>by
  rw[List.map_cons,List.any_cons,Zjl q qs,Zkd,Bool.eq_iff_iff,Bool.or_eq_true,decide_eq_true_eq,decide_eq_true_eq,decide_eq_true_eq,List.mem_cons];exact or_congr ⟨Eq.symm,Eq.symm⟩ Iff.rfl
theorem Zkc(hu:X.A.units+200<cLine):OpR X (compareOp .In) (ZlG X.K):=by
 intro pins s σ H x y v u Q I rx ry h;obtain⟨b,p,q,zs,qs,rfl,rfl,hb,hq,hQ,h⟩:=h;have dx:Dp X.K H (.ref b) (Fg.dPr q):=.tup (SqT.of hb) (.cons (.int _) (.cons (.int _) .nil));have dy:Dp X.K H (.ref p) (.list (qs.map Fg.dPr)):=.lst hq (Fg.Zgg hQ);obtain⟨as,ra⟩:=dx.reads I rx;obtain⟨bs,rb⟩:=dy.reads I ry;have:=Fg.ZcU qs;refine PySem.SeqAt.in_list_reads rb ra (Fg.ZeI qs) rfl (by lia) ⟨.bl _,H,I,rfl,?_⟩;rw[Zjl];exact h
theorem Zh2{K:PySem.W.Frag}(h:X.K=K)(hu:X.A.units+200<cLine):OpR X (compareOp .In) (ZlG K):=h ▸ Zkc hu
end
end L2
namespace K31
open PySem L2 FgM Fg
def top(i:Nat):Stmt:=PySem.Challenge.pw_formgrove_k31_first_word.main.body.getD i (.Pass ⟨0,0,0,0⟩)
abbrev Zaf:Stmt:=top 2
abbrev ZD:Stmt:=inClass (top 4) 0
abbrev Zw:Stmt:=inClass (top 4) 1
abbrev Zal:Stmt:=inClass (top 4) 2
abbrev ZG:Stmt:=inClass (top 4) 3
abbrev ZF:Stmt:=inClass (top 4) 4
abbrev Z3:Stmt:=inClass (top 4) 5
abbrev Z6:Stmt:=inClass (top 4) 6
abbrev Zz:Stmt:=inClass (top 4) 8
abbrev Zam:Stmt:=inClass (top 4) 9
abbrev ZaD:Stmt:=top 6
abbrev Zbb:Stmt:=top 7
abbrev ZaC:Stmt:=top 8
abbrev ZbC:Stmt:=top 9
abbrev Za0:Stmt:=top 10
abbrev Zba:Stmt:=top 11
abbrev Za1:Stmt:=top 12
abbrev ZbF:Stmt:=top 13
abbrev Zac:Stmt:=top 14
abbrev Zak:Stmt:=top 15
abbrev ZaW:Stmt:=top 16
abbrev Zaa:Stmt:=top 17
abbrev ZaI:Stmt:=top 18
theorem ZQ:FnScope ["form","found","grown","kind","tag","inner","rest"] ["form"] (Ze Zaf):=⟨rfl,rfl,rfl,by decide +kernel,rfl,by decide +kernel,by decide +kernel⟩
theorem ZM:FnScope ["self","form","alive","kind","tag","inner","rest"] ["self","form"] (Ze ZD):=⟨rfl,rfl,rfl,by decide +kernel,rfl,by decide +kernel,by decide +kernel⟩
theorem ZbU:FnScope ["self","kind","tag"] ["self","kind","tag"] (Ze Zw):=⟨rfl,rfl,rfl,by decide +kernel,rfl,by decide +kernel,by decide +kernel⟩
theorem Zdu:FnScope ["self","word"] ["self","word"] (Ze Zal):=⟨rfl,rfl,rfl,by decide +kernel,rfl,by decide +kernel,by decide +kernel⟩
theorem ZK:FnScope ["self","tag","begins","begin","now","inner","rest"] ["self","tag"] (Ze ZG):=⟨rfl,rfl,rfl,by decide +kernel,rfl,by decide +kernel,by decide +kernel⟩
theorem Zu:FnScope ["self","ended","tag","pairs","begin","now","inner","rest"] ["self"] (Ze ZF):=⟨rfl,rfl,rfl,by decide +kernel,rfl,by decide +kernel,by decide +kernel⟩
theorem ZcN:FnScope ["self"] ["self"] (Ze Z3):=⟨rfl,rfl,rfl,by decide +kernel,rfl,by decide +kernel,by decide +kernel⟩
theorem ZcB:FnScope ["self"] ["self"] (Ze Z6):=⟨rfl,rfl,rfl,by decide +kernel,rfl,by decide +kernel,by decide +kernel⟩
theorem Zan:FnScope ["self","found","begin","now"] ["self"] (Ze Zz):=⟨rfl,rfl,rfl,by decide +kernel,rfl,by decide +kernel,by decide +kernel⟩
theorem Zds:FnScope ["self"] ["self"] (Ze Zam):=⟨rfl,rfl,rfl,by decide +kernel,rfl,by decide +kernel,by decide +kernel⟩
theorem Zev:FnScope ["_law_script","_law_k"] ["_law_script","_law_k"] (Ze ZaD):=⟨rfl,rfl,rfl,by decide +kernel,rfl,by decide +kernel,by decide +kernel⟩
theorem ZgH:FnScope ["_law_found"] ["_law_found"] (Ze Zbb):=⟨rfl,rfl,rfl,by decide +kernel,rfl,by decide +kernel,by decide +kernel⟩
theorem Zau:FnScope ["_law_script","_law_first","_law_many","_law_found","_law_number","_law_k","_law_cell"] ["_law_script","_law_first","_law_many"] (Ze ZaC):=⟨rfl,rfl,rfl,by decide +kernel,rfl,by decide +kernel,by decide +kernel⟩
theorem ZaK:FnScope ["_law_cell","_law_some","_law_number","_law_stem","_law_k","_law_one"] ["_law_cell"] (Ze ZbC):=⟨rfl,rfl,rfl,by decide +kernel,rfl,by decide +kernel,by decide +kernel⟩
theorem Zat:FnScope ["_law_first","_law_many","_law_tags_here","_law_numbers_here","_law_paths_here","_law_number","_law_kind","_law_inner","_law_rest"] ["_law_first","_law_many","_law_tags_here","_law_numbers_here"] (Ze Za0):=⟨rfl,rfl,rfl,by decide +kernel,rfl,by decide +kernel,by decide +kernel⟩
theorem Zab:FnScope ["_law_script","_law_tags_here","_law_first","_law_many","_law_count","_law_numbers_here","_law_begins","_law_finals","_law_paths_here"] ["_law_script","_law_tags_here"] (Ze Zba):=⟨rfl,rfl,rfl,by decide +kernel,rfl,by decide +kernel,by decide +kernel⟩
theorem Zbh:FnScope ["_law_shape_here","_law_good","_law_kind","_law_turn","_law_rule"] ["_law_shape_here"] (Ze Za1):=⟨rfl,rfl,rfl,by decide +kernel,rfl,by decide +kernel,by decide +kernel⟩
theorem ZeM:FnScope ["_law_tags_here","_law_number","_law_way"] ["_law_tags_here","_law_number"] (Ze ZbF):=⟨rfl,rfl,rfl,by decide +kernel,rfl,by decide +kernel,by decide +kernel⟩
theorem ZaX:FnScope ["_law_found","_law_due","_law_k","_law_pair"] ["_law_found","_law_due"] (Ze Zac):=⟨rfl,rfl,rfl,by decide +kernel,rfl,by decide +kernel,by decide +kernel⟩
theorem ZbP:FnScope ["_law_found","_law_due","_law_k"] ["_law_found","_law_due"] (Ze Zak):=⟨rfl,rfl,rfl,by decide +kernel,rfl,by decide +kernel,by decide +kernel⟩
theorem Zda:FnScope ["_law_reader","_law_levels","_law_high"] ["_law_reader","_law_levels"] (Ze ZaW):=⟨rfl,rfl,rfl,by decide +kernel,rfl,by decide +kernel,by decide +kernel⟩
theorem ZbA:FnScope ["_law_reader","_law_paths_here","_law_level","_law_found"] ["_law_reader","_law_paths_here","_law_level"] (Ze Zaa):=⟨rfl,rfl,rfl,by decide +kernel,rfl,by decide +kernel,by decide +kernel⟩
theorem Zbd:FnScope ["_law_script","_law_tags_here","_law_shape_here","_law_alive_here","_law_paths_here","_law_level","_law_beside","_law_number","_law_word_here","_law_reader","_law_found","_law_above","_law_levels"] ["_law_script"] (Ze ZaI):=⟨rfl,rfl,rfl,by decide +kernel,rfl,by decide +kernel,by decide +kernel⟩
abbrev ZcF:List Str:=["bool","dict","int","isinstance","len","list","max","range","set","sorted","str","tuple"]
section
variable{P:Program}{w:World}{K:PySem.W.Frag}{mg:Str->Option Value}{base:Heap}{f:Addr}{fd:FuncData}
theorem ZeJ(B:∀x∈ZcF,mg x=none)(F:Fun K "_law_cell_at" "_law_cell_at" ZaD f fd):FnOk P w K mg base CX0 1 f fd ["_law_script","_law_k"] (Zfc K):=by
 refine F.ok Zev (fun vs H Q E h=>?_) (fun cdv A outer s H vs Q E hr h=>?_)
 ·obtain⟨a,ns,k,rfl,_⟩:=h;rfl
 obtain⟨a,ns,k,rfl,hS,h63,h0,q⟩:=h;refine⟨_,(Zc (ZaT (Z0 Zka (pv 1) (Zx ZJ rfl (B "len" (by decide)) PySem.boot_len (Zb (pv 0) Zd)) (Zao _))
   (Zg (Zy (ZX Zaj (pv 0) (pv 1) (fun _ _=>rfl))))
   ZR)
  (Zg (Zy Zf))),?_⟩
 refine⟨_,rfl,_,rfl,a,_,rfl,.inl hS,_,_,rfl,rfl,_,rfl,?_⟩;refine ZdP (fun c=>?_) (fun c=>?_)
 ·have c':=of_decide_eq_true c;rw[List.length_map] at c';obtain⟨v,hv⟩:=ZjC (ns:=ns) h0 c';exact⟨_,rfl,_,rfl,a,_,k,_,rfl,rfl,hS,hv,q v⟩
 ·exact q 0
theorem Zek(B:∀x∈ZcF,mg x=none)(g_l_cell_at:Has P w K mg base "_law_cell_at" ["_law_script","_law_k"] 1 (Zfc K)) (F:Fun K "_law_numbers" "_law_numbers" ZaC f fd) :
  FnOk P w K mg base CX0 2 f fd ["_law_script","_law_first","_law_many"] (Zgo K):=by
 refine F.ok Zau (fun vs H Q E h=>?_) (fun cdv A outer s H vs Q E hr h=>?_)
 ·obtain⟨a,ns,fi,m,rfl,_⟩:=h;rfl
 obtain⟨a,ns,fi,m,rfl,hS,h63,f0,f1,h0,h1,q⟩:=h;refine⟨_,(Zc (Zt (i:=3) Zau.nd rfl (Or.inl rfl) (ZaQ Zd))
  (Zc (Zt (i:=4) Zau.nd rfl (Or.inl rfl) (Zr Za3 Zf (pv 1)))
  (Zc (ZaP PassesOwn.never rfl (ZaY rfl (B "range" (by decide)) (Zb (pv 2) Zd)) (Zo (i:=5) Zau.nd rfl (Or.inl rfl))
   (Zc (Zt (i:=6) Zau.nd rfl (Or.inl rfl) (Zav g_l_cell_at hr rfl (Zb (pv 0) (Zb (Zr Za3 Zf (Zr ZS (Zr Za3 (pv 1) (pv 5)) (Zx (Zid rfl) rfl (B "max" (by decide)) ZkH (Zb Zf (Zb (Zr ZfM (Zx ZJ rfl (B "len" (by decide)) PySem.boot_len (Zb (pv 0) Zd)) Zf) Zd))))) Zd))))
    (Zc (Zt (i:=4) Zau.nd rfl (Or.inl rfl) (Zr ZS (Zr Za3 (Zr Za3 (Zr Zb3 (pv 4) Zf) (pv 6)) (Zr Zb3 (pv 5) (pv 5))) Zf))
    (Zg (Zbm (Ze8 PySem.F.plainAttrs_list PySem.F.slot_list_append PySem.F.type_list_append Zaw (pv 3) (Zb (pv 4) Zd)))))))
  (Zg (Zy (pv 3)))))),?_⟩
 refine⟨by decide,fun p hp=>?_⟩;refine⟨_,rfl,_,_,rfl,rfl,?_⟩;refine⟨_,rfl,m,rfl,by lia,by lia,Zbt (lo:=0) (n:=m.toNat) (fun i σ H1=>∃(xs:List Int)(num:Int)(v4 v5:Option V),σ =[some (.ref a),some (.int fi),some (.int m),some (.ref p),some (.int num),v4,v5] /\
  Zj H H1/\H1 p=some (.lst (xs.map V.int))/\xs.length=i/\(∀x∈xs,0<=x/\x<2147483647)) ⟨[],_,none,none,rfl,Zj.new hp,Za,rfl,fun _ h=>nomatch h⟩ ?_ ?_⟩
 ·rintro i σ H1 hi ⟨xs,num,v4,v5,rfl,sm,hp1,hl,hx⟩;have hS1:=sm.seq hS;refine⟨_,rfl,_,rfl,_,rfl,_,_,rfl,rfl,_,rfl,a,_,rfl,.inl hS1,_,_,rfl,rfl,_,_,rfl,_,_,rfl,rfl,?_,_,_,rfl,rfl,a,ns,_,rfl,hS1,h63,?_,fun v=>?_⟩
  ·exact Zhy _
  ·have:=Int.emod_nonneg (fi+(0+(i:Int))) (Int.ne_of_gt (Zhy (((ns.map V.int).length:Int)-2)));lia
  refine⟨_,rfl,_,_,rfl,rfl,.inr ⟨by decide,by decide⟩,_,rfl,_,_,rfl,rfl,_,rfl,_,rfl,_,_,rfl,rfl,.inl ⟨by lia,by lia⟩,_,_,rfl,rfl,_,_,rfl,rfl,(by show(0:Int)<2147483647;decide),?_⟩;refine⟨_,rfl,.inl ⟨rfl,_,SqL.of hp1⟩,_,rfl,p,_,_,rfl,rfl,hp1,Zq (by rw[List.length_map];lia),?_⟩;refine⟨xs ++ [(num*48271+v+(0+(i:Int))*(0+(i:Int))) % 2147483647],_,_,_,rfl,sm.upd_new hp,?_,?_,?_⟩
  ·rw[Za,List.map_append];rfl
  ·rw[List.length_append,hl];rfl
  ·intro x hx';rcases List.mem_append.mp hx' with hx'|hx'
   ·exact hx x hx'
   ·obtain rfl:=List.mem_singleton.mp hx';exact⟨Int.emod_nonneg _ (by decide),Int.emod_lt_of_pos _ (by decide)⟩
 ·rintro σ H1 ⟨xs,num,v4,v5,rfl,sm,hp1,hl,hx⟩;exact⟨_,rfl,q p xs H1 sm hp hp1 (by lia) hx⟩
theorem Zhj(B:∀x∈ZcF,mg x=none)(F:Fun K "_law_tags" "_law_tags" ZbC f fd):FnOk P w K mg base CX0 1 f fd ["_law_cell"] Zfp:=by
 refine F.ok ZaK (fun vs H Q E h=>?_) (fun cdv A outer s H vs Q E hr h=>?_)
 ·obtain⟨c,rfl,_⟩:=h;rfl
 obtain⟨c,rfl,q⟩:=h;refine⟨_,(Zc (Zt (i:=1) ZaK.nd rfl (Or.inl rfl) Zc6)
  (Zc (Zt (i:=2) ZaK.nd rfl (Or.inl rfl) (Zr Za3 (Zr ZS (pv 0) Zf) Zf))
  (Zc (Zt (i:=3) ZaK.nd rfl (Or.inl rfl) Zc6)
  (Zc (ZaP PassesOwn.never rfl (ZaY rfl (B "range" (by decide)) (Zb (Zr Za3 Zf (Zr ZS (pv 2) Zf)) Zd)) (Zo (i:=4) ZaK.nd rfl (Or.inl rfl))
   (Zc (Zt (i:=2) ZaK.nd rfl (Or.inl rfl) (Zr ZS (Zr Za3 (Zr Zb3 (pv 2) Zf) (pv 4)) Zf))
    (Zg (Zt (i:=3) ZaK.nd rfl (Or.inl rfl) (Zr ZbG (pv 3) (ZX Zh6 (pv 1) (Zr ZS (pv 2) Zf) (fun _ _=>rfl)))))))
  (Zc (Zt (i:=5) ZaK.nd rfl (Or.inl rfl) (ZX Zh6 (pv 1) (Zr ZS (Zr Zap (pv 2) Zf) Zf) (fun _ _=>rfl)))
  (Zg (Zy (ZaQ (Zb (pv 3) (Zb (Zr ZbG (pv 3) (pv 5)) (Zb (Zr ZbG (pv 5) (pv 3)) Zd))))))))))),?_⟩
 refine⟨_,rfl,_,_,rfl,rfl,(by show(0:Int)<1000003;decide),_,_,rfl,rfl,?_⟩;have m0:=Zg3 (c % 1000003+11) (n:=7) (by decide);refine⟨_,rfl,_,_,rfl,rfl,(by show(0:Int)<7;decide),_,_,rfl,rfl,_,rfl,by lia,by lia,Zbt (lo:=0) (n:=(1+(c % 1000003+11) % 7).toNat) (fun i σ H1=>∃(t:Str)(nu:Int)(v4 v5:Option V),σ =[some (.int c),some (.str ABC),some (.int nu),some (.str t),v4,v5]/\H1=H/\t.length=i/\ZiU t) ⟨Str.empty,_,none,none,rfl,rfl,rfl,fun _ h=>(nomatch h)⟩ ?_ ?_⟩
 ·rintro i σ H1 hi ⟨t,nu,v4,v5,rfl,rfl,hl,hlt⟩;refine⟨_,rfl,_,_,rfl,rfl,.inr ⟨by decide,by decide⟩,_,rfl,_,_,rfl,rfl,_,_,rfl,rfl,(by show(0:Int)<2147483629;decide),?_⟩;obtain⟨ch,hc,c1,c2⟩:=ZhA (i:=((nu*69621+(0+(i:Int))) % 2147483629) % 26) (Int.emod_nonneg _ (by decide)) (Int.emod_lt_of_pos _ (by decide));refine⟨_,rfl,_,rfl,_,rfl,_,_,rfl,rfl,(by show(0:Int)<26;decide),_,_,ch,rfl,rfl,(by decide),hc,_,_,rfl,rfl,?_,?_⟩
  ·show t.length+1<=sizeLine;exact Zd3 (by lia)
  ·refine⟨t++⟨#[ch]⟩,_,_,_,rfl,rfl,?_,Zed hlt (ZdY c1 c2).let0⟩;rw[ZfC,hl];rfl
 ·rintro σ H1 ⟨t,nu,v4,v5,rfl,rfl,hl,hlt⟩;obtain⟨ch,hc,c1,c2⟩:=ZhA (i:=nu / 26 % 26) (Int.emod_nonneg _ (by decide)) (Int.emod_lt_of_pos _ (by decide));have hT:ZhH t:=⟨fun z=>by
   have e:t.cps.toList.length=t.length:=Array.length_toList;rw[z] at e;have e0:(0:Nat)=t.length:=e;lia,hlt⟩
  have h1:(⟨#[ch]⟩:Str).length=1:=rfl;refine⟨_,rfl,_,rfl,_,_,rfl,rfl,⟨by decide,by decide⟩,_,_,rfl,rfl,(by show(0:Int)<26;decide),_,_,ch,rfl,rfl,(by decide),hc,?_⟩;refine⟨_,rfl,_,rfl,_,rfl,_,_,rfl,rfl,?_,_,rfl,_,rfl,_,_,rfl,rfl,?_,by show(3:Nat)<=sizeLine;decide,fun r hr=>q r [t,t++⟨#[ch]⟩,⟨#[ch]⟩++t] _ (Zj.new hr) hr Za rfl fun x hx=>?_⟩
  ·rw[h1];exact Zd3 (by lia)
  ·rw[h1];exact Zd3 (by lia)
  ·rcases List.mem_cons.mp hx with rfl|hx
   ·exact⟨hT,by lia⟩
   ·rcases List.mem_cons.mp hx with rfl|hx
    ·exact⟨ZkV hT (ZdY c1 c2).let0,by rw[ZfC,h1];lia⟩
    ·rw[List.mem_singleton.mp hx];exact⟨ZkZ (ZdY c1 c2).let0 hT,by rw[ZfC,h1];lia⟩
set_option maxHeartbeats 2000000 in
theorem ZgZ(B:∀x∈ZcF,mg x=none)(F:Fun K "_law_paths" "_law_paths" Za0 f fd):FnOk P w K mg base CX0 1 f fd ["_law_first","_law_many","_law_tags_here","_law_numbers_here"] (Zef K):=by
 refine F.ok Zat (fun vs H Q E h=>?_) (fun cdv A outer s H vs Q E hr h=>?_)
 ·obtain⟨fi,m,tr,nr,ts,ns,rfl,_⟩:=h;rfl
 obtain⟨fi,m,tr,nr,ts,ns,rfl,m1,m64,hT,h3,hN,hnl,q⟩:=h;have hu1:(A.deeper (PyProof.Rows.envOfC (Str.ofString "_law_paths") (Ze Za0) s.heap.objs.size f cdv)).units+1<cLine:=by have:=hr.un;lia
 have mpos:(0:Int)<m:=by lia
 refine⟨_,(Zc (Zt (i:=4) Zat.nd rfl (Or.inl rfl) Zgd)
  (Zc (ZaP PassesOwn.never rfl (ZaF (pv 3)) (Zo (i:=5) Zat.nd rfl (Or.inl rfl))
   (Zc (Zt (i:=6) Zat.nd rfl (Or.inl rfl) (Zr ZS (pv 5) (pv 1)))
    (Zc (Zt (i:=7) Zat.nd rfl (Or.inl rfl) (Zr ZS (Zr Zap (Zr Zap (pv 5) (pv 1)) Zf) (pv 1)))
    (Zc (Zt (i:=8) Zat.nd rfl (Or.inl rfl) (Zr ZS (Zr Zap (pv 5) (Zr Zb3 (Zr Zb3 Zf (pv 1)) (pv 1))) (pv 1)))
    (Zc (ZaT (Z0 Zll (pv 1) Zf (Zao _))
     (Zc (Zt (i:=7) Zat.nd rfl (Or.inl rfl) (Zr ZS (Zr Za3 (pv 6) (Zr ZS (Zr Zap (pv 5) Zf) Zf)) (pv 1)))
      (Zg (Zt (i:=8) Zat.nd rfl (Or.inl rfl) (Zr ZS (Zr Za3 (pv 6) (Zr ZS (Zr Zap (pv 5) Zf) Zf)) (pv 1)))))
     ZR)
    (Zg (Zcl hu1 (pv 4) (ZaH (Zb (pv 6) (Zb (ZX Zaj (pv 2) (Zr ZS (Zr Zap (pv 5) (pv 1)) Zf) (fun _ _=>rfl)) (Zb (pv 7) (Zb (pv 8) Zd))))) ZaB rfl)))))))
  (Zg (Zy (ZaJ Zbn rfl (B "tuple" (by decide)) ZcJ (Zb (Zx (ZeD rfl) rfl (B "sorted" (by decide)) Zc4 (Zb (ZaJ (ZdV rfl) rfl (B "list" (by decide)) Zdb (Zb (pv 4) Zd)) Zd)) Zd)))))),?_⟩
 refine fun d hd=>?_;have s0:Zj H (upd H d (.dT [])):=Zj.new hd;refine⟨_,rfl,nr,rfl,⟨_,SqL.of (s0 _ _ hN)⟩,Zbo (K:=K) (a:=nr) (xs:=ns.map V.int) (fun i σ H1=>∃(v5 v6 v7 v8:Option V)(mm:List (List Key×V))(qs:List Srd.Qd),σ =[some (.int fi),some (.int m),some (.ref tr),some (.ref nr),some (.ref d),v5,v6,v7,v8]/\Zj H H1/\H1 d=some (.dT mm)/\mm.map (·.1)=qs.map kOf/\qs.Nodup/\qs.length<=i/\QB m qs/\∀q∈qs,q.2.1∈ts)
  ⟨none,none,none,none,[],[],rfl,s0,Za,rfl,List.nodup_nil,Nat.le_refl _,(fun _ h=>nomatch h),(fun _ h=>nomatch h)⟩ ?_ ?_ ?_⟩
 ·rintro i σ H1 _ ⟨_,_,_,_,_,_,_,s1,_⟩;exact SqL.of (s1 _ _ hN)
 ·rintro i x σ H1 hx ⟨v5,v6,v7,v8,mm,qs,rfl,s1,hm,hk,hnd,hql,hqb,htg⟩;rw[List.getElem?_map] at hx;obtain⟨n,hn,rfl⟩:=Option.map_eq_some_iff.mp hx;have hil:=(List.getElem?_eq_some_iff.mp hn).1;have hkl:mm.length=qs.length:=by have:=congrArg List.length hk;simpa using this
  have mb:m*m<1073741824:=by
   have:m*m<=64*64:=Int.mul_le_mul m64 m64 (by lia) (by decide);lia
  have mm3:(0:Int)<3*m*m:=Int.mul_pos (by lia) mpos;have mm4:3*m*m<1073741824:=by
   have:m*m<=64*64:=Int.mul_le_mul m64 m64 (by lia) (by decide);rw[Int.mul_assoc];lia
  have j3:=Zg3 (n / m) (n:=3) (by decide);have fin:∀inn res:Int,0<=inn/\inn<m->0<=res/\res<m->∀t,(upd H1 t (tq (n % m,ts[(n / m % 3).toNat]'(by lia),inn,res))) t=some (tq (n % m,ts[(n / m % 3).toNat]'(by lia),inn,res))->H1 t=none->∃(v5 v6 v7 v8:Option V)(mm':List (List Key×V))(qs:List Srd.Qd),[some (.int fi),some (.int m),some (.ref tr),some (.ref nr),some (.ref d),some (V.int n),some (V.int (n % m)),some (V.int inn),some (V.int res)] =[some (.int fi),some (.int m),some (.ref tr),some (.ref nr),some (.ref d),v5,v6,v7,v8]/\Zj H (upd (upd H1 t (tq (n % m,ts[(n / m % 3).toNat]'(by lia),inn,res))) d (.dT (putK mm (kOf (n % m,ts[(n / m % 3).toNat]'(by lia),inn,res)) (V.bl true))))/\(upd (upd H1 t (tq (n % m,ts[(n / m % 3).toNat]'(by lia),inn,res))) d (.dT (putK mm (kOf (n % m,ts[(n / m % 3).toNat]'(by lia),inn,res)) (V.bl true)))) d=some (.dT mm')/\mm'.map (·.1)=qs.map kOf/\qs.Nodup/\qs.length<=i+1/\QB m qs/\∀q∈qs,q.2.1∈ts:=by
   intro inn res hi1 hr1 t _ ht;generalize hq:(n % m,ts[(n / m % 3).toNat]'(by lia),inn,res)=qq;have hqq:∀q∈(if qq∈qs then qs else qs ++ [qq]),q∈qs\/q=qq:=fun q hq=>by
    split at hq
    ·exact .inl hq
    ·rcases List.mem_append.mp hq with h|h
     ·exact .inl h
     ·exact .inr (List.mem_singleton.mp h)
   refine⟨_,_,_,_,_,if qq∈qs then qs else qs ++ [qq],rfl,(s1.trans (Zj.new ht)).upd_new hd,Za,ZkY hk _ _,?_,?_,fun q hq'=>?_,fun q hq'=>?_⟩
   ·split
    ·exact hnd
    ·rename_i hno
     exact List.nodup_append.mpr ⟨hnd,List.pairwise_singleton _ _,fun x hx y hy e=>hno (by rw[<- List.mem_singleton.mp hy,<- e];exact hx)⟩
   ·split
    ·lia
    ·rw[List.length_append,List.length_singleton];lia
   ·rcases hqq q hq' with h|rfl
    ·exact hqb q h
    ·rw[<- hq];exact⟨Zg3 n m1,hi1,hr1⟩
   ·rcases hqq q hq' with h|rfl
    ·exact htg q h
    ·rw[<- hq];exact List.getElem_mem _
  have hti:∀H':Hp,Zj H H'->atI (ts.map V.str) (n / m % 3)=some (.str (ts[(n / m % 3).toNat]'(by lia))):=fun H' _=>by
   have e:=Zfk (ws:=ts) (n:=(n / m % 3).toNat) (by lia);rw[Int.toNat_of_nonneg j3.1] at e;exact e
  refine⟨_,rfl,_,rfl,_,_,rfl,rfl,mpos,?_⟩;refine⟨_,rfl,_,rfl,_,_,rfl,rfl,⟨mpos,by lia⟩,_,_,rfl,rfl,⟨by decide,by decide⟩,_,rfl,_,_,rfl,rfl,mpos,?_⟩;refine⟨_,rfl,_,rfl,_,_,rfl,rfl,.inl ⟨by decide,by decide⟩,_,rfl,_,_,rfl,rfl,.inr ⟨by lia,by lia⟩,_,_,rfl,rfl,⟨mm3,mm4⟩,_,rfl,_,_,rfl,rfl,mpos,?_⟩;refine⟨_,rfl,_,_,rfl,rfl,_,rfl,ZdP (fun _=>?_) (fun _=>?_)⟩
  ·refine⟨_,rfl,_,rfl,_,_,rfl,rfl,⟨by decide,by decide⟩,_,_,rfl,rfl,(by show(0:Int)<3;decide),_,_,rfl,rfl,_,rfl,_,_,rfl,rfl,mpos,?_⟩;refine⟨_,rfl,_,rfl,_,_,rfl,rfl,⟨by decide,by decide⟩,_,_,rfl,rfl,(by show(0:Int)<3;decide),_,_,rfl,rfl,_,rfl,_,_,rfl,rfl,mpos,?_⟩;refine⟨_,rfl,_,rfl,_,rfl,_,rfl,_,rfl,_,_,rfl,rfl,⟨mpos,by lia⟩,_,_,rfl,rfl,(by show(0:Int)<3;decide),tr,_,_,_,rfl,rfl,SqL.of (s1 _ _ hT),hti H1 s1,_,rfl,_,rfl,by show(4:Nat)<=sizeLine;decide,fun t ht=>?_⟩;refine⟨d,_,rfl,ZgJ.t (k:=kOf (_,_,_,_)) (by rw[Zh (Zi hm ht)];exact hm) Za (Zq (by lia)),?_⟩;exact fin _ _ (Zg3 _ m1) (Zg3 _ m1) t Za ht
  ·refine⟨_,rfl,_,rfl,_,rfl,_,rfl,_,rfl,_,_,rfl,rfl,⟨mpos,by lia⟩,_,_,rfl,rfl,(by show(0:Int)<3;decide),tr,_,_,_,rfl,rfl,SqL.of (s1 _ _ hT),hti H1 s1,_,rfl,_,rfl,by show(4:Nat)<=sizeLine;decide,fun t ht=>?_⟩;refine⟨d,_,rfl,ZgJ.t (k:=kOf (_,_,_,_)) (by rw[Zh (Zi hm ht)];exact hm) Za (Zq (by lia)),?_⟩;exact fin _ _ (Zg3 _ m1) (Zg3 _ m1) t Za ht
 ·rintro σ H1 ⟨v5,v6,v7,v8,mm,qs,rfl,s1,hm,hk,hnd,hql,hqb,htg⟩;rw[List.length_map] at hql;refine⟨_,rfl,d,mm,rfl,hm,fun l ys hl hkl=>?_⟩;rw[hk] at hkl;have hQ:=KL.quads hkl;have s2:Zj H1 (upd H1 l (.lst ys)):=Zj.new hl;have x2:(upd H1 l (.lst ys)) l=some (.lst ys):=Za;generalize upd H1 l (.lst ys)=H2 at s2 x2 ⊢;have hQ2:QL H2 ys qs:=hQ.keep fun b xs e=>s2 _ _ e;refine .inl ⟨l,ys,qs,rfl,SqL.of x2,by rw[hQ.length];lia,hQ2,fun r zs ms hr2 hso hperm hQ3=>?_⟩;have s3:Zj H2 (upd H2 r (.lst zs)):=Zj.new hr2;refine⟨r,_,rfl,.inl ⟨SqL.of Za,fun u hu=>?_⟩⟩;have s4:=s3.trans (Zj.new (o:=.tup zs) hu);refine q u zs ms _ ((s1.trans s2).trans s4) Za (hQ3.keep fun b xs e=>s4 _ _ e) (Srd.Zd5.strict hso (hperm.nodup_iff.mpr hnd)) (by rw[hperm.length_eq];lia) (fun x hx=>hqb x (hperm.mem_iff.mp hx)) fun x hx=>htg x (hperm.mem_iff.mp hx)
set_option maxHeartbeats 4000000 in
theorem ZgS(B:∀x∈ZcF,mg x=none)(g_l_cell_at:Has P w K mg base "_law_cell_at" ["_law_script","_law_k"] 1 (Zfc K)) (g_l_numbers:Has P w K mg base "_law_numbers" ["_law_script","_law_first","_law_many"] 2 (Zgo K)) (g_l_paths:Has P w K mg base "_law_paths" ["_law_first","_law_many","_law_tags_here","_law_numbers_here"] 1 (Zef K)) (F:Fun K "_law_shape" "_law_shape" Zba f fd):FnOk P w K mg base CX0 3 f fd ["_law_script","_law_tags_here"] (Zd6 K):=by
 refine F.ok Zab (fun vs H Q E h=>?_) (fun cdv A outer s H vs Q E hr h=>?_)
 ·obtain⟨a,tr,ns,ts,rfl,_⟩:=h;rfl
 obtain⟨a,tr,ns,ts,rfl,hS,h63,hT,h3,hlt,q⟩:=h;have hu:=Zcj hr;have none0:∀D:Ends,D.rt=Q->∀(σ : St)(H0:Hp),Zj H H0->ZlH (Zkl (ZdW (tC (.int 0)) (ZdW (Zkl Zh7) (ZdW (Zkl Zh7) (ZdW (Zkl Zh7) Zh7))))) D σ H0:=by
  intro D hD σ H0 s0;refine⟨by show(0:Nat)<=sizeLine;decide,fun t1 h1=>⟨by show(0:Nat)<=sizeLine;decide,fun t2 h2=>⟨by show(0:Nat)<=sizeLine;decide,fun t3 h3=>⟨by show(4:Nat)<=sizeLine;decide,fun r hr=>?_⟩⟩⟩⟩;have k1:Zj H0 (upd H0 t1 (.tup [])):=Zj.new h1;have d1:(upd H0 t1 (.tup [])) t1=some (.tup []):=Za;have k2:=Zj.new (o:=.tup []) h2;have d2:(upd (upd H0 t1 (.tup [])) t2 (.tup [])) t2=some (.tup []):=Za;have k3:=Zj.new (o:=.tup []) h3;have d3:(upd (upd (upd H0 t1 (.tup [])) t2 (.tup [])) t3 (.tup [])) t3=some (.tup []):=Za;have k4:=Zj.new (o:=.tup [.int 0,.ref t1,.ref t2,.ref t3]) hr;rw[hD];refine q r ⟨0,[],[],[]⟩ _ (s0.trans (((k1.trans k2).trans k3).trans k4)) ⟨t1,t2,t3,[],Za,k4 _ _ (k3 _ _ (k2 _ _ d1)),k4 _ _ (k3 _ _ d2),k4 _ _ d3,.nil⟩ ⟨by decide,by decide,.nil,.nil,.nil,(fun _ h=>nomatch h),(fun _ h=>nomatch h),(fun _ h=>nomatch h),by decide,by decide,by decide,fun _ h=>nomatch h⟩ (by decide) (fun _ h=>nomatch h)
 refine cut 5 (fun σ' H'=>∃(fi m ct:Int),σ'=[some (.ref a),some (.ref tr),some (.int fi),some (.int m),some (.int ct),none,none,none,none]/\Zj H H'/\1<=m/\m<=64/\0<=ct/\ct<=60)
  ?_ (fun u hu5 hR=>⟨_,(Zc (Zt (i:=2) Zab.nd rfl (Or.inl rfl) (Zav g_l_cell_at hr rfl (Zb (pv 0) (Zb Zf Zd))))
  (@Zc _ _ _ _ _ (@ZiG _ 3 _ _ _ _ _ _ _ _ _ Zab.nd rfl (Or.inl rfl) rfl (Zr ZS (pv 2) Zf) (fun _ _=>rfl) (Or.inl rfl))
  (Zc (Zt (i:=4) Zab.nd rfl (Or.inl rfl) (Zr ZfM Zf (Zr ZS (Zr Zap (pv 2) Zf) Zf)))
  (Zc (ZaT (Z0 ZeB (Zr ZS (Zr Zap (pv 2) Zf) Zf) Zf (Zao _))
   (Zc (Zt (i:=3) Zab.nd rfl (Or.inl rfl) (Zr Za3 Zf (Zr ZS (Zr Zap (pv 2) Zf) Zf)))
    (Zg (Zt (i:=4) Zab.nd rfl (Or.inl rfl) (Zr ZfM Zf (Zr ZS (Zr Zap (pv 2) Zf) Zf)))))
   ZR)
  (Zc (ZaT (Z0 ZeB (pv 3) Zf (Zao _))
   (Zg (Zy (ZaH (Zb Zf (Zb (ZaH Zd) (Zb (ZaH Zd) (Zb (ZaH Zd) Zd)))))))
   ZR)
  hu5))))),?_⟩)
 rotate_left
 ·refine⟨_,rfl,a,ns,0,rfl,hS,h63,by decide,fun fi=>?_⟩;refine⟨by show(12:Nat)<=sizeLine;decide,fun pl hpl=>?_⟩;obtain⟨j,hj,hj8⟩:=Zli fi (n:=12) (by decide);have hj':fi % 12=(j:Int):=hj;have hm:∃v:Int,atI ([3,2,4,1,3,2,3,4,2,3,4,0].map V.int) ((j:Nat):Int)=some (.int v)/\0<=v/\v<=4:=by
   have hd:∀j:Fin 12,∃v:Fin 5,atI ([3,2,4,1,3,2,3,4,2,3,4,0].map V.int) ((j.val:Nat):Int)=some (.int (v.val:Int)):=by decide
   obtain⟨v,hv⟩:=hd ⟨j,hj8⟩;exact⟨(v.val:Int),hv,by omega,by have:=v.isLt;omega⟩
  obtain⟨v,hv,v1,v4⟩:=hm;refine⟨_,rfl,_,_,rfl,rfl,(by show(0:Int)<12;decide),pl,_,_,.int v,rfl,rfl,SqL.of Za,(by rw[hj'];exact hv),?_⟩;have b2:=Zg3 (fi / 12) (n:=8) (by decide);refine⟨_,rfl,_,_,rfl,rfl,⟨by decide,by decide⟩,_,_,rfl,rfl,(by show(0:Int)<8;decide),_,_,rfl,rfl,?_⟩;have s1:Zj H (upd H pl (.lst ([3,2,4,1,3,2,3,4,2,3,4,0].map V.int))):=Zj.new hpl;refine⟨_,rfl,_,_,rfl,rfl,⟨by decide,by decide⟩,_,_,rfl,rfl,(by show(0:Int)<8;decide),rfl,_,rfl,ZdP (fun _=>?_) (fun _=>?_)⟩
  ·have b3:=Zg3 (fi / 768) (n:=60) (by decide);have b4:=Zg3 (fi / 46080) (n:=61) (by decide);refine⟨_,rfl,_,_,rfl,rfl,⟨by decide,by decide⟩,_,_,rfl,rfl,(by show(0:Int)<60;decide),_,_,rfl,rfl,?_⟩;refine⟨_,rfl,_,_,rfl,rfl,⟨by decide,by decide⟩,_,_,rfl,rfl,(by show(0:Int)<61;decide),_,_,rfl,rfl,?_⟩;refine⟨_,rfl,rfl,_,rfl,ZdP (fun _=>none0 _ rfl _ _ s1) (fun _=>?_)⟩;exact hR _ _ ⟨fi,_,_,rfl,s1,by omega,by omega,by omega,by omega⟩
  ·refine⟨_,rfl,rfl,_,rfl,ZdP (fun _=>none0 _ rfl _ _ s1) (fun c=>?_)⟩;have hv0:v≠0:=fun z=>c (decide_eq_true (congrArg V.int z));exact hR _ _ ⟨fi,_,_,rfl,s1,by omega,by omega,by omega,by omega⟩
 refine ZlK _ 1 (fun σ' H'=>∃(fi m ct:Int)(nr:Addr)(xs:List Int),σ'=[some (.ref a),some (.ref tr),some (.int fi),some (.int m),some (.int ct),some (.ref nr),none,none,none]/\Zj H H'/\1<=m/\m<=64/\H' nr=some (.lst (xs.map V.int))/\2<=xs.length/\xs.length<=62/\∀x∈xs,0<=x/\x<2147483647)
  ?_ (fun u hu6 hR=>⟨_,(Zc (Zt (i:=5) Zab.nd rfl (Or.inr rfl) (Zav g_l_numbers hr rfl (Zb (pv 0) (Zb Zf (Zb (Zr Za3 (pv 4) Zf) Zd)))))
  hu6),?_⟩)
 rotate_left
 ·rintro σ0 H0 ⟨fi,m,ct,rfl,s0,m1,m64,c0,c60⟩;refine⟨_,rfl,_,rfl,_,_,rfl,rfl,a,ns,0,_,rfl,s0.seq hS,h63,by decide,by decide,by omega,by omega,fun nr xs H1 s1 _ e1 hl hx=>?_⟩;exact hR _ _ ⟨fi,m,ct,nr,xs,rfl,s0.trans s1,m1,m64,e1,by omega,by omega,hx⟩
 refine ZlK _ 3 (fun σ' H'=>∃(fi m ct:Int)(nr pb pf:Addr)(xs hs es:List Int)(v8:Option V),σ'=[some (.ref a),some (.ref tr),some (.int fi),some (.int m),some (.int ct),some (.ref nr),some (.ref pb),some (.ref pf),v8]/\Zj H H'/\1<=m/\m<=64/\H' nr=some (.lst (xs.map V.int))/\2<=xs.length/\xs.length<=62/\H' pb=some (.lst (hs.map V.int))/\H' pf=some (.lst (es.map V.int))/\hs.length<=66/\es.length<=66/\IB m hs/\IB m es)
  ?_ (fun u hu7 hR=>⟨_,(Zc (ZaG (cl:=_) (n0:=6) Zab.nd rfl (Or.inl rfl) ["_law_q"] [("_law_numbers_here",5)] (ZaY rfl (B "range" (by decide)) (Zb (pv 3) Zd)) (fun _ _ _ _=>(Zo (i:=0) (show List.Nodup (["_law_q","_law_numbers_here"]:List Str) by decide) rfl (Or.inl rfl))) (fun _ _ _ _=>(Z0 ZeB (Zr ZS (Zr ZS (Zr Zb3 (Zr Zb3 (ZX (Zf6 (K:=K) rfl) (pv 1) Zf (fun _ _=>rfl)) (Zr Za3 (pv 0) Zf)) Zf) Zf) Zf) Zf (Zao _))) (fun _ _ _ _=>(pv 0)) rfl rfl (by decide) rfl (by decide) (Zcx (by(repeat' first|exact List.forall_mem_nil _|refine List.forall_mem_cons.mpr ⟨?_,?_⟩) <;> rfl)) (Zbx (by(repeat' first|exact List.forall_mem_nil _|refine List.forall_mem_cons.mpr ⟨?_,?_⟩) <;> first|(intro h;exact⟨_,rfl⟩)|(intro h;exact absurd h (by decide)))) (fun _=>by(repeat' first|exact List.forall_mem_nil _|refine List.forall_mem_cons.mpr ⟨?_,?_⟩) <;> exact⟨rfl,rfl,Or.inl rfl⟩) (fun _=>rfl) rfl)
  (Zc (ZaG (cl:=_) (n0:=7) Zab.nd rfl (Or.inl rfl) ["_law_q"] [("_law_numbers_here",5)] (ZaY rfl (B "range" (by decide)) (Zb (pv 3) Zd)) (fun _ _ _ _=>(Zo (i:=0) (show List.Nodup (["_law_q","_law_numbers_here"]:List Str) by decide) rfl (Or.inl rfl))) (fun _ _ _ _=>(Z0 ZeB (Zr ZS (Zr ZS (Zr Zb3 (Zr Zb3 (ZX (Zf6 (K:=K) rfl) (pv 1) Zf (fun _ _=>rfl)) (Zr Za3 (pv 0) Zf)) Zf) Zf) Zf) Zf (Zao _))) (fun _ _ _ _=>(pv 0)) rfl rfl (by decide) rfl (by decide) (Zcx (by(repeat' first|exact List.forall_mem_nil _|refine List.forall_mem_cons.mpr ⟨?_,?_⟩) <;> rfl)) (Zbx (by(repeat' first|exact List.forall_mem_nil _|refine List.forall_mem_cons.mpr ⟨?_,?_⟩) <;> first|(intro h;exact⟨_,rfl⟩)|(intro h;exact absurd h (by decide)))) (fun _=>by(repeat' first|exact List.forall_mem_nil _|refine List.forall_mem_cons.mpr ⟨?_,?_⟩) <;> exact⟨rfl,rfl,Or.inl rfl⟩) (fun _=>rfl) rfl)
  (Zc (ZaT (Z0 ZgU (Zr ZS (Zr Zap (pv 2) Zf) Zf) Zf (Zao _))
   (Zc (Zbm (Ze8 PySem.F.plainAttrs_list PySem.F.slot_list_append PySem.F.type_list_append Zaw (pv 6) (Zb (Zr ZS (ZX Zaj (pv 5) Zf (fun _ _=>rfl)) (pv 3)) Zd)))
    (Zg (Zbm (Ze8 PySem.F.plainAttrs_list PySem.F.slot_list_append PySem.F.type_list_append Zaw (pv 7) (Zb (Zr ZS (ZX Zaj (pv 5) Zf (fun _ _=>rfl)) (pv 3)) Zd)))))
   ZR)
  hu7))),?_⟩)
 rotate_left
 ·rintro σ0 H0 ⟨fi,m,ct,nr,xs,rfl,s0,m1,m64,e0,hx2,hx62,hxb⟩;have mpos:(0:Int)<m:=by omega
  obtain⟨x0,hx0⟩:∃x0,xs[0]?= some x0:=⟨xs[0]'(by omega),List.getElem?_eq_getElem (by omega)⟩;obtain⟨x1,hx1⟩:∃x1,xs[1]?= some x1:=⟨xs[1]'(by omega),List.getElem?_eq_getElem (by omega)⟩;have at0:atI (xs.map V.int) 0=some (.int x0):=Zbj (j:=0) (by rw[List.getElem?_map,hx0];rfl);have at1:atI (xs.map V.int) 1=some (.int x1):=Zbj (j:=1) (by rw[List.getElem?_map,hx1];rfl);have bx0:=hxb x0 (List.mem_of_getElem? hx0);have bx1:=hxb x1 (List.mem_of_getElem? hx1);refine⟨_,rfl,m,rfl,by omega,by omega,fun pb hpb=>?_⟩;refine ZcW (lo:=0) (n:=m.toNat) (p:=pb) (fun i ys σ H2=>∃(v0:Option V)(hs:List Int),σ =[v0,some (.ref nr)]/\Zj H0 H2/\H2 pb=some (.lst ys)/\ys=hs.map V.int/\hs.length<=i/\IB m hs)
   ⟨none,[],rfl,Zj.new hpb,Za,rfl,Nat.le_refl _,fun _ h=>nomatch h⟩ ?_ ?_ ?_
  ·rintro i ys σ H2 _ ⟨v0,hs,_,_,h,_⟩;exact h
  ·rintro i ys σ H2 hi ⟨v0,hs,rfl,sm,hp,rfl,hl,hib⟩;refine⟨_,rfl,nr,_,0,_,rfl,rfl,SqL.of (sm _ _ e0),at0,_,rfl,_,_,rfl,rfl,_,_,rfl,rfl,.inr ⟨by omega,by omega⟩,_,_,rfl,rfl,.inr ⟨by decide,by decide⟩,_,_,rfl,rfl,(by show(0:Int)<1000003;decide),_,_,rfl,rfl,(by show(0:Int)<3;decide),rfl,_,rfl,ZdP (fun _=>?_) (fun _=>?_)⟩
   ·refine⟨_,rfl,hp,Zq (by rw[List.length_map];omega),CW.next hi ⟨_,hs ++ [0+(i:Int)],rfl,sm.upd_new hpb,Za,by rw[List.map_append];rfl,by rw[List.length_append,List.length_singleton];omega,hib.snoc (by omega)⟩⟩
   ·exact CW.next hi ⟨_,hs,rfl,sm,hp,rfl,by omega,hib⟩
  rintro ys σ H2 ⟨v0,hs,rfl,s2,hp,rfl,hl,hib⟩;refine⟨_,rfl,m,rfl,by omega,by omega,fun pf hpf=>?_⟩;refine ZcW (lo:=0) (n:=m.toNat) (p:=pf) (fun i ys σ H3=>∃(v0:Option V)(es:List Int),σ =[v0,some (.ref nr)]/\Zj H2 H3/\H3 pf=some (.lst ys)/\ys=es.map V.int/\es.length<=i/\IB m es)
   ⟨none,[],rfl,Zj.new hpf,Za,rfl,Nat.le_refl _,fun _ h=>nomatch h⟩ ?_ ?_ ?_
  ·rintro i ys σ H3 _ ⟨v0,es,_,_,h,_⟩;exact h
  ·rintro i ys σ H3 hi ⟨v0,es,rfl,sm,hp3,rfl,hl3,hib3⟩;refine⟨_,rfl,nr,_,1,_,rfl,rfl,SqL.of (sm _ _ (s2 _ _ e0)),at1,_,rfl,_,_,rfl,rfl,_,_,rfl,rfl,.inr ⟨by omega,by omega⟩,_,_,rfl,rfl,.inr ⟨by decide,by decide⟩,_,_,rfl,rfl,(by show(0:Int)<1000033;decide),_,_,rfl,rfl,(by show(0:Int)<2;decide),rfl,_,rfl,ZdP (fun _=>?_) (fun _=>?_)⟩
   ·refine⟨_,rfl,hp3,Zq (by rw[List.length_map];omega),CW.next hi ⟨_,es ++ [0+(i:Int)],rfl,sm.upd_new hpf,Za,by rw[List.map_append];rfl,by rw[List.length_append,List.length_singleton];omega,hib3.snoc (by omega)⟩⟩
   ·exact CW.next hi ⟨_,es,rfl,sm,hp3,rfl,by omega,hib3⟩
  rintro ys σ H3 ⟨v0',es,rfl,s3,hp3,rfl,hl3,hib3⟩;have s03:=s2.trans s3;have t3:=s03 _ _ e0;have p3:=s3 _ _ hp;have hpf0:H2 pf=none:=hpf;have npf:pb≠pf:=Zi hp hpf;have nrb:nr≠pb:=Zi e0 hpb;have nrf:nr≠pf:=Zi (s2 _ _ e0) hpf;have s0H:=s0.trans s03;have hpbH:H pb=none:=s0.free hpb;have hpfH:H pf=none:=(s0.trans s2).free hpf;refine⟨_,rfl,_,_,rfl,rfl,⟨by decide,by decide⟩,_,_,rfl,rfl,(by show(0:Int)<8;decide),rfl,_,rfl,ZdP (fun _=>?_) (fun _=>hR _ _ ⟨fi,m,ct,nr,pb,pf,xs,hs,es,_,rfl,s0H,m1,m64,t3,hx2,hx62,p3,hp3,by omega,by omega,hib,hib3⟩)⟩;refine⟨_,rfl,.inl ⟨rfl,_,SqL.of p3⟩,_,rfl,nr,_,0,_,rfl,rfl,SqL.of t3,at0,_,rfl,_,_,rfl,rfl,mpos,pb,_,_,rfl,rfl,p3,Zq (by rw[List.length_map];omega),?_⟩;have s4:=s0H.upd_new (o:=.lst (hs.map V.int ++ [.int (x0 % m)])) hpbH;have x4:(upd H3 pb (.lst (hs.map V.int ++ [.int (x0 % m)]))) pb=some (.lst ((hs ++ [x0 % m]).map V.int)):=by rw[Za,List.map_append];rfl
  have y4:(upd H3 pb (.lst (hs.map V.int ++ [.int (x0 % m)]))) pf=some (.lst (es.map V.int)):=by rw[Zh npf.symm];exact hp3
  have z4:(upd H3 pb (.lst (hs.map V.int ++ [.int (x0 % m)]))) nr=some (.lst (xs.map V.int)):=by rw[Zh nrb];exact t3
  generalize upd H3 pb (.lst (hs.map V.int ++ [.int (x0 % m)]))=H4 at s4 x4 y4 z4 ⊢;refine⟨_,rfl,.inl ⟨rfl,_,SqL.of y4⟩,_,rfl,nr,_,1,_,rfl,rfl,SqL.of z4,at1,_,rfl,_,_,rfl,rfl,mpos,pf,_,_,rfl,rfl,y4,Zq (by rw[List.length_map];omega),?_⟩;refine hR _ _ ⟨fi,m,ct,nr,pb,pf,xs,hs ++ [x0 % m],es ++ [x1 % m],_,rfl,s4.upd_new hpfH,m1,m64,?_,hx2,hx62,?_,?_,by rw[List.length_append,List.length_singleton];omega,by rw[List.length_append,List.length_singleton];omega,hib.snoc (Zg3 _ m1),hib3.snoc (Zg3 _ m1)⟩
  ·rw[Zh nrf];exact z4
  ·rw[Zh npf];exact x4
  ·rw[Za,List.map_append];rfl
 refine⟨_,(Zc (Zt (i:=8) Zab.nd rfl (Or.inl rfl) (Zav g_l_paths hr rfl (Zb (pv 2) (Zb (pv 3) (Zb (pv 1) (Zb (ZiD Zj2 (pv 5) (ZjQ Zf) ZjI) Zd))))))
  (Zg (Zy (ZaH (Zb (pv 3) (Zb (ZaJ Zbn rfl (B "tuple" (by decide)) ZcJ (Zb (Zct rfl hu rfl (B "sorted" (by decide)) rfl (B "set" (by decide)) (Zb (pv 6) Zd)) Zd)) (Zb (ZaJ Zbn rfl (B "tuple" (by decide)) ZcJ (Zb (Zct rfl hu rfl (B "sorted" (by decide)) rfl (B "set" (by decide)) (Zb (pv 7) Zd)) Zd)) (Zb (pv 8) Zd)))))))),?_⟩
 rintro σ0 H0 ⟨fi,m,ct,nr,pb,pf,xs,hs,es,v8,rfl,s0,m1,m64,e0,hx2,hx62,eb,ef,hhl,hel,hhb,heb⟩;refine⟨_,rfl,_,rfl,_,rfl,_,rfl,2,rfl,nr,_,rfl,SqL.of e0,fun sl hsl=>?_⟩;rw[show ZjL (xs.map V.int) (some 2) none=(xs.drop 2).map V.int by rw[List.map_drop];exact Ziy _ 2];have s1:Zj H0 (upd H0 sl (.lst ((xs.drop 2).map V.int))):=Zj.new hsl;have x1:(upd H0 sl (.lst ((xs.drop 2).map V.int))) sl=some (.lst ((xs.drop 2).map V.int)):=Za;generalize upd H0 sl (.lst ((xs.drop 2).map V.int))=H1 at s1 x1 ⊢;refine⟨fi,m,tr,sl,ts,xs.drop 2,rfl,m1,m64,s1 _ _ (s0 _ _ hT),h3,x1,by rw[List.length_drop];omega,fun pp zs qs H2 s2 e2 hQ hrq hql hqb hqt=>?_⟩;have s02:=s1.trans s2;refine⟨_,rfl,_,rfl,.inr ⟨pb,hs,rfl,SqL.of (s02 _ _ eb),by omega,fun r1 y1 hr1 hri1 hme1=>⟨r1,_,rfl,.inl ⟨SqL.of Za,fun u1 hu1=>?_⟩⟩⟩⟩;have s4:Zj H2 (upd (upd H2 r1 (.lst (y1.map V.int))) u1 (.tup (y1.map V.int))):=(Zj.new hr1).trans (Zj.new hu1);have e4:(upd (upd H2 r1 (.lst (y1.map V.int))) u1 (.tup (y1.map V.int))) u1=some (.tup (y1.map V.int)):=Za;generalize upd (upd H2 r1 (.lst (y1.map V.int))) u1 (.tup (y1.map V.int))=H4 at s4 e4 ⊢;refine⟨_,rfl,.inr ⟨pf,es,rfl,SqL.of (s4 _ _ (s02 _ _ ef)),by omega,fun r2 y2 hr2 hri2 hme2=>⟨r2,_,rfl,.inl ⟨SqL.of Za,fun u2 hu2=>?_⟩⟩⟩⟩;have s5:Zj H4 (upd (upd H4 r2 (.lst (y2.map V.int))) u2 (.tup (y2.map V.int))):=(Zj.new hr2).trans (Zj.new hu2);have e5:(upd (upd H4 r2 (.lst (y2.map V.int))) u2 (.tup (y2.map V.int))) u2=some (.tup (y2.map V.int)):=Za;generalize upd (upd H4 r2 (.lst (y2.map V.int))) u2 (.tup (y2.map V.int))=H5 at s5 e5 ⊢;have s45:=s4.trans s5;refine⟨_,rfl,by show(4:Nat)<=sizeLine;decide,fun r hr=>?_⟩;have s7:Zj H5 (upd H5 r (.tup [.int m,.ref u1,.ref u2,.ref pp])):=Zj.new hr;have s47:=s45.trans s7;refine q r ⟨m,y1,y2,qs⟩ _ ((s0.trans s02).trans s47) ⟨u1,u2,pp,zs,Za,s7 _ _ (s5 _ _ e4),s7 _ _ e5,s47 _ _ e2,hQ.keep fun b xs e=>s47 _ _ e⟩
  ⟨by show 0<=m;omega,m64,hri1,hri2,hrq,fun x hx=>hhb x ((hme1 x).mp hx),fun x hx=>heb x ((hme2 x).mp hx),hqb,?_,?_,by show qs.length<=100;omega,fun z hz=>Zj6 (hlt _ (hqt z hz)).1⟩ hql hqt
 ·exact Nat.le_trans (Zbl (ZdC hri1) fun x hx=>(hme1 x).mp hx) (by omega)
 ·exact Nat.le_trans (Zbl (ZdC hri2) fun x hx=>(hme2 x).mp hx) (by omega)
set_option maxHeartbeats 2000000 in
theorem Zd9(B:∀x∈ZcF,mg x=none)(F:Fun K "live_kinds" "live_kinds" Zaf f fd):FnOk P w K mg base CX0 1 f fd ["form"] (ZfF K):=by
 refine F.ok ZQ (fun vs H Q E h=>?_) (fun cdv A outer s H vs Q E hr h=>?_)
 ·obtain⟨a,fm,rfl,_⟩:=h;rfl
 obtain⟨a,fm,rfl,hF,ok,q⟩:=h;obtain⟨f1,f2,f3,zf,a1,a2,a3,a4,a5⟩:=id hF;have n0:=ok.n0;have n64:=ok.n8;have htl:=ok.tl;have zfl:=a5.length;obtain⟨N,hN⟩:∃N:Nat,fm.n=(N:Int):=⟨fm.n.toNat,(Int.toNat_of_nonneg n0).symm⟩;have hu1:(A.deeper (PyProof.Rows.envOfC (Str.ofString "live_kinds") (Ze Zaf) s.heap.objs.size f cdv)).units+1<cLine:=by have:=hr.un;lia
 refine⟨_,(Zc (Zt (i:=1) ZQ.nd rfl (Or.inl rfl) (ZaJ (Za4 rfl) rfl (B "dict" (by decide)) Zft (Zb (ZdS (cl:=[]) ["end"] [] (ZbZ (ZX ZaO (pv 0) Zf (fun _ _=>rfl))) (fun _ _ _ _=>(Zo (i:=0) nd1 rfl (Or.inl rfl))) (fun _ _ _ _=>(ZaH (Zb (pv 0) (Zb ZaB Zd)))) rfl rfl (by decide) rfl (by decide) (fun _ _ h=>nomatch h) (Zdc (by decide)) (fun _ _ h=>nomatch h) (fun _=>rfl)) Zd)))
  (Zc (Zt (i:=2) ZQ.nd rfl (Or.inl rfl) ZaB)
  (Zc (Zjc PassesOwn.never (ZP (pv 2) (fun _=>rfl))
   (Zc (Zt (i:=2) ZQ.nd rfl (Or.inl rfl) ZaB)
    (Zg (ZaP PassesOwn.never rfl (ZbZ (ZX ZaO (pv 0) Zf (fun _ _=>rfl))) (Zcr rfl (ZL (Zo (i:=3) ZQ.nd rfl (Or.inl rfl)) (ZL (Zo (i:=4) ZQ.nd rfl (Or.inl rfl)) (ZL (Zo (i:=5) ZQ.nd rfl (Or.inl rfl)) (ZL (Zo (i:=6) ZQ.nd rfl (Or.inl rfl)) Zbw)))))
     (Zg (ZaT (PW.pt (ZcV (Zbc (ZhG hu1 (pv 3) (pv 1))) (ZcV (Zbc (Zbq hu1 (pv 5) (pv 1))) (Zci (Zbc (Zbq hu1 (pv 6) (pv 1)))))))
       (Zc (Zcl hu1 (pv 1) (pv 3) ZaB rfl)
        (Zg (Zt (i:=2) ZQ.nd rfl (Or.inl rfl) ZaB)))
       ZR))))))
  (Zg (Zy (pv 1)))))),?_⟩
 refine⟨_,rfl,a,_,2,_,rfl,rfl,SqT.of a1,rfl,f2,rfl,⟨_,SqT.of a3⟩,fun pl hpl=>Zf1 (K:=K) (a:=f2) (p:=pl) (xs:=fm.ts.map V.int) (fun i ys σ H2=>∃v0:Option V,σ =[v0]/\Zj H H2/\H2 pl=some (.lst ys)/\PT H2 ys (fm.ts.take i))
  ⟨none,rfl,Zj.new hpl,Za,.nil⟩ ?_ ?_ ?_⟩
 ·rintro i ys σ H2 _ ⟨v0,_,sm,h,_⟩;exact⟨SqT.of (sm _ _ a3),h⟩
 ·rintro i ys x σ H2 hi hx ⟨v0,rfl,sm,hp,hz⟩;rw[List.getElem?_map] at hx;obtain⟨e,he,rfl⟩:=Option.map_eq_some_iff.mp hx;refine⟨_,rfl,by show(2:Nat)<=sizeLine;decide,fun t ht0=>?_⟩;have s2:Zj H2 (upd H2 t (.tup [V.int e,.bl true])):=Zj.new ht0;refine⟨s2 _ _ hp,Zq (by rw[hz.length,List.length_take];lia),CW.next hi ⟨_,rfl,(sm.trans s2).upd_new hpl,Za,?_⟩⟩
  rw[Zk he];have hz2:PT (upd H2 t (.tup [V.int e,.bl true])) (ys ++ [.ref t]) (fm.ts.take i ++ [e]):=PT.snoc Za (hz.keep fun b xs e=>s2 _ _ e);exact hz2.keep (ZaN (s2 _ _ hp))
 rintro ys σ H2 ⟨v0,rfl,sm,hp,hz⟩;rw[List.length_map,List.take_length] at hz;refine⟨pl,_,fm.ts.map kB,rfl,SqL.of hp,by rw[hz.length];lia,hz.pairs,fun d hd=>?_⟩;have hd0:=sm.free hd;obtain⟨S0,kn0,hS0⟩:=Zf0 fm.ts [] [] rfl;have hm0:(putAll (fm.ts.map kB)).length<=fm.ts.length:=by
  have:=Zcf (fm.ts.map kB);rw[List.length_map] at this;exact this
 have kn0':(putAll (fm.ts.map kB)).map (·.1)=S0.map Sum.inl:=kn0;generalize putAll (fm.ts.map kB)=m0 at kn0' hm0;have hS0l:S0.length<=fm.ts.length:=by rw[<- ZaU kn0'];exact hm0
 have sm1:Zj H (upd H2 d (.dK m0)):=sm.upd_new hd0
 let W:Nat->St->Hp->Prop:=fun j σ H1=>∃(S:List Int)(m:List (Key×V))(fl:Bool)(v3 v4 v5 v6:Option V),σ =[some (.ref a),some (.ref d),some (.bl fl),v3,v4,v5,v6]/\Zj H H1/\H1 d=some (.dK m)/\m.map (·.1)=S.map Sum.inl /\
  (∀e∈fm.ts,e∈S)/\(∀k∈S,LvQ fm k)/\S.length+ZcE N S<=70+N/\j=2*ZcE N S+(if fl=true then 1 else 0)/\(fl=false->Zdt fm.qs S)
 have ho0:=Zit N S0;refine⟨W,⟨_,S0,m0,true,none,none,none,none,rfl,sm1,Za,kn0',fun e he=>(hS0 e).mpr (.inr he),fun k hk=>.e (((hS0 k).mp hk).resolve_left (fun z=>nomatch z)),by lia,rfl,fun z=>nomatch z⟩,?_⟩
 rintro j σ H1 ⟨S,m,fl,v3,v4,v5,v6,rfl,smw,hdm,kn,hen,hsd,hsz,rfl,hsh⟩;cases fl with
 | false =>
  refine⟨_,rfl,false,rfl,Za5 ⟨_,rfl,q d S H1 smw hd0 ⟨m,hdm,kn⟩ ?_ fun k=>⟨hsd k,fun hk=>ZfW hen (hsh rfl) hk⟩⟩⟩;lia
 | true =>
  refine⟨_,rfl,true,rfl,Zej ⟨fun σ' H'=>∃m',m'<2*ZcE N S+(if true=true then 1 else 0)/\W m' σ' H',fun _ _ h=>h,?_⟩⟩
  refine⟨_,rfl,a,_,3,_,rfl,rfl,SqT.of (smw _ _ a1),rfl,f3,rfl,⟨_,SqT.of (smw _ _ a4)⟩,Zeh (K:=K) (a:=f3) (xs:=zf) (fun i σ H2=>∃(S':List Int)(m':List (Key×V))(fl':Bool)(v3 v4 v5 v6:Option V),σ =[some (.ref a),some (.ref d),some (.bl fl'),v3,v4,v5,v6]/\Zj H H2/\H2 d=some (.dK m')/\m'.map (·.1)=S'.map Sum.inl /\
   (∀e∈fm.ts,e∈S')/\(∀k∈S',LvQ fm k)/\S'.length+ZcE N S'<=70+N/\(fl'=false->S'=S/\Zdt (fm.qs.take i) S)/\(fl'=true->ZcE N S'+1<=ZcE N S)) ⟨S,m,false,v3,v4,v5,v6,rfl,smw,hdm,kn,hen,hsd,hsz,fun _=>⟨rfl,fun _ h=>nomatch h⟩,fun z=>nomatch z⟩ ?_ ?_ ?_⟩
  ·rintro i σ H2 _ ⟨S',m',fl',v3,v4,v5,v6,_,sm2,_⟩;exact SqT.of (sm2 _ _ a4)
  ·rintro i x σ H2 hi ⟨S',m',fl',v3,v4,v5,v6,rfl,sm2,hdm2,kn2,hen2,hsd2,hsz2,hf1,hf2⟩;obtain⟨pq,q1,hq1,rfl,e4⟩:=a5.get i x hi;have hqm:q1∈fm.qs:=List.mem_of_getElem? hq1;have hkn:=(ok.qb q1 hqm).1;rw[hN] at hkn;have hq4:=sm2 _ _ e4;rw[Zk hq1];have hg:=fun k:Int=>Zc1.k (k:=Sum.inl k) hdm2;have no:(q1.2.2.1∈S'->q1.2.2.2∈S'->q1.1∈S')->∃(S'':List Int)(m'':List (Key×V))(fl'':Bool)(w3 w4 w5 w6:Option V),[some (V.ref a),some (.ref d),some (.bl fl'),some (.int q1.1),some (.str q1.2.1),some (.int q1.2.2.1),some (.int q1.2.2.2)] =[some (.ref a),some (.ref d),some (.bl fl''),w3,w4,w5,w6]/\Zj H H2/\H2 d=some (.dK m'')/\m''.map (·.1)=S''.map Sum.inl /\
     (∀e∈fm.ts,e∈S'')/\(∀k∈S'',LvQ fm k)/\S''.length+ZcE N S''<=70+N/\(fl''=false->S''=S/\Zdt (fm.qs.take i ++ [q1]) S)/\(fl''=true->ZcE N S''+1<=ZcE N S):=fun hc=>by
    refine⟨S',m',fl',_,_,_,_,rfl,sm2,hdm2,kn2,hen2,hsd2,hsz2,fun hf=>?_,hf2⟩;obtain⟨rfl,h2⟩:=hf1 hf;refine⟨rfl,fun z hz=>?_⟩;rcases List.mem_append.mp hz with hz|hz
    ·exact h2 z hz
    ·rw[List.mem_singleton.mp hz];exact hc
   refine⟨pq,_,rfl,SqT.of hq4,rfl,_,_,rfl,_,_,rfl,_,_,rfl,_,_,rfl,rfl,?_⟩;refine⟨_,rfl,_,rfl,d,_,rfl,hg q1.1,_,rfl,?_⟩;rw[DI.has kn2];by_cases k1:q1.1∈S'
   ·rw[decide_eq_true k1];exact Za5 (Za5 (no fun _ _=>k1))
   rw[decide_eq_false k1];refine Zej ⟨_,rfl,_,rfl,d,_,rfl,hg q1.2.2.1,_,rfl,?_⟩;rw[DI.has kn2];by_cases k2:q1.2.2.1∈S'
   ·rw[decide_eq_true k2];refine Zej ⟨_,rfl,_,rfl,d,_,rfl,hg q1.2.2.2,_,rfl,?_⟩;rw[DI.has kn2];by_cases k3:q1.2.2.2∈S'
    ·rw[decide_eq_true k3];have hml:m'.length<sizeLine:=by
      rw[ZaU kn2];exact Zq (by lia)
     refine Zej ⟨_,rfl,_,rfl,d,_,rfl,ZgJ.k (k:=Sum.inl q1.1) hdm2 hml,?_⟩;have hless:=ZcK hkn.1 hkn.2 k1;have kn3:=DI.put kn2 q1.1 (V.bl true);rw[if_neg k1] at kn3;refine⟨S' ++ [q1.1],_,true,_,_,_,_,rfl,sm2.upd_new hd0,Za,kn3,fun e he=>List.mem_append_left _ (hen2 e he),fun k hk=>?_,?_,fun z=>(nomatch z),fun _=>?_⟩
     ·rcases List.mem_append.mp hk with hk|hk
      ·exact hsd2 k hk
      ·rw[List.mem_singleton.mp hk];exact .r hqm (hsd2 _ k2) (hsd2 _ k3)
     ·rw[List.length_append,List.length_singleton];lia
     ·cases fl' with
      | true=>have:=hf2 rfl;lia
      | false=>obtain⟨rfl,_⟩:=hf1 rfl;exact hless
    ·rw[decide_eq_false k3];exact Za5 (no fun _ z=>absurd z k3)
   ·rw[decide_eq_false k2];exact Za5 (Za5 (no fun z=>absurd z k2))
  ·rintro σ H2 ⟨S',m',fl',v3,v4,v5,v6,rfl,sm2,hdm2,kn2,hen2,hsd2,hsz2,hf1,hf2⟩;rw[zfl,List.take_length] at hf1;refine⟨_,?_,S',m',fl',v3,v4,v5,v6,rfl,sm2,hdm2,kn2,hen2,hsd2,hsz2,rfl,fun hf=>?_⟩
   ·cases fl' with
    | true=>have:=hf2 rfl;rw[if_pos rfl];lia
    | false=>obtain⟨rfl,_⟩:=hf1 rfl;rw[if_neg (by decide),if_pos rfl];lia
   ·obtain⟨rfl,h⟩:=hf1 hf;exact h
def ZkB(a p0 dl:Addr)(H7:Hp)(dw:Addr)(R:List Srd.Qd)(cc:Nat)(σ : St)(H:Hp):Prop := ∃(v3 v4 v5 v6:Option V)(m:List (Key×V))(D:Int->Option Addr)(mk:Int->List (Key×V))(tf:Int->List Str)(Lf:Int->Str->Option Addr),σ =[some (.ref a),some (.ref p0),some (.ref dl),v3,v4,v5,v6]/\WS H7 H dw m D mk tf Lf (Zcq R) cc/\∀k t l,Lf k t=some l->Zcq R k t ≠ []
set_option maxHeartbeats 4000000 in
theorem Zb9{C:Addr}(B:∀x∈ZcF,mg x=none)(c:RdC K C)(g_live_kinds:Has P w K mg base "live_kinds" ["form"] 1 (ZfF K)) (F:Fun K "__init__" "Reader.__init__" ZD f fd):FnOk P w K mg base CX0 2 f fd ["self","form"] (Zfv K C):=by
 refine F.ok ZM (fun vs H Q E h=>?_) (fun cdv A outer s H vs Q E hr h=>?_)
 ·obtain⟨a,p,dx,fm,rfl,_⟩:=h;rfl
 obtain⟨a,p0,dx,fm,rfl,hA,hF,ok,q⟩:=h;obtain⟨f1,f2,f3,zf,a1,a2,a3,a4,a5⟩:=id hF;have hu1:(A.deeper (PyProof.Rows.envOfC (Str.ofString "Reader.__init__") (Ze ZD) s.heap.objs.size f cdv)).units+1<cLine:=by have:=hr.un;lia
 have na:∀b xs,H b=some (.tup xs)->b≠a:=fun b xs e z=>by rw[z,hA] at e;cases e
 have htl:=ok.tl;have hhl:=ok.hl;have hql:=ok.ql;have hzf:=a5.length;refine⟨_,(Zc (Zt (i:=2) ZM.nd rfl (Or.inr rfl) (Zav g_live_kinds hr rfl (Zb (pv 1) Zd)))
  (Zc (ZeY (pv 0) (pv 1) rfl)
  (Zc (ZeY (pv 0) (ZaJ (Za4 rfl) rfl (B "dict" (by decide)) Zft (Zb (ZdS (cl:=[]) ["end"] [] (ZbZ (ZX ZaO (pv 1) Zf (fun _ _=>rfl))) (fun _ _ _ _=>(Zo (i:=0) nd1 rfl (Or.inl rfl))) (fun _ _ _ _=>(ZaH (Zb (pv 0) (Zb ZaB Zd)))) rfl rfl (by decide) rfl (by decide) (fun _ _ h=>nomatch h) (Zdc (by decide)) (fun _ _ h=>nomatch h) (fun _=>rfl)) Zd)) rfl)
  (Zc (ZeY (pv 0) ZbK rfl)
  (Zc (ZaP PassesOwn.never rfl (ZbZ (ZX ZaO (pv 1) Zf (fun _ _=>rfl))) (Zcr rfl (ZL (Zo (i:=3) ZM.nd rfl (Or.inl rfl)) (ZL (Zo (i:=4) ZM.nd rfl (Or.inl rfl)) (ZL (Zo (i:=5) ZM.nd rfl (Or.inl rfl)) (ZL (Zo (i:=6) ZM.nd rfl (Or.inl rfl)) Zbw)))))
   (Zg (ZaT (PW.pt (ZcV (Zbc (Zbq hu1 (pv 5) (pv 2))) (Zci (Zbc (Zbq hu1 (pv 6) (pv 2))))))
     (Zg (Zbm (Ze8 PySem.F.plainAttrs_list PySem.F.slot_list_append PySem.F.type_list_append Zaw (Zgn (Zgn (ZaM (pv 0) rfl) (pv 3) ZbK ⟨rfl,rfl,rfl,rfl⟩) (pv 4) (ZaQ Zd) ⟨rfl,rfl,rfl,rfl⟩) (Zb (ZaH (Zb (pv 5) (Zb (pv 6) Zd))) Zd))))
     ZR)))
  (Zc (ZeY (pv 0) (ZaQ (Zb (Zbg (cl:=_) ["start"] [("alive",2)] (ZbZ (ZX ZaO (pv 1) Zf (fun _ _=>rfl))) (fun _ _ _ _=>(Zo (i:=0) (show List.Nodup (["start","alive"]:List Str) by decide) rfl (Or.inl rfl))) (fun _ _ _ _=>(Zbc (Zbq hu1 (pv 0) (pv 1)))) (fun _ _ _ _=>(ZaH (Zb (pv 0) (Zb (pv 0) Zd)))) rfl rfl (by decide) rfl (by decide) (Zcx (by(repeat' first|exact List.forall_mem_nil _|refine List.forall_mem_cons.mpr ⟨?_,?_⟩) <;> rfl)) (Zbx (by(repeat' first|exact List.forall_mem_nil _|refine List.forall_mem_cons.mpr ⟨?_,?_⟩) <;> first|(intro h;exact⟨_,rfl⟩)|(intro h;exact absurd h (by decide)))) (fun _=>by(repeat' first|exact List.forall_mem_nil _|refine List.forall_mem_cons.mpr ⟨?_,?_⟩) <;> exact⟨rfl,rfl,Or.inl rfl⟩) (fun _=>rfl)) Zd)) rfl)
  (Zg (ZeY (pv 0) (ZaQ Zd) rfl)))))))),?_⟩
 refine⟨_,rfl,p0,fm,rfl,hF,ok,fun dl S H1 s1 hdl ⟨ml,e1,kl⟩ hSl hS=>?_⟩;have ndl:dl≠a:=fun z=>by rw[z,hA] at hdl;cases hdl
 refine⟨_,rfl,_,rfl,a,C,dx,_,rfl,s1 _ _ hA,c.cls,c.n1,by decide,?_⟩;have k2:∀b o,b≠a->H1 b=some o->(upd H1 a (.ins C dx (ZbM "form" (V.ref p0) []))) b=some o:=fun b o hb e=>by rw[Zh hb];exact e
 have x2:(upd H1 a (.ins C dx (ZbM "form" (V.ref p0) []))) a=some (.ins C dx [("form",.ref p0)]):=by rw[Za];rfl
 generalize upd H1 a (.ins C dx (ZbM "form" (V.ref p0) []))=H2 at k2 x2 ⊢;have k02:∀b o,b≠a->H b=some o->H2 b=some o:=fun b o hb e=>k2 b o hb (s1 _ _ e);refine⟨_,rfl,p0,_,2,_,rfl,rfl,SqT.of (k02 _ _ (na _ _ a1) a1),rfl,f2,rfl,⟨_,SqT.of (k02 _ _ (na _ _ a3) a3)⟩,fun pl hpl=>Zf1 (K:=K) (a:=f2) (p:=pl) (xs:=fm.ts.map V.int) (fun i ys σ H3=>∃v0:Option V,σ =[v0]/\Zj H2 H3/\H3 pl=some (.lst ys)/\PT H3 ys (fm.ts.take i))
  ⟨none,rfl,Zj.new hpl,Za,.nil⟩ ?_ ?_ ?_⟩
 ·rintro i ys σ H3 _ ⟨v0,_,sm,h,_⟩;exact⟨SqT.of (sm _ _ (k02 _ _ (na _ _ a3) a3)),h⟩
 ·rintro i ys x σ H3 hi hx ⟨v0,rfl,sm,hp,hz⟩;rw[List.getElem?_map] at hx;obtain⟨e,he,rfl⟩:=Option.map_eq_some_iff.mp hx;refine⟨_,rfl,by show(2:Nat)<=sizeLine;decide,fun t ht0=>?_⟩;have s2:Zj H3 (upd H3 t (.tup [V.int e,.bl true])):=Zj.new ht0;refine⟨s2 _ _ hp,Zq (by rw[hz.length,List.length_take];lia),CW.next hi ⟨_,rfl,(sm.trans s2).upd_new hpl,Za,?_⟩⟩
  rw[Zk he];have hz2:PT (upd H3 t (.tup [V.int e,.bl true])) (ys ++ [.ref t]) (fm.ts.take i ++ [e]):=PT.snoc Za (hz.keep fun b xs e=>s2 _ _ e);exact hz2.keep (ZaN (s2 _ _ hp))
 rintro ys σ H3 ⟨v0,rfl,s3,hp,hz⟩;rw[List.length_map,List.take_length] at hz;refine⟨pl,_,fm.ts.map kB,rfl,SqL.of hp,by rw[hz.length];lia,hz.pairs,fun df hdf=>?_⟩;obtain⟨S0,kn0,hS0⟩:=Zf0 fm.ts [] [] rfl;have kn0':(putAll (fm.ts.map kB)).map (·.1)=S0.map Sum.inl:=kn0;generalize putAll (fm.ts.map kB)=m0 at kn0' ⊢;have hS0':∀x,x∈S0↔x∈fm.ts:=fun x=>(hS0 x).trans ⟨fun z=>z.elim (fun z=>nomatch z) id,.inr⟩
 have s4:Zj H2 (upd H3 df (.dK m0)):=s3.upd_new (s3.free hdf);have x4:(upd H3 df (.dK m0)) df=some (.dK m0):=Za;have ndf:df≠a:=fun z=>by
  have:=s3.free hdf;rw[z,x2] at this;cases this
 generalize upd H3 df (.dK m0)=H4 at s4 x4 ⊢;refine⟨_,rfl,a,C,dx,_,rfl,s4 _ _ x2,c.cls,c.n2,(show 1<1000 by decide),?_⟩;have k5:∀b o,b≠a->H4 b=some o->(upd H4 a (.ins C dx (ZbM "final" (V.ref df) [("form",.ref p0)]))) b=some o:=fun b o hb e=>by rw[Zh hb];exact e
 have x5:(upd H4 a (.ins C dx (ZbM "final" (V.ref df) [("form",.ref p0)]))) a=some (.ins C dx [("form",.ref p0),("final",.ref df)]):=by rw[Za];rfl
 generalize upd H4 a (.ins C dx (ZbM "final" (V.ref df) [("form",.ref p0)]))=H5 at k5 x5 ⊢;refine fun dw hdw=>?_;have ndw:dw≠a:=fun z=>by rw[z,x5] at hdw;cases hdw
 refine⟨_,rfl,a,C,dx,[("form",.ref p0),("final",.ref df)],rfl,(by rw[Zh ndw.symm];exact x5),c.cls,c.n3,(show 2<1000 by decide),?_⟩;have k7:∀b o,b≠a->H5 b=some o->(upd (upd H5 dw (.dK [])) a (.ins C dx (ZbM "ways" (V.ref dw) [("form",.ref p0),("final",.ref df)]))) b=some o:=fun b o hb e=>by
  rw[Zh hb,Zh (Zi e hdw)];exact e
 have x7:(upd (upd H5 dw (.dK [])) a (.ins C dx (ZbM "ways" (V.ref dw) [("form",.ref p0),("final",.ref df)]))) a=some (.ins C dx [("form",.ref p0),("final",.ref df),("ways",.ref dw)]):=by rw[Za];rfl
 have y7:(upd (upd H5 dw (.dK [])) a (.ins C dx (ZbM "ways" (V.ref dw) [("form",.ref p0),("final",.ref df)]))) dw=some (.dK []):=by rw[Zh ndw];exact Za
 generalize upd (upd H5 dw (.dK [])) a (.ins C dx (ZbM "ways" (V.ref dw) [("form",.ref p0),("final",.ref df)]))=H7 at k7 x7 y7 ⊢;have k07:∀b o,b≠a->H b=some o->H7 b=some o:=fun b o hb e=>k7 b o hb (k5 b o hb (s4 _ _ (k02 b o hb e)));have e7:H7 dl=some (.dK ml):=k7 _ _ ndl (k5 _ _ ndl (s4 _ _ (k2 _ _ ndl e1)));have d7:H7 df=some (.dK m0):=k7 _ _ ndf (k5 _ _ ndf x4);have ndd:dl≠dw:=fun z=>by
  have:=k5 _ _ ndl (s4 _ _ (k2 _ _ ndl e1));rw[z,hdw] at this;cases this
 have nfd:df≠dw:=fun z=>by
  have:=k5 _ _ ndf x4;rw[z,hdw] at this;cases this
 have nt:∀b xs,H b=some (.tup xs)->b≠dw:=fun b xs e z=>by
  have:=k07 _ _ (na _ _ e) e;rw[z,y7] at this;cases this
 have b1:=k07 _ _ (na _ _ a1) a1;have b2:=k07 _ _ (na _ _ a2) a2;have b4:=k07 _ _ (na _ _ a4) a4;have b5:QL H7 zf fm.qs:=a5.keep fun b xs e=>k07 _ _ (na _ _ e) e;have nt7:∀b xs,H7 b=some (.tup xs)->b≠dw:=fun b xs e z=>by rw[z,y7] at e;cases e
 have ws0:WS H7 H7 dw [] (fun _=>none) (fun _=>[]) (fun _=>[]) (fun _ _=>none) (Zcq (rlA S (fm.qs.take 0))) (2*0):=⟨fun b o _ e=>e,⟨_,y7⟩,y7,Nat.zero_le _,fun _=>rfl,(fun _ _ z=>nomatch z),fun _ _ _=>rfl,fun _ _ _=>rfl,(fun _ _ _ z=>nomatch z),(fun _ _ _ z=>nomatch z),(fun _ _ _ _ _ z=>nomatch z)⟩
 refine⟨_,rfl,p0,_,3,_,rfl,rfl,SqT.of b1,rfl,f3,rfl,⟨_,SqT.of b4⟩,Zeh (K:=K) (a:=f3) (xs:=zf) (fun i σ H8=>ZkB a p0 dl H7 dw (rlA S (fm.qs.take i)) (2*i) σ H8)
  ⟨none,none,none,none,[],_,_,_,_,rfl,ws0,fun _ _ _ z=>nomatch z⟩ ?_ ?_ ?_⟩
 ·rintro i σ H8 _ ⟨_,_,_,_,_,_,_,_,_,_,ws,_⟩;exact SqT.of (ws.kp _ _ (nt7 _ _ b4) b4)
 ·rintro i x σ H8 hx ⟨v3,v4,v5,v6,m,D,mk,tf,Lf,rfl,ws,hne⟩;obtain⟨tq,q1,x1,rfl,x2'⟩:=b5.get i x hx;have hil:=(List.getElem?_eq_some_iff.mp x1).1;have t2:=ws.kp _ _ (nt7 _ _ x2') x2';have e8:=ws.kp _ _ ndd e7;have x8:=ws.kp _ _ ndw.symm x7;have hml:=ws.ml;have skip : ¬ (q1.2.2.1∈S/\q1.2.2.2∈S)->rlA S (fm.qs.take (i+1))=rlA S (fm.qs.take i):=fun hno=>by
   unfold rlA;rw[Zk x1,List.filter_append,List.filter_cons,if_neg (by rw[Bool.and_eq_true,decide_eq_true_eq,decide_eq_true_eq];exact hno),List.filter_nil,List.append_nil]
  have no : ¬ (q1.2.2.1∈S/\q1.2.2.2∈S)->ZkB a p0 dl H7 dw (rlA S (fm.qs.take (i+1))) (2*(i+1)) [some (V.ref a),some (.ref p0),some (.ref dl),some (V.int q1.1),some (V.str q1.2.1),some (V.int q1.2.2.1),some (V.int q1.2.2.2)] H8:=fun hno=>by
   rw[skip hno];exact⟨_,_,_,_,m,D,mk,tf,Lf,rfl,{ ws with ml:=by lia,dk:=fun k a e=>by obtain⟨z1,z2,z3,z4,z5⟩:=ws.dk k a e;exact⟨z1,z2,z3,by lia,z5⟩ },hne⟩
  refine⟨tq,_,rfl,SqT.of t2,rfl,_,_,rfl,_,_,rfl,_,_,rfl,_,_,rfl,rfl,?_⟩;refine⟨_,rfl,_,rfl,dl,_,rfl,Zc1.k (k:=Sum.inl q1.2.2.1) e8,_,rfl,?_⟩;rw[DI.has kl];refine ZdP (fun c1=>?_) (fun c1=>Za5 (no fun z=>c1 (decide_eq_true z.1)));refine⟨_,rfl,_,rfl,dl,_,rfl,Zc1.k (k:=Sum.inl q1.2.2.2) e8,_,rfl,?_⟩;rw[DI.has kl];refine ZdP (fun c2=>?_) (fun c2=>no fun z=>c2 (decide_eq_true z.2));have hrl:rlA S (fm.qs.take (i+1))=rlA S (fm.qs.take i) ++ [q1]:=by
   unfold rlA;rw[Zk x1,List.filter_append,List.filter_cons,if_pos (by rw[Bool.and_eq_true];exact⟨c1,c2⟩),List.filter_nil]
  rw[hrl];have hnew:∀k t,Zcq (rlA S (fm.qs.take i) ++ [q1]) k t=Zcq (rlA S (fm.qs.take i)) k t++if q1.1=k/\q1.2.1=t then [pr2 q1] else []:=ZhM _ _
  have last:∀(H9:Hp)(m:List (Key×V))(D:Int->Option Addr)(mk:Int->List (Key×V))(tf:Int->List Str)(Lf:Int->Str->Option Addr)(l:Addr),WS H7 H9 dw m D mk tf Lf (Zcq (rlA S (fm.qs.take i))) (2*(i+1))->Lf q1.1 q1.2.1=some l->(∀k t l,Lf k t=some l->(k=q1.1/\t=q1.2.1)\/Zcq (rlA S (fm.qs.take i)) k t ≠ [])->∃zs,H9 l=some (.lst zs)/\zs.length<1000/\∀pt,H9 pt=none->ZkB a p0 dl H7 dw (rlA S (fm.qs.take i) ++ [q1]) (2*(i+1)) [some (V.ref a),some (.ref p0),some (.ref dl),some (V.int q1.1),some (V.str q1.2.1),some (V.int q1.2.2.1),some (V.int q1.2.2.2)] (upd (upd H9 pt (.tup [.int q1.2.2.1,.int q1.2.2.2])) l (.lst (zs ++ [.ref pt]))):=by
   intro H9 m D mk tf Lf l ws9 hl hne9;obtain⟨_,zs,z1,z2⟩:=ws9.ls _ _ _ hl;have hzl:zs.length<=100:=by
    rw[z2.length];refine Nat.le_trans (Zi9 ..) (Nat.le_trans (List.length_filter_le ..) ?_);rw[List.length_take];lia
   refine⟨zs,z1,by lia,fun pt hpt=>?_⟩;have s9:Zj H9 (upd H9 pt (.tup [.int q1.2.2.1,.int q1.2.2.2])):=Zj.new hpt;refine⟨_,_,_,_,m,D,mk,tf,Lf,rfl,(ws9.same s9).app (p:=pr2 q1) hl (s9 _ _ z1) Za hnew,fun k t l' h=>?_⟩;rw[hnew];rcases hne9 k t l' h with⟨rfl,rfl⟩|h
   ·rw[if_pos ⟨rfl,rfl⟩];intro z;have:=congrArg List.length z;rw[List.length_append] at this;simp at this
   ·intro z;exact h (List.append_eq_nil_iff.mp z).1
  have mid:∀(H9:Hp)(m:List (Key×V))(D:Int->Option Addr)(mk:Int->List (Key×V))(tf:Int->List Str)(Lf:Int->Str->Option Addr)(d1:Addr),WS H7 H9 dw m D mk tf Lf (Zcq (rlA S (fm.qs.take i))) (2*i+1)->D q1.1=some d1->(∀k t l,Lf k t=some l->Zcq (rlA S (fm.qs.take i)) k t ≠ [])->H9 d1=some (.dK (mk q1.1))/\(mk q1.1).length<1000/\∀l0,H9 l0=none ->
    (∀v,Zbi (mk q1.1) (Sum.inr q1.2.1)=some v->∃l,v=.ref l/\∃zs,(upd H9 l0 (.lst [])) l=some (.lst zs)/\zs.length<1000/\∀pt,(upd H9 l0 (.lst [])) pt=none->ZkB a p0 dl H7 dw (rlA S (fm.qs.take i) ++ [q1]) (2*(i+1)) [some (V.ref a),some (.ref p0),some (.ref dl),some (V.int q1.1),some (V.str q1.2.1),some (V.int q1.2.2.1),some (V.int q1.2.2.2)] (upd (upd (upd H9 l0 (.lst [])) pt (.tup [.int q1.2.2.1,.int q1.2.2.2])) l (.lst (zs ++ [.ref pt])))) /\
    (Zbi (mk q1.1) (Sum.inr q1.2.1)=none->∃zs,(upd (upd H9 l0 (.lst [])) d1 (.dK (putK (mk q1.1) (Sum.inr q1.2.1) (.ref l0)))) l0=some (.lst zs)/\zs.length<1000/\∀pt,(upd (upd H9 l0 (.lst [])) d1 (.dK (putK (mk q1.1) (Sum.inr q1.2.1) (.ref l0)))) pt=none->ZkB a p0 dl H7 dw (rlA S (fm.qs.take i) ++ [q1]) (2*(i+1)) [some (V.ref a),some (.ref p0),some (.ref dl),some (V.int q1.1),some (V.str q1.2.1),some (V.int q1.2.2.1),some (V.int q1.2.2.2)] (upd (upd (upd (upd H9 l0 (.lst [])) d1 (.dK (putK (mk q1.1) (Sum.inr q1.2.1) (.ref l0)))) pt (.tup [.int q1.2.2.1,.int q1.2.2.2])) l0 (.lst (zs ++ [.ref pt])))):=by
   intro H9 m D mk tf Lf d1 ws9 hd1 hne9;obtain⟨z1,z2,z3,z4,z5⟩:=ws9.dk _ _ hd1;have hkl:(mk q1.1).length=(tf q1.1).length:=by have:=congrArg List.length z3;simpa using this
   refine⟨z2,by lia,fun l0 hl0=>?_⟩;have s9:Zj H9 (upd H9 l0 (.lst [])):=Zj.new hl0;have wsB:=ws9.same s9;constructor
   ·intro v hv;rw[z5] at hv;obtain⟨l,hl,rfl⟩:=Option.map_eq_some_iff.mp hv;exact⟨l,rfl,last _ m D mk tf Lf l { wsB with ml:=by have:=ws9.ml;lia,dk:=fun k a e=>by obtain⟨z1,z2,z3,z4,z5⟩:=wsB.dk k a e;exact⟨z1,z2,z3,by lia,z5⟩ } hl (fun k t l h=>.inr (hne9 k t l h))⟩
   ·intro hv;rw[z5] at hv;have hl:Lf q1.1 q1.2.1=none:=by
     cases h:Lf q1.1 q1.2.1 with
     | none=>rfl
     | some l =>
      rw[h] at hv;cases hv
    have f0:H7 l0=none:=by
     cases h:H7 l0 with
     | none=>rfl
     | some o =>
      by_cases hz:l0=dw
      ·rw[hz,ws9.hm] at hl0;cases hl0
      ·rw[ws9.kp _ _ hz h] at hl0;cases hl0
    have wsC:=wsB.newl hd1 hl Za f0 (fun k' t' h=>by
     obtain⟨_,zs,y1,_⟩:=ws9.ls k' t' l0 h;rw[hl0] at y1;cases y1)
    refine last _ _ _ _ _ _ l0 wsC ?_ (fun k t l h=>?_)
    ·rw[if_pos ⟨rfl,rfl⟩]
    ·by_cases hh:k=q1.1/\t=q1.2.1
     ·exact .inl hh
     ·rw[if_neg hh] at h;exact .inr (hne9 k t l h)
  refine⟨_,rfl,a,C,dx,_,_,rfl,x8,c.cls,c.n3,rfl,dw,rfl,.inl ⟨m,.inl ws.hm⟩,_,rfl,fun d0 hd0=>?_⟩;have s8:Zj H8 (upd H8 d0 (.dK [])):=Zj.new hd0;have y8:(upd H8 d0 (.dK [])) d0=some (.dK []):=Za;generalize upd H8 d0 (.dK [])=H9 at s8 y8 ⊢;have ws9:=ws.same s8;refine⟨m,Sum.inl q1.1,ws9.hm,rfl,Zq (by lia),fun v hv=>?_,fun hn=>?_⟩
  ·rw[ws.vm] at hv;obtain⟨d1,hd1,rfl⟩:=Option.map_eq_some_iff.mp hv;obtain⟨m1,m2,m3⟩:=mid H9 m D mk tf Lf d1 { ws9 with ml:=by lia,dk:=fun k a e=>by obtain⟨z1,z2,z3,z4,z5⟩:=ws9.dk k a e;exact⟨z1,z2,z3,by lia,z5⟩ } hd1 hne;refine⟨d1,rfl,.inl ⟨_,.inl m1⟩,_,rfl,by decide,fun l0 hl0=>⟨_,Sum.inr q1.2.1,by rw[Zh (Zi m1 hl0)];exact m1,rfl,Zq (by lia),fun v hv=>?_,fun hn=>?_⟩⟩
   ·obtain⟨l,rfl,zs,y1,y2,y3⟩:=(m3 l0 hl0).1 v hv;exact⟨.inl ⟨rfl,_,SqL.of y1⟩,_,rfl,_,rfl,by show(2:Nat)<=sizeLine;decide,fun pt hpt=>⟨l,_,_,rfl,rfl,by rw[Zh (Zi y1 hpt)];exact y1,Zq (by lia),y3 pt hpt⟩⟩
   ·obtain⟨zs,y1,y2,y3⟩:=(m3 l0 hl0).2 hn;exact⟨.inl ⟨rfl,_,SqL.of y1⟩,_,rfl,_,rfl,by show(2:Nat)<=sizeLine;decide,fun pt hpt=>⟨l0,_,_,rfl,rfl,by rw[Zh (Zi y1 hpt)];exact y1,Zq (by lia),y3 pt hpt⟩⟩
  ·have hD:D q1.1=none:=by
    cases h:D q1.1 with
    | none=>rfl
    | some l =>
     rw[ws.vm,h] at hn;cases hn
   have f0:H7 d0=none:=by
    cases h:H7 d0 with
    | none=>rfl
    | some o =>
     by_cases hz:d0=dw
     ·rw[hz,ws.hm] at hd0;cases hd0
     ·rw[ws.kp _ _ hz h] at hd0;cases hd0
   have wsN:=ws9.newk hD y8 f0 (fun k' h=>by
    obtain⟨_,y1,_⟩:=ws.dk k' d0 h;rw[hd0] at y1;cases y1)
   obtain⟨m1,m2,m3⟩:=mid _ _ _ _ _ _ d0 wsN (by rw[if_pos rfl]) hne;refine⟨d0,rfl,.inl ⟨_,.inl m1⟩,_,rfl,by decide,fun l0 hl0=>⟨_,Sum.inr q1.2.1,by rw[Zh (Zi m1 hl0)];exact m1,rfl,Zq (by lia),fun v hv=>?_,fun hn=>?_⟩⟩
   ·obtain⟨l,rfl,zs,y1,y2,y3⟩:=(m3 l0 hl0).1 v hv;exact⟨.inl ⟨rfl,_,SqL.of y1⟩,_,rfl,_,rfl,by show(2:Nat)<=sizeLine;decide,fun pt hpt=>⟨l,_,_,rfl,rfl,by rw[Zh (Zi y1 hpt)];exact y1,Zq (by lia),y3 pt hpt⟩⟩
   ·obtain⟨zs,y1,y2,y3⟩:=(m3 l0 hl0).2 hn;exact⟨.inl ⟨rfl,_,SqL.of y1⟩,_,rfl,_,rfl,by show(2:Nat)<=sizeLine;decide,fun pt hpt=>⟨l0,_,_,rfl,rfl,by rw[Zh (Zi y1 hpt)];exact y1,Zq (by lia),y3 pt hpt⟩⟩
 ·rintro σ H8 ⟨v3,v4,v5,v6,m,D,mk,tf,Lf,rfl,ws,hne⟩;rw[hzf,List.take_length] at ws hne;have x8:=ws.kp _ _ ndw.symm x7;have e8:=ws.kp _ _ ndd e7;have d8:=ws.kp _ _ nfd d7;have k08:∀b o,b≠a->b≠dw->H b=some o->H8 b=some o:=fun b o h1 h2 e=>ws.kp _ _ h2 (k07 b o h1 e);have c1:=ws.kp _ _ (nt7 _ _ b1) b1;have c2:=ws.kp _ _ (nt7 _ _ b2) b2;refine⟨_,rfl,p0,_,1,_,rfl,rfl,SqT.of c1,rfl,f1,rfl,⟨_,SqT.of c2⟩,fun pc hpc=>ZcP (K:=K) (a:=f1) (p:=pc) (xs:=fm.hs.map V.int) (fun i ys σ H9=>∃v0:Option V,σ =[v0,some (.ref dl)]/\Zj H8 H9/\H9 pc=some (.lst ys)/\PL H9 ys (((fm.hs.take i).filter fun x=>decide (x∈S)).map dup))
   ⟨none,rfl,Zj.new hpc,Za,.nil⟩ ?_ ?_ ?_⟩
  ·rintro i ys σ H9 _ ⟨v0,_,sm,h,_⟩;exact⟨SqT.of (sm _ _ c2),h⟩
  ·rintro i ys x σ H9 hi hx ⟨v0,rfl,sm,hp,hz⟩;rw[List.getElem?_map] at hx;obtain⟨e,he,rfl⟩:=Option.map_eq_some_iff.mp hx;have hlen:((fm.hs.take i).filter fun x=>decide (x∈S)).length<=70:=Nat.le_trans (List.length_filter_le ..) (by rw[List.length_take];lia);refine⟨_,rfl,_,rfl,dl,_,rfl,Zc1.k (k:=Sum.inl e) (sm _ _ e8),_,rfl,?_⟩;rw[DI.has kl];by_cases ce:e∈S
   ·rw[decide_eq_true ce];refine Zej ⟨_,rfl,_,rfl,by show(2:Nat)<=sizeLine;decide,fun t ht0=>?_⟩;have s4:Zj H9 (upd H9 t (.tup [V.int e,V.int e])):=Zj.new ht0;refine⟨s4 _ _ hp,Zq (by rw[hz.length,List.length_map];lia),CW.next hi ⟨_,rfl,(sm.trans s4).upd_new hpc,Za,?_⟩⟩
    rw[Zk he,List.filter_append,List.filter_cons,if_pos (decide_eq_true ce),List.filter_nil,List.map_append];have hz2:PL (upd H9 t (.tup [V.int e,V.int e])) (ys ++ [.ref t]) (((fm.hs.take i).filter fun x=>decide (x∈S)).map dup ++ [dup e]):=PL.snoc (q:=dup e) (show _=some (tp (dup e)) from Za) (hz.keep fun b xs e=>s4 _ _ e);exact hz2.keep (ZaN (s4 _ _ hp))
   ·rw[decide_eq_false ce];refine Za5 (CW.next hi ⟨_,rfl,sm,hp,?_⟩)
    rw[Zk he,List.filter_append,List.filter_cons,if_neg (by rw[decide_eq_false ce];decide),List.filter_nil,List.append_nil];exact hz
  rintro ys σ H9 ⟨v0,rfl,s9,hp,hz⟩;rw[List.length_map,List.take_length] at hz;have hpc8:=hpc;refine⟨by show(1:Nat)<=sizeLine;decide,fun L hL=>?_⟩;have hL8:H8 L=none:=s9.free hL;have nLa:L≠a:=fun z=>by rw[z,x8] at hL8;cases hL8
  have nLp:L≠pc:=fun z=>by rw[z,hp] at hL;cases hL
  have npa:pc≠a:=fun z=>by rw[z,x8] at hpc;cases hpc
  have s10:Zj H9 (upd H9 L (.lst [.ref pc])):=Zj.new hL;have x10:(upd H9 L (.lst [.ref pc])) L=some (.lst [.ref pc]):=Za;generalize upd H9 L (.lst [.ref pc])=H10 at s10 x10 ⊢;have t10:=s9.trans s10;refine⟨_,rfl,a,C,dx,_,rfl,t10 _ _ x8,c.cls,c.n4,(show 3<1000 by decide),?_⟩;have k11:∀b o,b≠a->H10 b=some o->(upd H10 a (.ins C dx (ZbM "levels" (V.ref L) [("form",.ref p0),("final",.ref df),("ways",.ref dw)]))) b=some o:=fun b o hb e=>by rw[Zh hb];exact e
  have x11:(upd H10 a (.ins C dx (ZbM "levels" (V.ref L) [("form",.ref p0),("final",.ref df),("ways",.ref dw)]))) a=some (.ins C dx [("form",.ref p0),("final",.ref df),("ways",.ref dw),("levels",.ref L)]):=by rw[Za];rfl
  generalize upd H10 a (.ins C dx (ZbM "levels" (V.ref L) [("form",.ref p0),("final",.ref df),("ways",.ref dw)]))=H11 at k11 x11 ⊢;refine⟨by decide,fun T hT=>?_⟩;have nTa:T≠a:=fun z=>by rw[z,x11] at hT;cases hT
  have nLT:L≠T:=fun z=>by
   have:=k11 _ _ nLa x10;rw[z,hT] at this;cases this
  have xa:(upd H11 T (.lst [])) a=some (.ins C dx [("form",.ref p0),("final",.ref df),("ways",.ref dw),("levels",.ref L)]):=by
   rw[Zh nTa.symm];exact x11
  refine⟨_,rfl,a,C,dx,_,rfl,xa,c.cls,c.n5,(show 4<1000 by decide),?_⟩;have k13:∀b o,b≠a->H11 b=some o->(upd (upd H11 T (.lst [])) a (.ins C dx (ZbM "tags" (V.ref T) [("form",.ref p0),("final",.ref df),("ways",.ref dw),("levels",.ref L)]))) b=some o:=fun b o hb e=>by
   rw[Zh hb,Zh (Zi e hT)];exact e
  have x13:(upd (upd H11 T (.lst [])) a (.ins C dx (ZbM "tags" (V.ref T) [("form",.ref p0),("final",.ref df),("ways",.ref dw),("levels",.ref L)]))) a=some (.ins C dx (rdF p0 df dw L T)):=by rw[Za];rfl
  have y13:(upd (upd H11 T (.lst [])) a (.ins C dx (ZbM "tags" (V.ref T) [("form",.ref p0),("final",.ref df),("ways",.ref dw),("levels",.ref L)]))) T=some (.lst []):=by rw[Zh nTa];exact Za
  generalize upd (upd H11 T (.lst [])) a (.ins C dx (ZbM "tags" (V.ref T) [("form",.ref p0),("final",.ref df),("ways",.ref dw),("levels",.ref L)]))=H13 at k13 x13 y13 ⊢;have k813:∀b o,b≠a->H8 b=some o->H13 b=some o:=fun b o hb e=>k13 b o hb (k11 b o hb (t10 _ _ e));have hT8:H8 T=none:=by
   cases h:H8 T with
   | none=>rfl
   | some o =>
    rw[k11 _ _ nTa (t10 _ _ h)] at hT;cases hT
  have nta:∀b xs,H8 b=some (.tup xs)->b≠a:=fun b xs e z=>by rw[z,x8] at e;cases e
  have wi:=ws.out (ex:=[L,T]) (fun b hb=>by
   rcases List.mem_cons.mp hb with rfl|hb
   ·exact hL8
   ·rw[List.mem_singleton.mp hb];exact hT8) (by lia) hne
  have free:∀b,b≠a->H8 b=none->b≠dw->H b=none:=fun b hb h hd=>by
   cases e:H b with
   | none=>rfl
   | some o =>
    rw[k08 b o hb hd e] at h;cases h
  have nLd:L≠dw:=fun z=>by rw[z,ws.hm] at hL8;cases hL8
  have nTd:T≠dw:=fun z=>by rw[z,ws.hm] at hT8;cases hT8
  have hdwH:H dw=none:=by
   cases e:H dw with
   | none=>rfl
   | some o =>
    have:=k5 dw o ndw (s4 _ _ (k02 dw o ndw e));rw[hdw] at this;cases this
  have hdwne:∀b o,H b=some o->b≠dw:=fun b o e=>Zi e hdwH;refine q H13 L T (rlA S fm.qs) (fm.hs.filter fun x=>decide (x∈S)) (fun b o hb e=>k813 b o hb (k08 b o hb (hdwne b o e) e)) (free L nLa hL8 nLd) (free T nTa hT8 nTd) (ok.hs.filter _) (fun x=>?_) ⟨ok,Zjp hS,⟨rfl,fun l hl=>?_,fun l hl p hp=>?_⟩,nLT,(fun _ h=>nomatch h),dx,p0,df,dw,S0,[.ref pc],x13,?_,⟨m0,k813 _ _ ndf d8,kn0'⟩,hS0',?_,k13 _ _ nLa (k11 _ _ nLa x10),?_,y13⟩
  ·rw[List.mem_filter,decide_eq_true_eq,hS]
  ·rw[List.mem_singleton.mp hl];exact Zdk (ok.hs.filter _)
  ·rw[List.mem_singleton.mp hl] at hp;obtain⟨x,hx,rfl⟩:=List.mem_map.mp hp;have:=ok.hb x (List.mem_filter.mp hx).1;exact⟨this,this⟩
  ·exact⟨f1,f2,f3,zf,k813 _ _ (na _ _ a1) c1,k813 _ _ (na _ _ a2) c2,k813 _ _ (na _ _ a3) (k08 _ _ (na _ _ a3) (hdwne _ _ a3) a3),k813 _ _ (na _ _ a4) (k08 _ _ (na _ _ a4) (hdwne _ _ a4) a4),a5.keep fun b xs e=>k813 _ _ (na _ _ e) (k08 _ _ (na _ _ e) (hdwne _ _ e) e)⟩
  ·obtain⟨w1,m',D',w2,w3,w4,w5⟩:=wi;refine⟨w1,m',D',k813 _ _ ndw w2,w3,w4,fun k a' e=>?_⟩;obtain⟨u1,mk',ts',u2,u3,u4,u5⟩:=w5 k a' e;refine⟨u1,mk',ts',k813 _ _ (fun z=>by rw[z,x8] at u2;cases u2) u2,u3,u4,fun t=>?_⟩;rcases u5 t with h|⟨l,zs,g1,g2,g3,g4,g5⟩
   ·exact .inl h
   ·exact .inr ⟨l,zs,g1,g2,k813 _ _ (fun z=>by rw[z,x8] at g3;cases g3) g3,g4.keep fun b xs e=>k813 _ _ (nta _ _ e) e,g5⟩
  ·have npT:pc≠T:=fun z=>by
    have:=k11 _ _ npa (s10 _ _ hp);rw[z,hT] at this;cases this
   refine .cons ⟨pc,ys,rfl,Zb7 nLp.symm npT,k13 _ _ npa (k11 _ _ npa (s10 _ _ hp)),hz.keep fun b xs e=>?_⟩ .nil;have nb:b≠a:=fun z=>by rw[z,s9 _ _ x8] at e;cases e
   exact k13 _ _ nb (k11 _ _ nb (s10 _ _ e))
set_option maxHeartbeats 1000000 in
theorem ZbV{C:Addr}(B:∀x∈ZcF,mg x=none)(c_Reader:RdC K C)(F:Fun K "ways_from" "Reader.ways_from" Zw f fd):FnOk P w K mg base CX0 1 f fd ["self","kind","tag"] (ZdN C):=by
 refine F.ok ZbU (fun vs H Q E h=>?_) (fun cdv A outer s H vs Q E hr h=>?_)
 ·obtain⟨a,L,T,ex,fm,R,lv,tg,k,t,rfl,_⟩:=h;rfl
 obtain⟨a,L,T,ex,fm,R,lv,tg,k,t,rfl,hR,q⟩:=h;have hu1:(A.deeper (PyProof.Rows.envOfC (Str.ofString "Reader.ways_from") (Ze Zw) s.heap.objs.size f cdv)).units+1<cLine:=by have:=hr.un;lia
 obtain⟨dx,p,df,dw,ns,zs,h1,h2,h3,h4,⟨nw,m,D,w1,w2,w3,w4⟩,h6,h7,h8⟩:=hR.ho;refine⟨_,(Zg (Zy (Zec hu1 (Zec hu1 (ZaM (pv 0) rfl) (pv 1) ZbK ⟨rfl,rfl,rfl,rfl⟩) (pv 2) (ZaQ Zd) ⟨rfl,rfl,rfl,rfl⟩))),?_⟩;refine⟨_,rfl,a,C,dx,_,_,rfl,h1,c_Reader.cls,c_Reader.n3,rfl,dw,rfl,.inl ⟨m,.inl w1⟩,_,rfl,fun d0 hd0=>?_⟩;have s1:Zj H (upd H d0 (.dK [])):=Zj.new hd0;have e1:(upd H d0 (.dK [])) d0=some (.dK []):=Za;generalize upd H d0 (.dK [])=H1 at s1 e1 ⊢;refine⟨_,Zc1.k (k:=Sum.inl k) (s1 _ _ w1),?_⟩;rw[w2];cases hD:D k with
 | none =>
  refine⟨d0,rfl,.inl ⟨[],.inl e1⟩,_,rfl,by decide,fun l0 hl0=>⟨_,Zc1.k (k:=Sum.inr t) (by rw[Zh (Zi e1 hl0)];exact e1),?_⟩⟩;exact q l0 [] _ (s1.trans (Zj.new hl0)) Za (by rw[w3 k hD t];exact .nil)
 | some a' =>
  obtain⟨n1,mk,ts,k1,k2,k3,k4⟩:=w4 k a' hD;refine⟨a',rfl,.inl ⟨mk,.inl (s1 _ _ k1)⟩,_,rfl,by decide,fun l0 hl0=>⟨_,Zc1.k (k:=Sum.inr t) (by rw[Zh (Zi (s1 _ _ k1) hl0)];exact s1 _ _ k1),?_⟩⟩;have s2:=s1.trans (Zj.new (o:=.lst []) hl0);rcases k4 t with⟨e,ew⟩|⟨l,zs',e,e2,e3,e4,e5⟩
  ·rw[e];exact q l0 [] _ s2 Za (by have ew:Zcq R k t=[]:=ew;rw[ew];exact .nil)
  ·rw[e];exact q l zs' _ s2 (s2 _ _ e3) (e4.keep fun b xs z=>s2 _ _ z)
set_option maxHeartbeats 2000000 in
theorem Zdh{C:Addr}(B:∀x∈ZcF,mg x=none)(c_Reader:RdC K C)(F:Fun K "ended" "Reader.ended" Z3 f fd):FnOk P w K mg base CX0 1 f fd ["self"] (ZcC C):=by
 refine F.ok ZcN (fun vs H Q E h=>?_) (fun cdv A outer s H vs Q E hr h=>?_)
 ·obtain⟨a,L,T,ex,fm,R,lv,l,tg,rfl,_⟩:=h;rfl
 obtain⟨a,L,T,ex,fm,R,lv,l,tg,rfl,hR,q⟩:=h;have hu1:(A.deeper (PyProof.Rows.envOfC (Str.ofString "Reader.ended") (Ze Z3) s.heap.objs.size f cdv)).units+1<cLine:=by have:=hr.un;lia
 obtain⟨dx,p,df,dw,ns,zs,h1,h2,⟨m,h3,h3'⟩,h4,h5,h6,h7,h8⟩:=hR.ho;obtain⟨zs',pl,xs,rfl,g1,g2,g3,g4⟩:=h7.last;have hll:=hR.st.few hR.ok.n8 (List.mem_append_right lv (List.mem_singleton.mpr rfl));have hxl:=g4.length;refine⟨_,(Zg (Zy (ZaJ (Za4 rfl) rfl (B "dict" (by decide)) Zft (Zb (Zbg (cl:=_) ["begin","now"] [("self",0)] (ZaF (ZX Zaj (ZaM (pv 0) rfl) (Zia Ze7 Zf) (fun _ _=>rfl))) (fun _ _ _ _=>(ZjZ (K:=K) (n:=2) rfl rfl (ZL (Zo (i:=0) (show List.Nodup (["begin","now","self"]:List Str) by decide) rfl (Or.inl rfl)) (ZL (Zo (i:=1) (show List.Nodup (["begin","now","self"]:List Str) by decide) rfl (Or.inl rfl)) Zbw)))) (fun _ _ _ _=>(Zbc (Zbq hu1 (pv 1) (ZjD (K:=K) rfl (pv 2) rfl)))) (fun _ _ _ _=>(ZaH (Zb (pv 0) (Zb ZaB Zd)))) rfl rfl (by decide) rfl (by decide) (Zcx (by(repeat' first|exact List.forall_mem_nil _|refine List.forall_mem_cons.mpr ⟨?_,?_⟩) <;> rfl)) (Zbx (by(repeat' first|exact List.forall_mem_nil _|refine List.forall_mem_cons.mpr ⟨?_,?_⟩) <;> first|(intro h;exact⟨_,rfl⟩)|(intro h;exact absurd h (by decide)))) (fun _=>by(repeat' first|exact List.forall_mem_nil _|refine List.forall_mem_cons.mpr ⟨?_,?_⟩) <;> exact⟨rfl,rfl,Or.inl rfl⟩) (fun _=>rfl)) Zd)))),?_⟩
 refine⟨_,rfl,a,C,dx,_,_,rfl,h1,c_Reader.cls,c_Reader.n4,rfl,1,rfl,L,_,-1,.ref pl,rfl,rfl,SqL.of h6,ZcI _ _,pl,rfl,⟨_,SqL.of g3⟩,fun pc hpc=>ZbI (K:=K) (a:=pl) (p:=pc) (xs:=xs) (fun i ys σ H2=>∃v0 v1:Option V,σ =[v0,v1,some (.ref a)]/\Zj H H2/\H2 pc=some (.lst ys)/\PT H2 ys (((l.take i).filter fun p=>decide (p.2∈fm.ts)).map (·.1)))
  ⟨none,none,rfl,Zj.new hpc,Za,.nil⟩ ?_ ?_ ?_⟩
 ·rintro i ys σ H2 _ ⟨v0,v1,_,sm,h,_⟩;exact⟨SqL.of (sm _ _ g3),h⟩
 ·rintro i ys x σ H2 hi hx ⟨v0,v1,rfl,sm,hp,hz⟩;obtain⟨tp,pr,x1,rfl,x2⟩:=g4.get i x hx;have hlen:(((l.take i).filter fun p=>decide (p.2∈fm.ts)).map (·.1)).length<=4096:=by
   rw[List.length_map];exact Nat.le_trans (List.length_filter_le ..) (by rw[List.length_take];lia)
  refine⟨tp,_,rfl,SqT.of (sm _ _ x2),rfl,_,_,rfl,_,_,rfl,rfl,?_⟩;refine⟨_,rfl,_,rfl,a,C,dx,_,_,rfl,sm _ _ h1,c_Reader.cls,c_Reader.n2,rfl,df,_,rfl,Zc1.k (k:=Sum.inl pr.2) (sm _ _ h3),_,rfl,?_⟩;rw[DI.has h3'];by_cases c:pr.2∈fm.ts
  ·rw[decide_eq_true ((h4 _).mpr c)];refine Zej ⟨_,rfl,by show(2:Nat)<=sizeLine;decide,fun t ht0=>?_⟩;have s2:Zj H2 (upd H2 t (.tup [V.int pr.1,.bl true])):=Zj.new ht0;refine⟨s2 _ _ hp,Zq (by rw[hz.length];lia),CW.next hi ⟨_,_,rfl,(sm.trans s2).upd_new hpc,Za,?_⟩⟩
   rw[Zk x1,List.filter_append,List.filter_cons,if_pos (decide_eq_true c),List.filter_nil,List.map_append];have hz2:PT (upd H2 t (.tup [V.int pr.1,.bl true])) (ys ++ [.ref t]) ((((l.take i).filter fun p=>decide (p.2∈fm.ts)).map (·.1)) ++ [pr.1]):=PT.snoc Za (hz.keep fun b xs e=>s2 _ _ e);exact hz2.keep (ZaN (s2 _ _ hp))
  ·rw[decide_eq_false (fun z=>c ((h4 _).mp z))];refine Za5 (CW.next hi ⟨_,_,rfl,sm,hp,?_⟩)
   rw[Zk x1,List.filter_append,List.filter_cons,if_neg (by rw[decide_eq_false c];decide),List.filter_nil,List.append_nil];exact hz
 rintro ys σ H2 ⟨v0,v1,rfl,sm,hp,hz⟩;rw[hxl,List.take_length] at hz;have hlen:((l.filter fun p=>decide (p.2∈fm.ts)).map (·.1)).length<=4096:=by
  rw[List.length_map];exact Nat.le_trans (List.length_filter_le ..) hll
 have hmem:∀x,x∈((l.filter fun p=>decide (p.2∈fm.ts)).map (·.1))↔Edd fm.ts l x:=fun x=>by
  rw[List.mem_map];constructor
  ·rintro⟨⟨b,n⟩,hb,rfl⟩;obtain⟨e1,e2⟩:=List.mem_filter.mp hb;exact⟨n,e1,of_decide_eq_true e2⟩
  ·rintro⟨n,e1,e2⟩;exact⟨_,List.mem_filter.mpr ⟨e1,decide_eq_true e2⟩,rfl⟩
 generalize ((l.filter fun p=>decide (p.2∈fm.ts)).map (·.1))=es at hz hlen hmem;refine⟨pc,_,es.map kB,rfl,SqL.of hp,by rw[hz.length];lia,hz.pairs,fun d hd=>?_⟩;obtain⟨S0,kn0,hS0⟩:=Zf0 es [] [] rfl;have hm0:(putAll (es.map kB)).length<=es.length:=by
  have:=Zcf (es.map kB);rw[List.length_map] at this;exact this
 have kn0':(putAll (es.map kB)).map (·.1)=S0.map Sum.inl:=kn0;refine q d S0 _ (sm.upd_new (sm.free hd)) (sm.free hd) ⟨_,Za,kn0'⟩ (by have:=ZaU kn0';lia) fun x=>?_;rw[hS0,<- hmem];exact⟨fun z=>z.elim (fun z=>nomatch z) id,.inr⟩
set_option maxHeartbeats 1000000 in
theorem Zdp{C:Addr}(B:∀x∈ZcF,mg x=none)(c_Reader:RdC K C)(g_Reader_take_end:HasM P w K mg base C "take_end" ["self"] 2 (Zh4 C)) (g_Reader_take_tag:HasM P w K mg base C "take_tag" ["self","tag"] 2 (ZhR C)) (F:Fun K "take" "Reader.take" Zal f fd):FnOk P w K mg base CX0 3 f fd ["self","word"] (ZfL C):=by
 refine F.ok Zdu (fun vs H Q E h=>?_) (fun cdv A outer s H vs Q E hr h=>?_)
 ·obtain⟨a,L,T,ex,fm,R,lv,l,tg,w,rfl,_⟩:=h;rfl
 obtain⟨a,L,T,ex,fm,R,lv,l,tg,w,rfl,hR,htg,q1,q2⟩:=h;obtain⟨dx,p,df,dw,ns,zs,h1,_⟩:=id hR.ho;refine⟨_,(Zg (Zy (Zga (Z0 ZeB (pv 1) Zc6 (Zao _)) (ZbE g_Reader_take_end hr (pv 0) c_Reader.cls) (ZdZ g_Reader_take_tag hr (pv 0) c_Reader.cls (Zb (pv 1) Zd))))),?_⟩;refine⟨_,rfl,rfl,_,rfl,ZdP (fun c=>?_) (fun c=>?_)⟩
 ·have e:w=SL:=by
   have:=of_decide_eq_true c;injection this
  subst e;exact⟨_,rfl,a,dx,_,rfl,h1,rfl,a,L,T,ex,fm,R,lv,l,tg,rfl,hR,htg,q1,q2⟩
 ·have e:w≠SL:=fun e=>c (decide_eq_true (congrArg V.str e));exact⟨_,rfl,a,dx,_,rfl,h1,rfl,_,rfl,a,L,T,ex,fm,R,lv,l,tg,w,rfl,hR,htg,e,q1,q2⟩
set_option maxHeartbeats 2000000 in
theorem Zcb{C:Addr}(B:∀x∈ZcF,mg x=none)(c_Reader:RdC K C)(g_Reader_ways_from:HasM P w K mg base C "ways_from" ["self","kind","tag"] 1 (ZdN C)) (F:Fun K "take_tag" "Reader.take_tag" ZG f fd):FnOk P w K mg base CX0 2 f fd ["self","tag"] (ZhR C):=by
 refine F.ok ZK (fun vs H Q E h=>?_) (fun cdv A outer s H vs Q E hr h=>?_)
 ·obtain⟨a,L,T,ex,fm,R,lv,l,tg,w,rfl,_⟩:=h;rfl
 obtain⟨a,L,T,ex,fm,R,lv,l,tg,w,rfl,hR,htg,hw,q1,q2⟩:=h;have hu1:(A.deeper (PyProof.Rows.envOfC (Str.ofString "Reader.take_tag") (Ze ZG) s.heap.objs.size f cdv)).units+1<cLine:=by have:=hr.un;lia
 obtain⟨dx,p,df,dw,ns,zs,h1,h2,h3,h4,h5,h6,h7,h8⟩:=id hR.ho;obtain⟨zs',pl,xs,rfl,g1,g2,g3,g4⟩:=h7.last;have hll:=hR.st.few hR.ok.n8 (List.mem_append_right lv (List.mem_singleton.mpr rfl));have hxl:=g4.length;have n8:=hR.ok.n8;have hqb:=hR.rk.qb hR.ok;refine⟨_,(Zc (Zt (i:=2) ZK.nd rfl (Or.inl rfl) ZbK)
  (Zc (ZaP PassesOwn.never rfl (ZaF (ZX Zaj (ZaM (pv 0) rfl) (Zia Ze7 Zf) (fun _ _=>rfl))) (Zcr rfl (ZL (Zo (i:=3) ZK.nd rfl (Or.inl rfl)) (ZL (Zo (i:=4) ZK.nd rfl (Or.inl rfl)) Zbw)))
   (Zg (ZaP PassesOwn.never rfl (ZaF (ZdZ g_Reader_ways_from hr (pv 0) c_Reader.cls (Zb (pv 4) (Zb (pv 1) Zd)))) (Zcr rfl (ZL (Zo (i:=5) ZK.nd rfl (Or.inl rfl)) (ZL (Zo (i:=6) ZK.nd rfl (Or.inl rfl)) Zbw)))
     (Zg (Zcl hu1 (pv 2) (pv 5) ZaB rfl)))))
  (Zc (ZaT (ZaR (ZP (pv 2) (fun _=>rfl)))
   (Zg (Zy ZaB))
   ZR)
  (Zc (Zbm (Ze8 PySem.F.plainAttrs_list PySem.F.slot_list_append PySem.F.type_list_append Zaw (ZaM (pv 0) rfl) (Zb (ZdS (cl:=[]) ["begin"] [] (ZaF (Zx (ZdA rfl) rfl (B "sorted" (by decide)) Zc4 (Zb (pv 2) Zd))) (fun _ _ _ _=>(Zo (i:=0) nd1 rfl (Or.inl rfl))) (fun _ _ _ _=>(ZaH (Zb (pv 0) (Zb (pv 0) Zd)))) rfl rfl (by decide) rfl (by decide) (fun _ _ h=>nomatch h) (Zdc (by decide)) (fun _ _ h=>nomatch h) (fun _=>rfl)) Zd)))
  (Zc (Zbm (Ze8 PySem.F.plainAttrs_list PySem.F.slot_list_append PySem.F.type_list_append Zaw (ZaM (pv 0) rfl) (Zb (pv 1) Zd)))
  (Zg (Zy ZaB))))))),?_⟩
 refine fun d hd=>?_;have s0:Zj H (upd H d (.dK [])):=Zj.new hd;have few:∀{S:List Int},S.Nodup->IB fm.n S->S.length<=64:=fun{S} hn hb=>by
  have h64:((List.range 64).map fun x:Nat=>(x:Int)).length=64:=by rw[List.length_map,List.length_range]
  rw[<- h64];refine Zbl hn fun x hx=>List.mem_map.mpr ⟨x.toNat,List.mem_range.mpr ?_,?_⟩
  ·have:=hb x hx;lia
  ·exact Int.toNat_of_nonneg (hb x hx).1
 refine⟨_,rfl,a,C,dx,_,_,rfl,s0 _ _ h1,c_Reader.cls,c_Reader.n4,rfl,1,rfl,L,_,-1,.ref pl,rfl,rfl,SqL.of (s0 _ _ h6),ZcI _ _,pl,rfl,⟨_,SqL.of (s0 _ _ g3)⟩,Zbo (K:=K) (a:=pl) (xs:=xs) (fun i σ H1=>∃(v3 v4 v5 v6:Option V)(m:List (Key×V))(S:List Int),σ =[some (.ref a),some (.str w),some (.ref d),v3,v4,v5,v6]/\Zj H H1/\H1 d=some (.dK m)/\m.map (·.1)=S.map Sum.inl/\S.Nodup/\IB fm.n S/\∀x,x∈S↔Bgs R (l.take i) w x)
  ⟨none,none,none,none,[],[],rfl,s0,Za,rfl,List.nodup_nil,(fun _ h=>nomatch h),fun x=>⟨fun h=>(nomatch h),fun⟨_,h,_⟩=>(nomatch h)⟩⟩ ?_ ?_ ?_⟩
 ·rintro i σ H1 _ ⟨_,_,_,_,_,_,_,s1,_⟩;exact SqL.of (s1 _ _ g3)
 ·rintro i x σ H1 hx ⟨v3,v4,v5,v6,m,S,rfl,s1,hm,hk,hnd,hib,hmem⟩;obtain⟨tp,pr,x1,rfl,x2⟩:=g4.get i x hx;refine⟨tp,_,rfl,SqT.of (s1 _ _ x2),rfl,_,_,rfl,_,_,rfl,rfl,?_⟩;refine⟨_,rfl,a,dx,_,rfl,s1 _ _ h1,rfl,_,rfl,_,rfl,a,L,T,ex,fm,R,_,tg,pr.2,w,rfl,hR.same s1,fun r ys H2 s2 e2 e3=>?_⟩;have s12:=s1.trans s2;have hyl:=e3.length;refine⟨r,rfl,⟨_,SqL.of e2⟩,Zbo (K:=K) (a:=r) (xs:=ys) (fun j σ H3=>∃(v5 v6:Option V)(m:List (Key×V))(S':List Int),σ =[some (.ref a),some (.str w),some (.ref d),some (.int pr.1),some (.int pr.2),v5,v6]/\Zj H H3/\(∀b o,b≠d->H2 b=some o->H3 b=some o)/\H3 d=some (.dK m)/\m.map (·.1)=S'.map Sum.inl/\S'.Nodup/\IB fm.n S'/\∀x,x∈S'↔x∈S\/∃p∈(Zcq R pr.2 w).take j,p.1=x)
   ⟨v5,v6,m,S,rfl,s12,(fun b o _ h=>h),s2 _ _ hm,hk,hnd,hib,fun x=>⟨.inl,fun z=>z.elim id fun⟨_,z,_⟩=>nomatch z⟩⟩ ?_ ?_ ?_⟩
  ·rintro j σ H3 _ ⟨_,_,_,_,_,_,kp,hd3,_⟩;refine SqL.of (kp _ _ (fun z=>?_) e2);rw[z,s2 _ _ hm] at e2;cases e2
  ·rintro j y σ H3 hy ⟨v5,v6,m3,S3,rfl,s3,kp,hm3,hk3,hnd3,hib3,hmem3⟩;obtain⟨tq,pq,y1,rfl,y2⟩:=e3.get j y hy;have y2':=kp _ _ (fun z=>by rw[z,s2 _ _ hm] at y2;cases y2) y2;have hpq:=ZaS.mp (List.mem_of_getElem? y1);have hl3:=few hnd3 hib3;refine⟨tq,_,rfl,SqT.of y2',rfl,_,_,rfl,_,_,rfl,rfl,?_⟩;refine⟨_,rfl,_,rfl,d,_,rfl,ZgJ.k (k:=Sum.inl pq.1) hm3 (Zq (by have:=ZaU hk3;lia)),?_⟩;have hk4:(putK m3 (Sum.inl pq.1) (V.bl true)).map (·.1)=(ZfN S3 pq.1).map Sum.inl:=DI.put hk3 pq.1 (V.bl true);refine⟨_,_,_,ZfN S3 pq.1,rfl,s3.upd_new hd,fun b o hb h=>by rw[Zh hb];exact kp b o hb h,Za,hk4,?_,?_,fun x=>?_⟩
   ·unfold ZfN
    split
    ·exact hnd3
    ·rename_i hno
     exact List.nodup_append.mpr ⟨hnd3,List.pairwise_singleton _ _,fun x hx y hy e=>hno (by rw[<- List.mem_singleton.mp hy,<- e];exact hx)⟩
   ·intro x hx;rcases ZbJ.mp hx with hx|rfl
    ·exact hib3 x hx
    ·exact(hqb _ hpq).2.1
   ·rw[ZbJ,hmem3,Zk y1];constructor
    ·rintro((h|⟨p,hp,z⟩)|rfl)
     ·exact .inl h
     ·exact .inr ⟨p,List.mem_append_left _ hp,z⟩
     ·exact .inr ⟨pq,List.mem_append_right _ (List.mem_singleton.mpr rfl),rfl⟩
    ·rintro(h|⟨p,hp,z⟩)
     ·exact .inl (.inl h)
     ·rcases List.mem_append.mp hp with hp|hp
      ·exact .inl (.inr ⟨p,hp,z⟩)
      ·rw[List.mem_singleton.mp hp] at z;exact .inr z.symm
  ·rintro σ H3 ⟨v5,v6,m3,S3,rfl,s3,kp,hm3,hk3,hnd3,hib3,hmem3⟩;rw[hyl,List.take_length] at hmem3;refine⟨_,_,_,_,m3,S3,rfl,s3,hm3,hk3,hnd3,hib3,fun x=>?_⟩;rw[hmem3,hmem,Zk x1];constructor
   ·rintro(⟨p,hp,r',z⟩|⟨p,hp,rfl⟩)
    ·exact⟨p,List.mem_append_left _ hp,r',z⟩
    ·exact⟨pr,List.mem_append_right _ (List.mem_singleton.mpr rfl),p.2,ZaS.mp hp⟩
   ·rintro⟨p,hp,r',z⟩;rcases List.mem_append.mp hp with hp|hp
    ·exact .inl ⟨p,hp,r',z⟩
    ·rw[List.mem_singleton.mp hp] at z;exact .inr ⟨(x,r'),ZaS.mpr z,rfl⟩
 ·rintro σ H1 ⟨v3,v4,v5,v6,m,S,rfl,s1,hm,hk,hnd,hib,hmem⟩;rw[hxl,List.take_length] at hmem;have hl1:=few hnd hib;have hkl:=ZaU hk;refine⟨_,rfl,_,.inr (.inr ⟨m,hm,rfl⟩),?_⟩;cases m with
  | nil =>
   have hS:S=[]:=List.length_eq_zero_iff.mp hkl.symm;subst hS;exact Zej (q1 H1 s1 (.inl ⟨hw,fun x hx=>nomatch (hmem x).mpr hx⟩))
  | cons kv m =>
   refine Za5 ?_;have t6:=s1 _ _ h6;have t8:=s1 _ _ h8;refine⟨_,rfl,a,C,dx,_,_,rfl,s1 _ _ h1,c_Reader.cls,c_Reader.n4,rfl,.inl ⟨rfl,_,SqL.of t6⟩,_,rfl,d,_,S,rfl,hm,by lia,hk,fun ps ks hps hperm hrise=>?_⟩;have s2:Zj H1 (upd H1 ps (.lst (ks.map V.int))):=Zj.new hps;have x2:(upd H1 ps (.lst (ks.map V.int))) ps=some (.lst (ks.map V.int)):=Za;generalize upd H1 ps (.lst (ks.map V.int))=H2 at s2 x2 ⊢;have hksl:ks.length<=64:=by rw[hperm.length_eq];exact hl1
   refine⟨ps,rfl,⟨_,SqL.of x2⟩,fun pc hpc=>Zem (K:=K) (a:=ps) (p:=pc) (xs:=ks.map V.int) (fun i ys σ H3=>∃v0:Option V,σ =[v0]/\Zj H2 H3/\H3 pc=some (.lst ys)/\PL H3 ys ((ks.take i).map dup))
    ⟨none,rfl,Zj.new hpc,Za,.nil⟩ ?_ ?_ ?_⟩
   ·rintro i ys σ H3 _ ⟨v0,_,sm,h,_⟩;exact⟨SqL.of (sm _ _ x2),h⟩
   ·rintro i ys x σ H3 hi hx ⟨v0,rfl,sm,hp,hz⟩;rw[List.getElem?_map] at hx;obtain⟨e,he,rfl⟩:=Option.map_eq_some_iff.mp hx;refine⟨_,rfl,_,rfl,by show(2:Nat)<=sizeLine;decide,fun t ht0=>?_⟩;have s4:Zj H3 (upd H3 t (.tup [V.int e,V.int e])):=Zj.new ht0;refine⟨s4 _ _ hp,Zq (by rw[hz.length,List.length_map,List.length_take];lia),CW.next hi ⟨_,rfl,(sm.trans s4).upd_new hpc,Za,?_⟩⟩
    rw[Zk he,List.map_append];have hz2:PL (upd H3 t (.tup [V.int e,V.int e])) (ys ++ [.ref t]) ((ks.take i).map dup ++ [dup e]):=PL.snoc (q:=dup e) (show _=some (tp (dup e)) from Za) (hz.keep fun b xs e=>s4 _ _ e);exact hz2.keep (ZaN (s4 _ _ hp))
   rintro ys σ H3 ⟨v0,rfl,sm,hp,hz⟩;rw[List.length_map,List.take_length] at hz;have s13:Zj H1 H3:=s2.trans sm;have s03:=s1.trans s13;have hlvl:=h7.length;have hst:=hR.st.len;refine⟨L,_,_,rfl,rfl,s03 _ _ h6,Zq (by rw[h7.length,hst];lia),?_⟩;have nLT:=hR.ne;have npL:pc≠L:=fun z=>by
    have:=s2.free hpc;rw[z,t6] at this;cases this
   have npT:pc≠T:=fun z=>by
    have:=s2.free hpc;rw[z,t8] at this;cases this
   have x8:(upd H3 L (.lst ((zs' ++ [.ref pl]) ++ [.ref pc]))) T=some (.lst (tg.map V.str)):=by
    rw[Zh nLT.symm];exact s03 _ _ h8
   have xa:(upd H3 L (.lst ((zs' ++ [.ref pl]) ++ [.ref pc]))) a=some (.ins C dx (rdF p df dw L T)):=by
    rw[Zh (fun z=>by rw[z,h6] at h1;cases h1)];exact s03 _ _ h1
   refine⟨_,rfl,a,C,dx,_,_,rfl,xa,c_Reader.cls,c_Reader.n5,rfl,.inl ⟨rfl,_,SqL.of x8⟩,_,rfl,T,_,_,rfl,rfl,x8,Zq (by rw[List.length_map];lia),?_⟩;have kx:Zaq [L,T] H (upd (upd H3 L (.lst ((zs' ++ [.ref pl]) ++ [.ref pc]))) T (.lst (tg.map V.str ++ [.str w]))):=(Zaq.upd (Zaq.upd (Zj.keepX s03) (List.mem_cons_self ..)) (List.mem_cons_of_mem _ (List.mem_cons_self ..)));have kx3:Zaq [L,T] H3 (upd (upd H3 L (.lst ((zs' ++ [.ref pl]) ++ [.ref pc]))) T (.lst (tg.map V.str ++ [.str w]))):=(Zaq.upd (Zaq.upd (Zj.keepX (Zj.refl H3)) (List.mem_cons_self ..)) (List.mem_cons_of_mem _ (List.mem_cons_self ..)));have kt3:=kx3.tups (s03 _ _ h6) (s03 _ _ h8);have hstp:Stp fm.ts R (lv ++ [l]) tg w ((lv ++ [l]) ++ [ks.map dup]) (tg ++ [w]):=by
    refine .tag hw hrise (fun x=>?_) ?_
    ·rw[hperm.mem_iff];exact hmem x
    ·intro z;rw[z] at hperm;have:S=[]:=List.length_eq_zero_iff.mp (by rw[<- hperm.length_eq];rfl);rw[this] at hkl;exact nomatch hkl
   refine q2 _ _ _ kx (hR.move kx (hR.st.stp hqb hstp) (zs':=(zs' ++ [.ref pl]) ++ [.ref pc]) ?_ ?_ ?_) hstp
   ·rw[Zh nLT];exact Za
   ·refine LVs.snoc (hR.fresh ((s1.trans s2).free hpc)) (kx3 _ _ (Zb7 npL npT) hp) (hz.keep kt3) ?_;exact(LVs.keep (Zj.keepX s03) (fun b xs e=>s03 _ _ e) h7).keep (kx3.less ZbT) kt3
   ·rw[Za,List.map_append];rfl
theorem Zkb{m:List (List Key×V)}{S:List Pr}(h:m.map (·.1)=S.map L2.pK)(x:Pr)(v:V):(putK m (L2.pK x) v).map (·.1)=(if x∈S then S else S ++ [x]).map L2.pK:=by
 have inj:∀{a b:Pr},L2.pK a=L2.pK b->a=b:=fun{a b} e=>by
  obtain⟨a1,a2⟩:=a;obtain⟨b1,b2⟩:=b;injection e with e1 e2;injection e2 with e2 _;injection e1 with e1;injection e2 with e2;have e1:a1=b1:=e1;have e2:a2=b2:=e2;rw[e1,e2]
 cases hv:Zbi m (L2.pK x) with
 | none =>
  have hn:=Zgp hv;have hx:x∉S:=fun hx=>hn (by rw[h];exact List.mem_map.mpr ⟨x,hx,rfl⟩);rw[ZdQ v hv,if_neg hx,List.map_append,List.map_append,h];rfl
 | some y =>
  have hi:=Zg5 hv;rw[h] at hi;obtain⟨z,hz,e⟩:=List.mem_map.mp hi;have e:=inj e;subst e;rw[if_pos hz,<- h];unfold putK;rw[Zar,hv,if_pos (show(some y).isSome=true from rfl),List.map_map];refine List.map_congr_left fun kv _=>?_;show(if kv.1=L2.pK z then(kv.1,v) else kv).1=kv.1
  split <;> rfl
set_option maxHeartbeats 4000000 in
theorem Zb5{C:Addr}(B:∀x∈ZcF,mg x=none)(c_Reader:RdC K C)(g_Reader_ended:HasM P w K mg base C "ended" ["self"] 1 (ZcC C)) (g_Reader_ways_from:HasM P w K mg base C "ways_from" ["self","kind","tag"] 1 (ZdN C)) (F:Fun K "take_end" "Reader.take_end" ZF f fd):FnOk P w K mg base CX0 2 f fd ["self"] (Zh4 C):=by
 refine F.ok Zu (fun vs H Q E h=>?_) (fun cdv A outer s H vs Q E hr h=>?_)
 ·obtain⟨a,L,T,ex,fm,R,lv,l,tg,rfl,_⟩:=h;rfl
 obtain⟨a,L,T,ex,fm,R,lv,l,tg,rfl,hR,htg,q1,q2⟩:=h;have hu1:(A.deeper (PyProof.Rows.envOfC (Str.ofString "Reader.take_end") (Ze ZF) s.heap.objs.size f cdv)).units+1<cLine:=by have:=hr.un;lia
 obtain⟨dx,p,df,dw,ns,zs,h1,h2,h3,h4,h5,h6,h7,h8⟩:=id hR.ho;have n8:=hR.ok.n8;have hqb:=hR.rk.qb hR.ok;refine⟨_,(Zc (Zt (i:=1) Zu.nd rfl (Or.inl rfl) (ZbE g_Reader_ended hr (pv 0) c_Reader.cls))
  (Zc (ZaT (PW.pt (Zdn (ZaR (ZP (ZaM (pv 0) rfl) (fun _=>rfl))) (Zb4 (ZaR (ZP (pv 1) (fun _=>rfl))))))
   (Zg (Zy ZaB))
   ZR)
  (Zc (Zt (i:=2) Zu.nd rfl (Or.inl rfl) (Zjx PySem.F.plainAttrs_list PySem.F.slot_list_pop PySem.F.type_list_pop Zjd (ZaM (pv 0) rfl)))
  (Zc (Zbm (Zjx PySem.F.plainAttrs_list PySem.F.slot_list_pop PySem.F.type_list_pop Zjd (ZaM (pv 0) rfl)))
  (Zc (Zt (i:=3) Zu.nd rfl (Or.inl rfl) Zgd)
  (Zc (ZaP PassesOwn.never rfl (ZaF (ZX Zaj (ZaM (pv 0) rfl) (Zia Ze7 Zf) (fun _ _=>rfl))) (Zcr rfl (ZL (Zo (i:=4) Zu.nd rfl (Or.inl rfl)) (ZL (Zo (i:=5) Zu.nd rfl (Or.inl rfl)) Zbw)))
   (Zg (ZaP PassesOwn.never rfl (ZaF (ZdZ g_Reader_ways_from hr (pv 0) c_Reader.cls (Zb (pv 5) (Zb (pv 2) Zd)))) (Zcr rfl (ZL (Zo (i:=6) Zu.nd rfl (Or.inl rfl)) (ZL (Zo (i:=7) Zu.nd rfl (Or.inl rfl)) Zbw)))
     (Zg (ZaT (Zbc (Zbq hu1 (pv 6) (pv 1)))
       (Zg (Zcl hu1 (pv 3) (ZaH (Zb (pv 4) (Zb (pv 7) Zd))) ZaB rfl))
       ZR)))))
  (Zc (Zkg (Zx (Zdx rfl) rfl (B "sorted" (by decide)) Zc4 (Zb (pv 3) Zd)) (Zkv (ZaM (pv 0) rfl) (Zia Ze7 Zf) set_list))
  (Zg (Zy ZaB))))))))),?_⟩
 refine⟨_,rfl,a,dx,_,rfl,h1,rfl,a,L,T,ex,fm,R,lv,l,tg,rfl,hR,fun de es H1 s1 hde ⟨me,e1,ek⟩ hel hee=>?_⟩;refine⟨_,rfl,a,C,dx,_,_,rfl,s1 _ _ h1,c_Reader.cls,c_Reader.n5,rfl,_,.inl ⟨_,SqL.of (s1 _ _ h8),rfl⟩,?_⟩;rcases List.eq_nil_or_concat tg with rfl|⟨tg0,w,rfl⟩
 ·exact Zej (Zej (q1 H1 s1 (.inr ⟨rfl,.inl rfl⟩)))
 rw[List.concat_eq_append] at *;have hne:(!((tg0 ++ [w]).map V.str).isEmpty)=true:=by
  rw[List.map_append];cases tg0 <;> rfl
 rw[hne];refine Za5 ⟨_,rfl,_,.inr (.inr ⟨me,e1,rfl⟩),?_⟩;have hekl:=ZaU ek;cases me with
 | nil =>
  have:es=[]:=List.length_eq_zero_iff.mp hekl.symm;subst this;exact Zej (q1 H1 s1 (.inr ⟨rfl,.inr fun b hb=>nomatch (hee b).mpr hb⟩))
 | cons kv me =>
 refine Za5 ?_;obtain⟨y,hy⟩:∃y,y∈es:=by
  cases es with
  | nil=>exact nomatch hekl
  | cons y es=>exact⟨y,List.mem_cons_self ..⟩
 generalize kv::me=m1 at e1 ek hekl;have hstl:=hR.st.len;rw[List.length_append,List.length_append,List.length_singleton,List.length_singleton] at hstl;rcases List.eq_nil_or_concat lv with rfl|⟨lv0,l1,rfl⟩
 ·rw[List.length_nil] at hstl;lia
 rw[List.concat_eq_append] at *;obtain⟨zs1,pl,xs,rfl,g1,g2,g3,g4⟩:=h7.last;obtain⟨zs0,pl1,xs1,rfl,f1,f2,f3,f4⟩:=g1.last;have hl1:=hR.st.few n8 (List.mem_append_left [l] (List.mem_append_right lv0 (List.mem_singleton.mpr rfl)));have hb1:=hR.st.bd l1 (List.mem_append_left [l] (List.mem_append_right lv0 (List.mem_singleton.mpr rfl)));have hxl:=f4.length;have nLT:=hR.ne;have naL:a≠L:=fun z=>by rw[z,h6] at h1;cases h1
 have naT:a≠T:=fun z=>by rw[z,h8] at h1;cases h1
 have t8:=s1 _ _ h8;have t8':H1 T=some (.lst (tg0.map V.str ++ [.str w])):=by
  rw[t8,List.map_append];rfl
 refine⟨_,rfl,a,C,dx,_,_,rfl,s1 _ _ h1,c_Reader.cls,c_Reader.n5,rfl,.inl ⟨rfl,_,SqL.of t8'⟩,T,_,_,rfl,rfl,t8',Ze0 _ _,?_⟩;rw[List.dropLast_concat];have k2:Zaq [L,T] H1 (upd H1 T (.lst (tg0.map V.str))):=Zaq.upd (Zj.keepX (Zj.refl H1)) (List.mem_cons_of_mem _ (List.mem_cons_self ..));have x2T:(upd H1 T (.lst (tg0.map V.str))) T=some (.lst (tg0.map V.str)):=Za;have x2L:(upd H1 T (.lst (tg0.map V.str))) L=some (.lst ((zs0 ++ [.ref pl1]) ++ [.ref pl])):=by
  rw[Zh nLT];exact s1 _ _ h6
 generalize upd H1 T (.lst (tg0.map V.str))=H2 at k2 x2T x2L ⊢;refine⟨_,rfl,a,C,dx,_,_,rfl,k2 _ _ (Zb7 naL naT) (s1 _ _ h1),c_Reader.cls,c_Reader.n4,rfl,.inl ⟨rfl,_,SqL.of x2L⟩,L,_,_,rfl,rfl,x2L,Ze0 _ _,?_⟩;rw[List.dropLast_concat];have k3:Zaq [L,T] H1 (upd H2 L (.lst (zs0 ++ [.ref pl1]))):=Zaq.upd k2 (List.mem_cons_self ..);have x3T:(upd H2 L (.lst (zs0 ++ [.ref pl1]))) T=some (.lst (tg0.map V.str)):=by
  rw[Zh nLT.symm];exact x2T
 have x3L:(upd H2 L (.lst (zs0 ++ [.ref pl1]))) L=some (.lst (zs0 ++ [.ref pl1])):=Za;generalize upd H2 L (.lst (zs0 ++ [.ref pl1]))=H3 at k3 x3T x3L ⊢;have k03:Zaq [L,T] H H3:=fun b o hb e=>k3 b o hb (s1 b o e);have kt03:=k03.tups h6 h8;have st3:RdOk fm.n (lv0 ++ [l1]) tg0:=⟨by rw[List.length_append,List.length_singleton] at hstl ⊢;lia,fun x hx=>hR.st.ri x (List.mem_append_left _ hx),fun x hx=>hR.st.bd x (List.mem_append_left _ hx)⟩;have hR3:RdAt C H3 a L T ex fm R (lv0 ++ [l1]) tg0:=hR.move k03 st3 x3L (LVs.keep (k03.less ZbT) kt03 g1) x3T;have nde:de ∉ [L,T]:=Zb7 (fun z=>by rw[z,s1 _ _ h6] at e1;cases e1) (fun z=>by rw[z,s1 _ _ h8] at e1;cases e1);have e3:=k3 _ _ nde e1;have f3':=k03 _ _ (fun z=>f2 (ZbT _ z)) f3;have f4':PL H3 xs1 l1:=f4.keep kt03;have a3:=k03 _ _ (Zb7 naL naT) h1;refine fun d hd=>?_;have s4:Zj H3 (upd H3 d (.dT [])):=Zj.new hd;refine⟨_,rfl,a,C,dx,_,_,rfl,s4 _ _ a3,c_Reader.cls,c_Reader.n4,rfl,1,rfl,L,_,-1,.ref pl1,rfl,rfl,SqL.of (s4 _ _ x3L),ZcI _ _,pl1,rfl,⟨_,SqL.of (s4 _ _ f3')⟩,Zbo (K:=K) (a:=pl1) (xs:=xs1) (fun i σ H4=>∃(v4 v5 v6 v7:Option V)(m:List (List Key×V))(S:List Pr),σ =[some (.ref a),some (.ref de),some (.str w),some (.ref d),v4,v5,v6,v7]/\Zj H3 H4/\H4 d=some (.dT m)/\m.map (·.1)=S.map L2.pK/\S.Nodup/\(∀p∈S,(0<=p.1/\p.1<fm.n)/\0<=p.2/\p.2<fm.n)/\∀x,x∈S↔Shu fm.ts R (l1.take i) l w x)
  ⟨none,none,none,none,[],[],rfl,s4,Za,rfl,List.nodup_nil,(fun _ h=>nomatch h),fun x=>⟨fun h=>(nomatch h),fun⟨_,_,h,_⟩=>(nomatch h)⟩⟩ ?_ ?_ ?_⟩
 ·rintro i σ H4 _ ⟨_,_,_,_,_,_,_,sm,_⟩;exact SqL.of (sm _ _ f3')
 ·rintro i x σ H4 hx ⟨v4,v5,v6,v7,m,S,rfl,sm,hm,hk,hnd,hib,hmem⟩;obtain⟨tp,pr,x1,rfl,x2⟩:=f4'.get i x hx;have hprb:=hb1 pr (List.mem_of_getElem? x1);refine⟨tp,_,rfl,SqT.of (sm _ _ x2),rfl,_,_,rfl,_,_,rfl,rfl,?_⟩;refine⟨_,rfl,a,dx,_,rfl,sm _ _ a3,rfl,_,rfl,_,rfl,a,L,T,ex,fm,R,_,tg0,pr.2,w,rfl,hR3.same sm,fun r ys H5 s5 e5 e6=>?_⟩;have s35:=sm.trans s5;have hyl:=e6.length;refine⟨r,rfl,⟨_,SqL.of e5⟩,Zbo (K:=K) (a:=r) (xs:=ys) (fun j σ H6=>∃(v6 v7:Option V)(m:List (List Key×V))(S':List Pr),σ =[some (.ref a),some (.ref de),some (.str w),some (.ref d),some (.int pr.1),some (.int pr.2),v6,v7]/\Zj H3 H6/\(∀b o,b≠d->H5 b=some o->H6 b=some o)/\H6 d=some (.dT m)/\m.map (·.1)=S'.map L2.pK/\S'.Nodup/\(∀p∈S',(0<=p.1/\p.1<fm.n)/\0<=p.2/\p.2<fm.n)/\∀x,x∈S'↔x∈S\/∃p∈(Zcq R pr.2 w).take j,Edd fm.ts l p.1/\(pr.1,p.2)=x)
   ⟨v6,v7,m,S,rfl,s35,(fun b o _ h=>h),s5 _ _ hm,hk,hnd,hib,fun x=>⟨.inl,fun z=>z.elim id fun⟨_,z,_⟩=>nomatch z⟩⟩ ?_ ?_ ?_⟩
  ·rintro j σ H6 _ ⟨_,_,_,_,_,_,kp,_⟩;refine SqL.of (kp _ _ (fun z=>?_) e5);rw[z,s5 _ _ hm] at e5;cases e5
  ·rintro j y σ H6 hy ⟨v6,v7,m6,S6,rfl,s6,kp,hm6,hk6,hnd6,hib6,hmem6⟩;obtain⟨tq,pq,y1,rfl,y2⟩:=e6.get j y hy;have y2':=kp _ _ (fun z=>by rw[z,s5 _ _ hm] at y2;cases y2) y2;have hpq:=ZaS.mp (List.mem_of_getElem? y1);have hl6:=ZcT n8 hnd6 hib6;have hkl6:m6.length=S6.length:=by have:=congrArg List.length hk6;simpa using this
   refine⟨tq,_,rfl,SqT.of y2',rfl,_,_,rfl,_,_,rfl,rfl,?_⟩;refine⟨_,rfl,_,rfl,de,_,rfl,Zc1.k (k:=Sum.inl pq.1) (s6 _ _ e3),_,rfl,?_⟩;rw[DI.has ek];by_cases c:pq.1∈es
   ·rw[decide_eq_true c];refine Zej ⟨_,rfl,_,rfl,_,rfl,by show(2:Nat)<=sizeLine;decide,fun t ht0=>?_⟩;have s7:Zj H6 (upd H6 t (.tup [V.int pr.1,V.int pq.2])):=Zj.new ht0;have x7:(upd H6 t (.tup [V.int pr.1,V.int pq.2])) t=some (.tup ((L2.pK (pr.1,pq.2)).map kV)):=Za;generalize upd H6 t (.tup [V.int pr.1,V.int pq.2])=H7 at s7 x7 ⊢;refine⟨d,_,rfl,ZgJ.t (k:=L2.pK (pr.1,pq.2)) (s7 _ _ hm6) x7 (Zq (by lia)),?_⟩;refine⟨_,_,_,if(pr.1,pq.2)∈S6 then S6 else S6 ++ [(pr.1,pq.2)],rfl,(s6.trans s7).upd_new hd,fun b o hb h=>by rw[Zh hb];exact s7 _ _ (kp b o hb h),Za,Zkb hk6 _ _,?_,?_,fun x=>?_⟩
    ·split
     ·exact hnd6
     ·rename_i hno
      exact List.nodup_append.mpr ⟨hnd6,List.pairwise_singleton _ _,fun x hx y hy e=>hno (by rw[<- List.mem_singleton.mp hy,<- e];exact hx)⟩
    ·intro x hx;have hx':x∈S6\/x=(pr.1,pq.2):=by
      split at hx
      ·exact .inl hx
      ·rcases List.mem_append.mp hx with h|h
       ·exact .inl h
       ·exact .inr (List.mem_singleton.mp h)
     rcases hx' with hx|rfl
     ·exact hib6 x hx
     ·exact⟨hprb.1,(hqb _ hpq).2.2⟩
    ·have e9:x∈(if(pr.1,pq.2)∈S6 then S6 else S6 ++ [(pr.1,pq.2)])↔x∈S6\/x=(pr.1,pq.2):=by
      split
      ·rename_i h
       exact⟨.inl,fun z=>z.elim id fun z=>z ▸ h⟩
      ·rw[List.mem_append,List.mem_singleton]
     rw[e9,hmem6,Zk y1];constructor
     ·rintro((h|⟨p,hp,z⟩)|rfl)
      ·exact .inl h
      ·exact .inr ⟨p,List.mem_append_left _ hp,z⟩
      ·exact .inr ⟨pq,List.mem_append_right _ (List.mem_singleton.mpr rfl),(hee _).mp c,rfl⟩
     ·rintro(h|⟨p,hp,z⟩)
      ·exact .inl (.inl h)
      ·rcases List.mem_append.mp hp with hp|hp
       ·exact .inl (.inr ⟨p,hp,z⟩)
       ·rw[List.mem_singleton.mp hp] at z;exact .inr z.2.symm
   ·rw[decide_eq_false c];refine Za5 ⟨_,_,m6,S6,rfl,s6,kp,hm6,hk6,hnd6,hib6,fun x=>?_⟩;rw[hmem6,Zk y1];constructor
    ·rintro(h|⟨p,hp,z⟩)
     ·exact .inl h
     ·exact .inr ⟨p,List.mem_append_left _ hp,z⟩
    ·rintro(h|⟨p,hp,z⟩)
     ·exact .inl h
     ·rcases List.mem_append.mp hp with hp|hp
      ·exact .inr ⟨p,hp,z⟩
      ·rw[List.mem_singleton.mp hp] at z;exact absurd ((hee _).mpr z.1) c
  ·rintro σ H6 ⟨v6,v7,m6,S6,rfl,s6,kp,hm6,hk6,hnd6,hib6,hmem6⟩;rw[hyl,List.take_length] at hmem6;refine⟨_,_,_,_,m6,S6,rfl,s6,hm6,hk6,hnd6,hib6,fun x=>?_⟩;rw[hmem6,hmem,Zk x1];constructor
   ·rintro(⟨n,i,h,z⟩|⟨p,hp,z1,rfl⟩)
    ·exact⟨n,i,List.mem_append_left _ h,z⟩
    ·exact⟨pr.2,p.1,List.mem_append_right _ (List.mem_singleton.mpr rfl),ZaS.mp hp,z1⟩
   ·rintro⟨n,i,h,z1,z2⟩;rcases List.mem_append.mp h with h|h
    ·exact .inl ⟨n,i,h,z1,z2⟩
    ·have e:=List.mem_singleton.mp h;refine .inr ⟨(i,x.2),ZaS.mpr ?_,z2,?_⟩
     ·rw[<- e];exact z1
     ·rw[<- e]
 ·rintro σ H4 ⟨v4,v5,v6,v7,m,S,rfl,sm,hm,hk,hnd,hib,hmem⟩;rw[hxl,List.take_length] at hmem;have hl4:=ZcT n8 hnd hib;have hkl4:m.length=S.length:=by have:=congrArg List.length hk;simpa using this
  refine⟨_,rfl,d,m,S,rfl,hm,by lia,hk,fun r ys ms hr4 hperm hso hpl=>?_⟩;have s5:Zj H4 (upd H4 r (.lst ys)):=Zj.new hr4;have x5:(upd H4 r (.lst ys)) r=some (.lst ys):=Za;generalize upd H4 r (.lst ys)=H5 at s5 x5 ⊢;have s35:=sm.trans s5;have ixl:ixN (zs0 ++ [V.ref pl1]).length (-1)=some zs0.length:=by
   rw[List.length_append,List.length_singleton];unfold ixN;rw[if_neg (by decide),if_pos (by lia)]
   congr 1
   lia
  refine⟨_,rfl,a,C,dx,_,_,rfl,s35 _ _ a3,c_Reader.cls,c_Reader.n4,rfl,1,rfl,L,_,-1,_,rfl,rfl,s35 _ _ x3L,ixl,?_⟩;have eset:(zs0 ++ [V.ref pl1]).set zs0.length (.ref r)=zs0 ++ [.ref r]:=by
   rw[List.set_append_right _ _ (Nat.le_refl _),Nat.sub_self];rfl
  rw[eset];have hrise:ZhO ms:=Srd.Zdd.strict hso (hperm.nodup_iff.mpr hnd);have hr3:H3 r=none:=sm.free hr4;have nrL:r≠L:=fun z=>by rw[z,x3L] at hr3;cases hr3
  have nrT:r≠T:=fun z=>by rw[z,x3T] at hr3;cases hr3
  have kx:Zaq [L,T] H (upd H5 L (.lst (zs0 ++ [.ref r]))):=Zaq.upd (fun b o hb e=>s35 _ _ (k03 b o hb e)) (List.mem_cons_self ..);have kx5:Zaq [L,T] H5 (upd H5 L (.lst (zs0 ++ [.ref r]))):=Zaq.upd (Zj.keepX (Zj.refl H5)) (List.mem_cons_self ..);have kt5:=kx5.tups (s35 _ _ x3L) (s35 _ _ x3T);have hstp:Stp fm.ts R ((lv0 ++ [l1]) ++ [l]) (tg0 ++ [w]) SL (lv0 ++ [ms]) tg0:=.fin ⟨y,(hee y).mp hy⟩ hrise fun x=>by
   rw[hperm.mem_iff];exact hmem x
  refine q2 _ _ _ kx (hR.move kx (hR.st.stp hqb hstp) (zs':=zs0 ++ [.ref r]) Za ?_ ?_) hstp
  ·refine LVs.snoc (hR3.fresh hr3) (kx5 _ _ (Zb7 nrL nrT) x5) ((hpl.keep fun b xs e=>s5 _ _ e).keep kt5) ?_;exact(LVs.keep (k03.less ZbT) kt03 f1).keep (fun b o hb e=>kx5.less ZbT _ _ hb (s35 _ _ e)) (fun b xs e=>kt5 _ _ (s35 _ _ e))
  ·rw[Zh nLT.symm];exact s35 _ _ x3T
set_option maxHeartbeats 2000000 in
theorem Zch{C:Addr}(B:∀x∈ZcF,mg x=none)(c_Reader:RdC K C)(g_Reader_ended:HasM P w K mg base C "ended" ["self"] 1 (ZcC C)) (F:Fun K "goes_on" "Reader.goes_on" Zz f fd):FnOk P w K mg base CX0 2 f fd ["self"] (ZfE C):=by
 refine F.ok Zan (fun vs H Q E h=>?_) (fun cdv A outer s H vs Q E hr h=>?_)
 ·obtain⟨a,L,T,ex,fm,R,lv,l,tg,rfl,_⟩:=h;rfl
 obtain⟨a,L,T,ex,fm,R,lv,l,tg,rfl,hR,q⟩:=h;have hu:(A.deeper (PyProof.Rows.envOfC (Str.ofString "Reader.goes_on") (Ze Zz) s.heap.objs.size f cdv)).units+200<cLine:=by have:=hr.un;lia
 have hu1:(A.deeper (PyProof.Rows.envOfC (Str.ofString "Reader.goes_on") (Ze Zz) s.heap.objs.size f cdv)).units+1<cLine:=by have:=hr.un;lia
 obtain⟨dx,p,df,dw,ns,zs,h1,h2,h3,h4,⟨nw,m,D,w1,w2,w3,w4⟩,h6,h7,h8⟩:=id hR.ho;obtain⟨zs',pl,xs,rfl,g1,g2,g3,g4⟩:=h7.last;have hll:=hR.st.few hR.ok.n8 (List.mem_append_right lv (List.mem_singleton.mpr rfl));have hxl:=g4.length;refine cut 1 (R:=fun σ1 H1=>∃(fl:Addr)(w0:List Str)(v2 v3:Option V),σ1=[some (.ref a),some (.ref fl),v2,v3]/\Zj H H1/\H fl=none/\H1 fl=some (.lst (w0.map V.str))/\w0.length<=1/\∀x,x∈w0↔x=SL/\tg ≠ []/\∃b,Edd fm.ts l b) ?_ fun u0 hu0 g0=>?_
 ·refine⟨_,(Zc (ZaP PassesOwn.never rfl (ZaF (ZX Zaj (ZaM (pv 0) rfl) (Zia Ze7 Zf) (fun _ _=>rfl))) (Zcr rfl (ZL (Zo (i:=2) Zan.nd rfl (Or.inl rfl)) (ZL (Zo (i:=3) Zan.nd rfl (Or.inl rfl)) Zbw)))
   (Zg (Zbm (Ze8 PySem.F.plainAttrs_list PySem.F.slot_list_extend PySem.F.type_list_extend (ZgA rfl) (pv 1) (Zb (Zec hu1 (ZaM (pv 0) rfl) (pv 3) ZbK ⟨rfl,rfl,rfl,rfl⟩) Zd)))))
  (Zg (Zy (Zey rfl hu rfl (B "sorted" (by decide)) rfl (B "set" (by decide)) (Zb (pv 1) Zd))))),?_⟩
  rintro σ1 H1 ⟨fl,w0,v2,v3,rfl,s1,hfl,e1,hw0,hm0⟩;have hT3:(fm.qs.map (·.2.1)).length<=100:=by rw[List.length_map];exact hR.ok.ql
  refine⟨_,rfl,a,C,dx,_,_,rfl,s1 _ _ h1,c_Reader.cls,c_Reader.n4,rfl,1,rfl,L,_,-1,.ref pl,rfl,rfl,SqL.of (s1 _ _ h6),ZcI _ _,pl,rfl,⟨_,SqL.of (s1 _ _ g3)⟩,Zbo (K:=K) (a:=pl) (xs:=xs) (fun i σ H2=>∃(v2 v3:Option V)(ws:List Str),σ =[some (.ref a),some (.ref fl),v2,v3]/\Zj H H2/\H2 fl=some (.lst (ws.map V.str))/\ws.length<=1+900*i/\∀x,x∈ws↔x∈w0\/∃p∈l.take i,∃i r,(p.2,x,i,r)∈R)
   ⟨v2,v3,w0,rfl,s1,e1,by lia,fun x=>⟨.inl,fun z=>z.elim id fun⟨_,z,_⟩=>nomatch z⟩⟩ ?_ ?_ ?_⟩
  ·rintro i σ H2 _ ⟨_,_,_,_,s2,_⟩;exact SqL.of (s2 _ _ g3)
  ·rintro i x σ H2 hx ⟨v2,v3,ws,rfl,s2,e2,hwl,hmw⟩;obtain⟨tp,pr,x1,rfl,x2⟩:=g4.get i x hx;have hil:=(List.getElem?_eq_some_iff.mp x1).1;refine⟨tp,_,rfl,SqT.of (s2 _ _ x2),rfl,_,_,rfl,_,_,rfl,rfl,?_⟩;refine⟨_,rfl,.inl ⟨rfl,_,SqL.of e2⟩,_,rfl,a,C,dx,_,_,rfl,s2 _ _ h1,c_Reader.cls,c_Reader.n3,rfl,dw,rfl,.inl ⟨m,.inl (s2 _ _ w1)⟩,_,rfl,fun d0 hd0=>?_⟩;have t1:Zj H2 (upd H2 d0 (.dK [])):=Zj.new hd0;have x3:(upd H2 d0 (.dK [])) d0=some (.dK []):=Za;generalize upd H2 d0 (.dK [])=H3 at t1 x3 ⊢;have s3:=s2.trans t1;refine⟨_,Zc1.k (k:=Sum.inl pr.2) (s3 _ _ w1),?_⟩;rw[w2];have fin:∀(d1:Addr)(mk:List (Key×V))(ts:List Str),H3 d1=some (.dK mk)->mk.map (·.1)=ts.map Sum.inr->ts.length<=900->(∀t,t∈ts↔∃i r,(pr.2,t,i,r)∈R)->ZfQ (.ref fl) [.ref d1] H3 fun v H'=>∃(v2 v3:Option V)(ws:List Str),[some (V.ref a),some (.ref fl),some (V.int pr.1),some (.int pr.2)] =[some (.ref a),some (.ref fl),v2,v3]/\Zj H H'/\H' fl=some (.lst (ws.map V.str))/\ws.length<=1+900*(i+1)/\∀x,x∈ws↔x∈w0\/∃p∈l.take (i+1),∃i r,(p.2,x,i,r)∈R:=by
    intro d1 mk ts b1 b2 b3 b4;have hkl:mk.length=ts.length:=by have:=congrArg List.length b2;simpa using this
    refine⟨fl,d1,_,mk,rfl,rfl,t1 _ _ e2,b1,(by have:=sizeLine_eq;rw[List.length_map];lia),?_⟩;have ek:(mk.map fun p=>kV p.1)=ts.map V.str:=by
     have:(mk.map fun p=>kV p.1)=(mk.map (·.1)).map kV:=by rw[List.map_map];rfl
     rw[this,b2,List.map_map];rfl
    rw[ek];refine⟨_,_,ws++ts,rfl,s3.upd_new hfl,by rw[Za,List.map_append],by rw[List.length_append];lia,fun x=>?_⟩;rw[List.mem_append,hmw,b4,Zk x1];constructor
    ·rintro((h|⟨p,hp,z⟩)|z)
     ·exact .inl h
     ·exact .inr ⟨p,List.mem_append_left _ hp,z⟩
     ·exact .inr ⟨pr,List.mem_append_right _ (List.mem_singleton.mpr rfl),z⟩
    ·rintro(h|⟨p,hp,z⟩)
     ·exact .inl (.inl h)
     ·rcases List.mem_append.mp hp with hp|hp
      ·exact .inl (.inr ⟨p,hp,z⟩)
      ·rw[List.mem_singleton.mp hp] at z;exact .inr z
   cases hD:D pr.2 with
   | none =>
    refine fin d0 [] [] x3 rfl (by decide) fun t=>⟨fun z=>(nomatch z),fun⟨i,r,z⟩=>?_⟩
    have:=ZaS (p:=(i,r)).mpr z;rw[w3 _ hD] at this;exact nomatch this
   | some a' =>
    obtain⟨n1,mk,ts,k1,k2,k3,k4⟩:=w4 _ a' hD;refine fin a' mk ts (s3 _ _ k1) k2 k3 fun t=>?_;have hh:=KS.has k2 t;rcases k4 t with⟨e,ew⟩|⟨l',zs',e,_,_,_,e5⟩
    ·rw[e] at hh;have hn:t∉ts:=of_decide_eq_false hh.symm;refine⟨fun z=>absurd z hn,fun⟨i,r,z⟩=>?_⟩;have:=ZaS (p:=(i,r)).mpr z;have ew:Zcq R pr.2 t=[]:=ew;rw[ew] at this;exact nomatch this
    ·rw[e] at hh;have hn:t∈ts:=of_decide_eq_true hh.symm;have e5:Zcq R pr.2 t ≠ []:=e5;refine⟨fun _=>?_,fun _=>hn⟩;obtain⟨x,hx⟩:=List.exists_mem_of_ne_nil _ e5;exact⟨x.1,x.2,ZaS.mp hx⟩
  ·rintro σ H2 ⟨v2,v3,ws,rfl,s2,e2,hwl,hmw⟩;rw[hxl,List.take_length] at hmw;have hD:∀k∈ws,k∈SL::fm.qs.map (·.2.1):=fun k hk=>by
    rcases(hmw k).mp hk with h|⟨p,_,i,r,h⟩
    ·rw[((hm0 k).mp h).1];exact List.mem_cons_self ..
    ·exact List.mem_cons_of_mem _ (List.mem_map.mpr ⟨_,((hR.rk _).mp h).1,rfl⟩)
   refine⟨_,rfl,fl,SL::fm.qs.map (·.2.1),ws,rfl,SqL.of e2,hD,by rw[List.length_cons];lia,fun r ms hr1 hso hme=>?_⟩;refine q r ms _ (s2.upd_new (s2.free hr1)) (s2.free hr1) Za hso ?_ fun x=>?_
   ·have hnd:ms.Nodup:=hso.imp fun{a b} hab e=>by
     rw[e] at hab;exact absurd (of_decide_eq_true hab) (List.lt_irrefl _)
    have:=Zbl hnd fun x hx=>hD x ((hme x).mp hx);rw[List.length_cons] at this;lia
   ·rw[hme,hmw,hm0];rfl
 ·refine⟨_,(Zc (Zt (i:=1) Zan.nd rfl (Or.inl rfl) (Zga (PW.pt (ZcV (ZP (ZaM (pv 0) rfl) (fun _=>rfl)) (Zci (ZP (ZbE g_Reader_ended hr (pv 0) c_Reader.cls) (fun _=>rfl))))) (ZaQ (Zb Zc6 Zd)) (ZaQ Zd)))
  hu0),?_⟩
  refine⟨_,rfl,a,C,dx,_,_,rfl,h1,c_Reader.cls,c_Reader.n5,rfl,_,.inl ⟨_,SqL.of h8,rfl⟩,?_⟩;cases tg with
  | nil =>
   refine Za5 (Za5 ⟨by decide,fun fl hfl=>g0 _ _ ⟨fl,[],_,_,rfl,Zj.new hfl,hfl,Za,by decide,fun x=>⟨fun z=>(nomatch z),fun z=>absurd rfl z.2.1⟩⟩⟩)
  | cons t tg =>
   refine Zej ⟨_,rfl,a,dx,_,rfl,h1,rfl,a,L,T,ex,fm,R,lv,l,_,rfl,hR,fun d ns' H' s' hd ⟨m',hm',hk⟩ hl hmem=>?_⟩;refine⟨_,.inr (.inr ⟨m',hm',rfl⟩),?_⟩;have hlen:=ZaU hk;cases ns' with
   | nil =>
    have:m'=[]:=List.length_eq_zero_iff.mp hlen;subst this;refine Za5 ⟨by decide,fun fl hfl=>g0 _ _ ⟨fl,[],_,_,rfl,s'.trans (Zj.new hfl),s'.free hfl,Za,by decide,fun x=>⟨fun z=>(nomatch z),fun⟨_,_,b,hb⟩=>nomatch (hmem b).mpr hb⟩⟩⟩
   | cons y ys =>
    cases m' with
    | nil=>exact nomatch hlen
    | cons z m' =>
     refine Zej ⟨by decide,fun fl hfl=>g0 _ _ ⟨fl,[SL],_,_,rfl,s'.trans (Zj.new hfl),s'.free hfl,Za,by decide,fun x=>⟨fun z=>⟨List.mem_singleton.mp z,(fun z=>nomatch z),y,(hmem y).mp (List.mem_cons_self ..)⟩,fun z=>List.mem_singleton.mpr z.1⟩⟩⟩
def ZcZ(C:Addr):Sp:=fun vs H Q _=>∃(a L T:Addr)(ex:List Addr)(f:FQ)(R:List Srd.Qd)(lv:List (List Pr))(tg:List Str),vs=[.ref a]/\RdAt C H a L T ex f R lv tg/\Q (.int (tg.length:Int)) H
theorem ZcA{C:Addr}(B:∀x∈ZcF,mg x=none)(c_Reader:RdC K C)(F:Fun K "height" "Reader.height" Z6 f fd):FnOk P w K mg base CX0 1 f fd ["self"] (ZcZ C):=by
 refine F.ok ZcB (fun vs H Q E h=>?_) (fun cdv A outer s H vs Q E hr h=>?_)
 ·obtain⟨a,L,T,ex,fm,R,lv,tg,rfl,_⟩:=h;rfl
 obtain⟨a,L,T,ex,fm,R,lv,tg,rfl,hR,q⟩:=h;obtain⟨dx,p,df,dw,ns,zs,h1,h2,h3,h4,h5,h6,h7,h8⟩:=id hR.ho;refine⟨_,(Zg (Zy (Zx ZJ rfl (B "len" (by decide)) PySem.boot_len (Zb (ZaM (pv 0) rfl) Zd)))),?_⟩;refine⟨_,rfl,a,C,dx,_,_,rfl,h1,c_Reader.cls,c_Reader.n5,rfl,T,_,rfl,.inl (SqL.of h8),?_⟩;rw[List.length_map];exact q
def ZfH(C:Addr):Sp:=fun vs H Q _=>∃(a L T:Addr)(ex:List Addr)(f:FQ)(R:List Srd.Qd)(lv:List (List Pr))(tg:List Str),vs=[.ref a]/\RdAt C H a L T ex f R lv tg/\tg.length<=900/\∀(r:Addr)(zs:List V)(H':Hp),Zj H H'->H r=none->H' r=some (.lst zs)->LVf (fun p=>H p=none/\p≠r) H' zs lv->Q (.ref r) H'
set_option maxHeartbeats 1000000 in
theorem Zdr{C:Addr}(B:∀x∈ZcF,mg x=none)(c_Reader:RdC K C)(F:Fun K "pile" "Reader.pile" Zam f fd):FnOk P w K mg base CX0 1 f fd ["self"] (ZfH C):=by
 refine F.ok Zds (fun vs H Q E h=>?_) (fun cdv A outer s H vs Q E hr h=>?_)
 ·obtain⟨a,L,T,ex,fm,R,lv,tg,rfl,_⟩:=h;rfl
 obtain⟨a,L,T,ex,fm,R,lv,tg,rfl,hR,htg,q⟩:=h;obtain⟨dx,p,df,dw,ns,zs,h1,h2,h3,h4,h5,h6,h7,h8⟩:=id hR.ho;have hzl:=h7.length;have hst:=hR.st.len;refine⟨_,(Zg (Zy (ZdS (cl:=[]) ["level"] [] (ZaF (ZaM (pv 0) rfl)) (fun _ _ _ _=>(Zo (i:=0) nd1 rfl (Or.inl rfl))) (fun _ _ _ _=>(ZaJ (ZdM (K:=K) rfl) rfl (B "list" (by decide)) Zdb (Zb (pv 0) Zd))) rfl rfl (by decide) rfl (by decide) (fun _ _ h=>nomatch h) (Zdc (by decide)) (fun _ _ h=>nomatch h) (fun _=>rfl)))),?_⟩
 refine⟨_,rfl,a,C,dx,_,_,rfl,h1,c_Reader.cls,c_Reader.n4,rfl,L,rfl,⟨_,SqL.of h6⟩,fun pc hpc=>Zem (K:=K) (a:=L) (p:=pc) (xs:=zs) (fun i ys σ H2=>∃v0:Option V,σ =[v0]/\Zj H H2/\H2 pc=some (.lst ys)/\LVf (fun p=>H p=none/\p≠pc) H2 ys (lv.take i))
  ⟨none,rfl,Zj.new hpc,Za,.nil⟩ ?_ ?_ ?_⟩
 ·rintro i ys σ H2 _ ⟨v0,_,sm,h,_⟩;exact⟨SqL.of (sm _ _ h6),h⟩
 ·rintro i ys x σ H2 hi hx ⟨v0,rfl,sm,hp,hz⟩;obtain⟨pl,xl,l,e1,rfl,_,e3,e4⟩:=LVf.get (P:=fun p=>p∉L::T::ex) h7 i x hx;have hzl2:=hz.length;refine⟨_,rfl,pl,_,rfl,.inl (SqL.of (sm _ _ e3)),fun pn hpn=>?_⟩;have s3:Zj H2 (upd H2 pn (.lst xl)):=Zj.new hpn;have npn:pn≠pc:=fun z=>by rw[z,hp] at hpn;cases hpn
  refine⟨s3 _ _ hp,Zq (by rw[hzl2,List.length_take];lia),CW.next hi ⟨_,rfl,(sm.trans s3).upd_new hpc,Za,?_⟩⟩
  rw[Zk e1];have kt:Ziv (upd H2 pn (.lst xl)) (upd (upd H2 pn (.lst xl)) pc (.lst (ys ++ [.ref pn]))):=ZaN (s3 _ _ hp);refine Paired.snoc (LVf.keep (fun b o hb e=>by rw[Zh hb.2];exact s3 _ _ e) (fun b xs e=>kt _ _ (s3 _ _ e)) hz) ⟨pn,xl,rfl,⟨sm.free hpn,npn⟩,by rw[Zh npn];exact Za,(e4.keep fun b xs e=>s3 _ _ (sm _ _ e)).keep kt⟩
 rintro ys σ H2 ⟨v0,rfl,sm,hp,hz⟩;rw[hzl,List.take_length] at hz;exact q pc ys H2 sm hpc hp hz
def ZdR:Sp:=fun vs H Q _=>∃(a:Addr)(f:FQ),vs=[.ref a]/\FmQ H a f/\OkR f/\∀(d:Addr)(S:List Int)(H':Hp),Zj H H'->H d=none->DI H' d S->S.length<=200->(∀x,x∈S↔LvQ f x)->Q (.ref d) H'
set_option maxHeartbeats 2000000 in
theorem ZgV(B:∀x∈ZcF,mg x=none)(F:Fun K "_law_alive" "_law_alive" Za1 f fd):FnOk P w K mg base CX0 1 f fd ["_law_shape_here"] ZdR:=by
 refine F.ok Zbh (fun vs H Q E h=>?_) (fun cdv A outer s H vs Q E hr h=>?_)
 ·obtain⟨a,fm,rfl,_⟩:=h;rfl
 obtain⟨a,fm,rfl,hF,ok,q⟩:=h;obtain⟨f1,f2,f3,zf,a1,a2,a3,a4,a5⟩:=id hF;have n0:=ok.n0;have n64:=ok.n8;have htl:=ok.tl;have hql:=ok.ql;have zfl:=a5.length;obtain⟨N,hN⟩:∃N:Nat,fm.n=(N:Int):=⟨fm.n.toNat,(Int.toNat_of_nonneg n0).symm⟩;have hu1:(A.deeper (PyProof.Rows.envOfC (Str.ofString "_law_alive") (Ze Za1) s.heap.objs.size f cdv)).units+1<cLine:=by have:=hr.un;lia
 refine⟨_,(Zc (Zt (i:=1) Zbh.nd rfl (Or.inl rfl) ZbK)
  (Zc (ZaP PassesOwn.never rfl (ZbZ (ZX ZaO (pv 0) Zf (fun _ _=>rfl))) (Zo (i:=2) Zbh.nd rfl (Or.inl rfl))
   (Zg (Zcl hu1 (pv 1) (pv 2) ZaB rfl)))
  (Zc (ZaP PassesOwn.never rfl (ZaY rfl (B "range" (by decide)) (Zb (ZX ZaO (pv 0) Zf (fun _ _=>rfl)) Zd)) (Zo (i:=3) Zbh.nd rfl (Or.inl rfl))
   (Zg (ZaP PassesOwn.never rfl (ZbZ (ZX ZaO (pv 0) Zf (fun _ _=>rfl))) (Zo (i:=4) Zbh.nd rfl (Or.inl rfl))
     (Zg (ZaT (PW.pt (ZcV (Zbc (Zbq hu1 (ZX ZaO (pv 4) Zf (fun _ _=>rfl)) (pv 1))) (Zci (Zbc (Zbq hu1 (ZX ZaO (pv 4) Zf (fun _ _=>rfl)) (pv 1))))))
       (Zg (Zcl hu1 (pv 1) (ZX ZaO (pv 4) Zf (fun _ _=>rfl)) ZaB rfl))
       ZR)))))
  (Zg (Zy (pv 1)))))),?_⟩
 refine fun d hd=>?_;have s0:Zj H (upd H d (.dK [])):=Zj.new hd;refine⟨_,rfl,a,_,2,_,rfl,rfl,SqT.of (s0 _ _ a1),rfl,f2,rfl,⟨_,SqT.of (s0 _ _ a3)⟩,Zeh (K:=K) (a:=f2) (xs:=fm.ts.map V.int) (fun i σ H1=>∃(v2 v3 v4:Option V)(m:List (Key×V))(S:List Int),σ =[some (.ref a),some (.ref d),v2,v3,v4]/\Zj H H1/\H1 d=some (.dK m)/\m.map (·.1)=S.map Sum.inl/\S.length<=i/\∀x,x∈S↔x∈fm.ts.take i)
  ⟨none,none,none,[],[],rfl,s0,Za,rfl,Nat.le_refl _,fun x=>Iff.rfl⟩ ?_ ?_ ?_⟩
 ·rintro i σ H1 _ ⟨_,_,_,_,_,_,sm,_⟩;exact SqT.of (sm _ _ a3)
 ·rintro i x σ H1 hx ⟨v2,v3,v4,m,S,rfl,sm,hm,hk,hl,hmem⟩;rw[List.getElem?_map] at hx;obtain⟨e,he,rfl⟩:=Option.map_eq_some_iff.mp hx;have hil:=(List.getElem?_eq_some_iff.mp he).1;have hkl:=ZaU hk;refine⟨_,rfl,_,rfl,d,_,rfl,ZgJ.k (k:=Sum.inl e) hm (Zq (by lia)),?_⟩;refine⟨_,_,_,_,ZfN S e,rfl,sm.upd_new hd,Za,DI.put hk e (V.bl true),?_,fun x=>?_⟩
  ·unfold ZfN
   split
   ·lia
   ·rw[List.length_append,List.length_singleton];lia
  ·rw[ZbJ,hmem,Zk he,List.mem_append,List.mem_singleton]
 rintro σ H1 ⟨v2,v3,v4,m0,S0,rfl,sm0,hm0,hk0,hl0,hmem0⟩;rw[List.length_map] at hl0 hmem0;rw[List.take_length] at hmem0;have ho0:=Zit N S0;refine⟨_,rfl,a,_,0,_,rfl,rfl,SqT.of (sm0 _ _ a1),rfl,fm.n,rfl,by lia,by lia,Zbt (lo:=0) (n:=fm.n.toNat) (fun i σ H1=>∃(v2 v3 v4:Option V)(m:List (Key×V))(S:List Int),σ =[some (.ref a),some (.ref d),v2,v3,v4]/\Zj H H1/\H1 d=some (.dK m)/\m.map (·.1)=S.map Sum.inl/\(∀e∈fm.ts,e∈S)/\(∀k∈S,LvQ fm k)/\S.length+ZcE N S<=70+N/\(Zdt fm.qs S\/ZcE N S+i<=N))
  ⟨v2,v3,v4,m0,S0,rfl,sm0,hm0,hk0,fun e he=>(hmem0 e).mpr he,fun k hk=>.e ((hmem0 k).mp hk),by lia,.inr (by lia)⟩ ?_ ?_⟩
 ·rintro i σ H1 hi ⟨v2,v3,v4,m,S,rfl,sm,hm,hk,hen,hlv,hsz,hcl⟩;refine⟨_,rfl,a,_,3,_,rfl,rfl,SqT.of (sm _ _ a1),rfl,f3,rfl,⟨_,SqT.of (sm _ _ a4)⟩,Zeh (K:=K) (a:=f3) (xs:=zf) (fun j σ H2=>∃(v2 v4:Option V)(m':List (Key×V))(S':List Int),σ =[some (.ref a),some (.ref d),v2,some (.int (0+(i:Int))),v4]/\Zj H H2/\H2 d=some (.dK m')/\m'.map (·.1)=S'.map Sum.inl/\(∀e∈fm.ts,e∈S')/\(∀k∈S',LvQ fm k)/\S'.length+ZcE N S'<=70+N/\((S'=S/\Zdt (fm.qs.take j) S)\/(¬ Zdt fm.qs S/\ZcE N S'+1<=ZcE N S)))
   ⟨v2,v4,m,S,rfl,sm,hm,hk,hen,hlv,hsz,.inl ⟨rfl,fun _ h=>nomatch h⟩⟩ ?_ ?_ ?_⟩
  ·rintro j σ H2 _ ⟨_,_,_,_,_,sm2,_⟩;exact SqT.of (sm2 _ _ a4)
  ·rintro j x σ H2 hx ⟨v2,v4,m',S',rfl,sm2,hm2,hk2,hen2,hlv2,hsz2,hor⟩;obtain⟨pq,q1,hq1,rfl,e4⟩:=a5.get j x hx;have hqm:q1∈fm.qs:=List.mem_of_getElem? hq1;have hkn:=(ok.qb q1 hqm).1;rw[hN] at hkn;have hq4:=sm2 _ _ e4;have hkl:=ZaU hk2;rw[Zk hq1];have no:(q1.2.2.1∈S'->q1.2.2.2∈S'->q1.1∈S')->((S'=S/\Zdt (fm.qs.take j ++ [q1]) S)\/(¬ Zdt fm.qs S/\ZcE N S'+1<=ZcE N S)):=fun hc=>by
    rcases hor with⟨rfl,h2⟩|h
    ·refine .inl ⟨rfl,fun z hz=>?_⟩;rcases List.mem_append.mp hz with hz|hz
     ·exact h2 z hz
     ·rw[List.mem_singleton.mp hz];exact hc
    ·exact .inr h
   refine⟨_,rfl,pq,_,2,_,rfl,rfl,SqT.of hq4,rfl,_,rfl,d,_,rfl,Zc1.k (k:=Sum.inl q1.2.2.1) hm2,_,rfl,?_⟩;rw[DI.has hk2];refine ZdP (fun c1=>?_) (fun c1=>Za5 ⟨_,_,m',S',rfl,sm2,hm2,hk2,hen2,hlv2,hsz2,no fun z=>absurd (decide_eq_true z) c1⟩);refine⟨_,rfl,pq,_,3,_,rfl,rfl,SqT.of hq4,rfl,_,rfl,d,_,rfl,Zc1.k (k:=Sum.inl q1.2.2.2) hm2,_,rfl,?_⟩;rw[DI.has hk2];refine ZdP (fun c2=>?_) (fun c2=>⟨_,_,m',S',rfl,sm2,hm2,hk2,hen2,hlv2,hsz2,no fun _ z=>absurd (decide_eq_true z) c2⟩);have c1':=of_decide_eq_true c1;have c2':=of_decide_eq_true c2;refine⟨_,rfl,_,rfl,pq,_,0,_,rfl,rfl,SqT.of hq4,rfl,d,_,rfl,ZgJ.k (k:=Sum.inl q1.1) hm2 (Zq (by lia)),?_⟩;refine⟨_,_,_,ZfN S' q1.1,rfl,sm2.upd_new hd,Za,DI.put hk2 q1.1 (V.bl true),fun e he=>ZbJ.mpr (.inl (hen2 e he)),fun k hk=>?_,?_,?_⟩
   ·rcases ZbJ.mp hk with hk|rfl
    ·exact hlv2 k hk
    ·exact .r hqm (hlv2 _ c1') (hlv2 _ c2')
   ·have:=ZiF (S:=S') hkn.1 hkn.2;lia
   ·by_cases c3:q1.1∈S'
    ·have e:ZfN S' q1.1=S':=if_pos c3;rw[e];exact no fun _ _=>c3
    ·have e:ZfN S' q1.1=S' ++ [q1.1]:=if_neg c3;have h1:=ZcK hkn.1 hkn.2 c3;rw[e];rcases hor with⟨rfl,_⟩|⟨h2,h3⟩
     ·exact .inr ⟨fun z=>c3 (z q1 hqm c1' c2'),h1⟩
     ·exact .inr ⟨h2,by lia⟩
  ·rintro σ H2 ⟨v2,v4,m',S',rfl,sm2,hm2,hk2,hen2,hlv2,hsz2,hor⟩;rw[zfl,List.take_length] at hor;refine⟨_,_,_,m',S',rfl,sm2,hm2,hk2,hen2,hlv2,hsz2,?_⟩;rcases hor with⟨rfl,h⟩|⟨h1,h2⟩
   ·exact .inl h
   ·rcases hcl with h|h
    ·exact absurd h h1
    ·exact .inr (by lia)
 ·rintro σ H1 ⟨v2,v3,v4,m,S,rfl,sm,hm,hk,hen,hlv,hsz,hcl⟩;have hsh:Zdt fm.qs S:=by
   rcases hcl with h|h
   ·exact h
   ·have h0:ZcE N S=0:=by lia
    intro z hz _ _;have:=(ok.qb z hz).1;rw[hN] at this;exact ZhX h0 this.1 this.2
  exact⟨_,rfl,q d S H1 sm hd ⟨m,hm,hk⟩ (by lia) fun x=>⟨hlv x,fun hx=>ZfW hen hsh hx⟩⟩
def Zb8:Sp:=fun vs H Q _=>∃i:Int,vs=[.int i]/\Q (.bl true) H
theorem Zgw(B:∀x∈ZcF,mg x=none)(F:Fun K "_law_whole" "_law_whole" Zbb f fd):FnOk P w K mg base CX0 1 f fd ["_law_found"] Zb8:=by
 refine F.ok ZgH (fun vs H Q E h=>?_) (fun cdv A outer s H vs Q E hr h=>?_)
 ·obtain⟨i,rfl,_⟩:=h;rfl
 obtain⟨i,rfl,q⟩:=h;refine⟨_,(Zg (Zy (Zku (Zx Zae rfl (B "isinstance" (by decide)) Z1 (Zb (pv 0) (Zb (ZeO rfl (B "int" (by decide)) ZkA) Zd))) (ZkF (Zki (Zx Zae rfl (B "isinstance" (by decide)) Z1 (Zb (pv 0) (Zb (ZeO rfl (B "bool" (by decide)) Zij) Zd)))))))),?_⟩;refine⟨_,rfl,.int i,"int",.type "int",true,rfl,.int _,rfl,true,rfl,Zej ?_⟩;exact⟨_,rfl,.int i,"bool",.type "int",false,rfl,.int _,rfl,false,rfl,q⟩
def Zfr:Sp:=fun vs H Q _=>∃(fa da:Addr)(xs ys:List V)(l:List Pr),vs=[.ref fa,.ref da]/\H fa=some (.lst xs)/\PL H xs l/\H da=some (.lst ys)/\PL H ys l/\l.length<=5000/\Q (.bl true) H
theorem Zkr{K:PySem.W.Frag}{H:Hp}{t:Addr}{p:Pr}(h:H t=some (tp p)):Dp K H (.ref t) (dPr p):=.tup (SqT.of h) (.cons (.int _) (.cons (.int _) .nil))
set_option maxHeartbeats 1000000 in
theorem Zc0(B:∀x∈ZcF,mg x=none)(g_l_whole:Has P w K mg base "_law_whole" ["_law_found"] 1 Zb8) (F:Fun K "_law_same_level" "_law_same_level" Zac f fd):FnOk P w K mg base CX0 2 f fd ["_law_found","_law_due"] Zfr:=by
 refine F.ok ZaX (fun vs H Q E h=>?_) (fun cdv A outer s H vs Q E hr h=>?_)
 ·obtain⟨fa,da,xs,ys,l,rfl,_⟩:=h;rfl
 obtain⟨fa,da,xs,ys,l,rfl,h1,h2,h3,h4,h5,q⟩:=h;have hu:=Zcj hr;have hl2:=h2.length;have hl4:=h4.length;have hll:xs.length=ys.length:=hl2.trans hl4.symm;refine⟨_,(Zc (ZaT (PW.pt (Zdn (ZaR (ZP (Zx Zae rfl (B "isinstance" (by decide)) Z1 (Zb (pv 0) (Zb (ZeO rfl (B "list" (by decide)) Zdb) Zd))) (fun _=>rfl))) (Zb4 (Z0 ZgU (Zx ZJ rfl (B "len" (by decide)) PySem.boot_len (Zb (pv 0) Zd)) (Zx ZJ rfl (B "len" (by decide)) PySem.boot_len (Zb (pv 1) Zd)) (Zao _)))))
   (Zg (Zy ZaB))
   ZR)
  (Zc (ZaP PassesOwn.never rfl (ZaY rfl (B "range" (by decide)) (Zb (Zx ZJ rfl (B "len" (by decide)) PySem.boot_len (Zb (pv 1) Zd)) Zd)) (Zo (i:=2) ZaX.nd rfl (Or.inl rfl))
   (Zc (Zt (i:=3) ZaX.nd rfl (Or.inl rfl) (ZX Zaj (pv 0) (pv 2) (fun _ _=>rfl)))
    (Zc (ZaT (PW.pt (Zdn (ZaR (ZP (Zx Zae rfl (B "isinstance" (by decide)) Z1 (Zb (pv 3) (Zb (ZeO rfl (B "tuple" (by decide)) ZcJ) Zd))) (fun _=>rfl))) (Zdn (Z0 ZgU (Zx ZJ rfl (B "len" (by decide)) PySem.boot_len (Zb (pv 3) Zd)) Zf (Zao _)) (Zb4 (Z0 (Zjm hu) (pv 3) (ZX Zaj (pv 1) (pv 2) (fun _ _=>rfl)) (Zao _))))))
     (Zg (Zy ZaB))
     ZR)
    (Zg (ZaT (PW.pt (Zdn (ZaR (ZP (Zav g_l_whole hr rfl (Zb (ZX ZaO (pv 3) Zf (fun _ _=>rfl)) Zd)) (fun _=>rfl))) (Zb4 (ZaR (ZP (Zav g_l_whole hr rfl (Zb (ZX ZaO (pv 3) Zf (fun _ _=>rfl)) Zd)) (fun _=>rfl))))))
     (Zg (Zy ZaB))
     ZR)))))
  (Zg (Zy ZaB)))),?_⟩
 refine⟨_,rfl,.ref fa,"list",.type "list",true,rfl,.lst h1,rfl,true,rfl,Za5 ?_⟩;refine⟨_,rfl,fa,_,rfl,.inl (SqL.of h1),_,rfl,da,_,rfl,.inl (SqL.of h3),rfl,false,(by show V.bl (!decide (V.int ((xs.length:Nat):Int)=V.int ((ys.length:Nat):Int)))=V.bl false;rw[hll,decide_eq_true rfl];rfl),Za5 ?_⟩;refine⟨_,rfl,da,_,rfl,.inl (SqL.of h3),_,rfl,by lia,by lia,Zbt (lo:=0) (n:=((ys.length:Nat):Int).toNat) (fun i σ H1=>∃(v2 v3:Option V),σ =[some (.ref fa),some (.ref da),v2,v3]/\H1=H) ⟨none,none,rfl,rfl⟩ ?_ ?_⟩
 ·rintro i σ H1 hi ⟨v2,v3,rfl,rfl⟩;rw[Int.toNat_natCast] at hi;have hx:xs[i]?= some (xs[i]'(by lia)):=List.getElem?_eq_getElem (by lia);have hy:ys[i]?= some (ys[i]'hi):=List.getElem?_eq_getElem hi;obtain⟨tx,px,x1,x2,x3⟩:=h2.get i _ hx;obtain⟨ty,py,y1,y2,y3⟩:=h4.get i _ hy;rw[x1] at y1;cases y1;have hatx:atI xs (0+(i:Int))=some (.ref tx):=by
   rw[Int.zero_add,<- x2];exact Zbj hx
  have haty:atI ys (0+(i:Int))=some (.ref ty):=by
   rw[Int.zero_add,<- y2];exact Zbj hy
  refine⟨_,rfl,_,rfl,fa,_,_,_,rfl,rfl,SqL.of h1,hatx,?_⟩;refine⟨_,rfl,.ref tx,"tuple",.type "tuple",true,rfl,.tup x3,rfl,true,rfl,Za5 ?_⟩;refine⟨_,rfl,tx,_,rfl,.inr (SqT.of x3),rfl,false,rfl,Za5 ?_⟩;refine⟨_,rfl,_,rfl,_,rfl,da,_,_,_,rfl,rfl,SqL.of h3,haty,eq_data (d:=dPr px) (Zkr x3) (Zkr y3) rfl (by show(1:Nat)<=200;decide) ⟨false,rfl,Za5 ?_⟩⟩;refine⟨_,rfl,tx,_,0,_,rfl,rfl,SqT.of x3,rfl,px.1,rfl,true,rfl,Za5 ?_⟩;exact⟨_,rfl,tx,_,1,_,rfl,rfl,SqT.of x3,rfl,px.2,rfl,true,rfl,Za5 ⟨_,_,rfl,rfl⟩⟩
 ·rintro σ H1 ⟨v2,v3,rfl,rfl⟩;exact q
def Zeb:Sp:=fun vs H Q _=>∃(fa da:Addr)(P P':Addr->Prop)(zs zs':List V)(lv:List (List Pr)),vs=[.ref fa,.ref da]/\H fa=some (.lst zs)/\LVf P H zs lv/\H da=some (.lst zs')/\LVf P' H zs' lv/\(∀l∈lv,l.length<=5000)/\lv.length<=1000/\Q (.bl true) H
set_option maxHeartbeats 1000000 in
theorem Zdv(B:∀x∈ZcF,mg x=none)(g_l_same_level:Has P w K mg base "_law_same_level" ["_law_found","_law_due"] 2 Zfr) (F:Fun K "_law_same_pile" "_law_same_pile" Zak f fd):FnOk P w K mg base CX0 3 f fd ["_law_found","_law_due"] Zeb:=by
 refine F.ok ZbP (fun vs H Q E h=>?_) (fun cdv A outer s H vs Q E hr h=>?_)
 ·obtain⟨fa,da,_,_,zs,zs',lv,rfl,_⟩:=h;rfl
 obtain⟨fa,da,Pa,Pb,xs,ys,lv,rfl,h1,h2,h3,h4,h5,h6,q⟩:=h;have hu:=Zcj hr;have hl2:=h2.length;have hl4:=h4.length;have hll:xs.length=ys.length:=hl2.trans hl4.symm;refine⟨_,(Zc (ZaT (PW.pt (Zdn (ZaR (ZP (Zx Zae rfl (B "isinstance" (by decide)) Z1 (Zb (pv 0) (Zb (ZeO rfl (B "list" (by decide)) Zdb) Zd))) (fun _=>rfl))) (Zb4 (Z0 ZgU (Zx ZJ rfl (B "len" (by decide)) PySem.boot_len (Zb (pv 0) Zd)) (Zx ZJ rfl (B "len" (by decide)) PySem.boot_len (Zb (pv 1) Zd)) (Zao _)))))
   (Zg (Zy ZaB))
   ZR)
  (Zc (ZaP PassesOwn.never rfl (ZaY rfl (B "range" (by decide)) (Zb (Zx ZJ rfl (B "len" (by decide)) PySem.boot_len (Zb (pv 1) Zd)) Zd)) (Zo (i:=2) ZbP.nd rfl (Or.inl rfl))
   (Zg (ZaT (ZaR (ZP (Zav g_l_same_level hr rfl (Zb (ZX Zaj (pv 0) (pv 2) (fun _ _=>rfl)) (Zb (ZX Zaj (pv 1) (pv 2) (fun _ _=>rfl)) Zd))) (fun _=>rfl)))
     (Zg (Zy ZaB))
     ZR)))
  (Zg (Zy ZaB)))),?_⟩
 refine⟨_,rfl,.ref fa,"list",.type "list",true,rfl,.lst h1,rfl,true,rfl,Za5 ?_⟩;refine⟨_,rfl,fa,_,rfl,.inl (SqL.of h1),_,rfl,da,_,rfl,.inl (SqL.of h3),rfl,false,(by show V.bl (!decide (V.int ((xs.length:Nat):Int)=V.int ((ys.length:Nat):Int)))=V.bl false;rw[hll,decide_eq_true rfl];rfl),Za5 ?_⟩;refine⟨_,rfl,da,_,rfl,.inl (SqL.of h3),_,rfl,by lia,by lia,Zbt (lo:=0) (n:=((ys.length:Nat):Int).toNat) (fun i σ H1=>∃(v2:Option V),σ =[some (.ref fa),some (.ref da),v2]/\H1=H) ⟨none,rfl,rfl⟩ ?_ ?_⟩
 ·rintro i σ H1 hi ⟨v2,rfl,rfl⟩;rw[Int.toNat_natCast] at hi;have hx:xs[i]?= some (xs[i]'(by lia)):=List.getElem?_eq_getElem (by lia);have hy:ys[i]?= some (ys[i]'hi):=List.getElem?_eq_getElem hi;obtain⟨tx,zx,lx,x1,x2,_,x3,x4⟩:=h2.get i _ hx;obtain⟨ty,zy,ly,y1,y2,_,y3,y4⟩:=h4.get i _ hy;rw[x1] at y1;cases y1;have hatx:atI xs (0+(i:Int))=some (.ref tx):=by
   rw[Int.zero_add,<- x2];exact Zbj hx
  have haty:atI ys (0+(i:Int))=some (.ref ty):=by
   rw[Int.zero_add,<- y2];exact Zbj hy
  exact⟨_,rfl,_,rfl,fa,_,_,_,rfl,rfl,SqL.of h1,hatx,_,rfl,_,rfl,da,_,_,_,rfl,rfl,SqL.of h3,haty,tx,ty,zx,zy,lx,rfl,x3,x4,y3,y4,h5 _ (List.mem_of_getElem? x1),true,rfl,Za5 ⟨_,rfl,rfl⟩⟩
 ·rintro σ H1 ⟨v2,rfl,rfl⟩;exact q
def Zck(C:Addr):Sp:=fun vs H Q _=>∃(ra L T la:Addr)(ex:List Addr)(P:Addr->Prop)(f:FQ)(R:List Srd.Qd)(lv:List (List Pr))(tg:List Str)(zs:List V),vs=[.ref ra,.ref la]/\RdAt C H ra L T ex f R lv tg/\tg.length<=900/\H la=some (.lst zs)/\LVf P H zs lv/\∀H',Zj H H'->Q (.bl true) H'
set_option maxHeartbeats 1000000 in
theorem Zfi{C_Reader:Addr}(B:∀x∈ZcF,mg x=none)(c_Reader:RdC K C_Reader)(g_Reader_height:HasM P w K mg base C_Reader "height" ["self"] 1 (ZcZ C_Reader)) (g_l_whole:Has P w K mg base "_law_whole" ["_law_found"] 1 Zb8) (g_l_same_pile:Has P w K mg base "_law_same_pile" ["_law_found","_law_due"] 3 Zeb) (g_Reader_pile:HasM P w K mg base C_Reader "pile" ["self"] 1 (ZfH C_Reader)) (F:Fun K "_law_stands" "_law_stands" ZaW f fd):FnOk P w K mg base CX0 4 f fd ["_law_reader","_law_levels"] (Zck C_Reader):=by
 refine F.ok Zda (fun vs H Q E h=>?_) (fun cdv A outer s H vs Q E hr h=>?_)
 ·obtain⟨ra,L,T,la,ex,P,fm,R,lv,tg,zs,rfl,_⟩:=h;rfl
 obtain⟨ra,L,T,la,ex,Pl,fm,R,lv,tg,zs,rfl,hR,htg,hL,hLV,q⟩:=h;have hu:=Zcj hr;obtain⟨dx,_,_,_,_,_,h1,_⟩:=id hR.ho;have hst:=hR.st.len;have hzl:=hLV.length;refine⟨_,(Zc (Zt (i:=2) Zda.nd rfl (Or.inl rfl) (ZbE g_Reader_height hr (pv 0) c_Reader.cls))
  (Zc (ZaT (PW.pt (Zdn (ZaR (ZP (Zav g_l_whole hr rfl (Zb (pv 2) Zd)) (fun _=>rfl))) (Zb4 (Z0 ZgU (pv 2) (Zr ZfM (Zx ZJ rfl (B "len" (by decide)) PySem.boot_len (Zb (pv 1) Zd)) Zf) (Zao _)))))
   (Zg (Zy ZaB))
   ZR)
  (Zg (Zy (Zav g_l_same_pile hr rfl (Zb (ZbE g_Reader_pile hr (pv 0) c_Reader.cls) (Zb (pv 1) Zd))))))),?_⟩
 refine⟨_,rfl,ra,dx,_,rfl,h1,rfl,ra,L,T,ex,fm,R,_,tg,rfl,hR,?_⟩;refine⟨_,rfl,_,rfl,true,rfl,Za5 ?_⟩;have hne:((zs.length:Nat):Int)-1=(tg.length:Int):=by lia
 refine⟨_,rfl,_,rfl,la,_,rfl,.inl (SqL.of hL),_,_,rfl,rfl,rfl,false,(by show V.bl (!decide (V.int (tg.length:Int)=V.int (((zs.length:Nat):Int)-1)))=V.bl false;rw[hne,decide_eq_true rfl];rfl),Za5 ?_⟩;have hfew:∀l'∈lv,l'.length<=5000:=fun l' h=>by
  have:=hR.st.few hR.ok.n8 h;lia
 refine⟨_,rfl,ra,dx,_,rfl,h1,rfl,ra,L,T,ex,fm,R,_,tg,rfl,hR,htg,fun pr zp H4 s4 hpr e4 hLp=>?_⟩;exact⟨_,rfl,pr,la,_,_,zp,zs,_,rfl,e4,hLp,s4 _ _ hL,hLV.keep (fun b o _ e=>s4 _ _ e) (fun b xs e=>s4 _ _ e),hfew,by lia,q H4 s4⟩
def Zd4:Sp:=fun vs H Q _=>∃(tr:Addr)(n:Int)(ts:List Str),vs=[.ref tr,.int n]/\H tr=some (.lst (ts.map V.str))/\ts.length=3/\(∀t∈ts,t.length<=8)/\∀(wd:Str)(H':Hp),Zj H H'->Q (.str wd) H'
set_option maxHeartbeats 2000000 in
theorem Zin(B:∀x∈ZcF,mg x=none)(F:Fun K "_law_word" "_law_word" ZbF f fd):FnOk P w K mg base CX0 1 f fd ["_law_tags_here","_law_number"] Zd4:=by
 refine F.ok ZeM (fun vs H Q E h=>?_) (fun cdv A outer s H vs Q E hr h=>?_)
 ·obtain⟨tr,n,ts,rfl,_⟩:=h;rfl
 obtain⟨tr,n,ts,rfl,hT,ht3,ht8,q⟩:=h;obtain⟨k3,hk3,hk3l⟩:=Zli (n / 8) (n:=3) (by decide);have hk3':n / 8 % 3=(k3:Int):=hk3;have hat3:=Zfk (ws:=ts) (n:=k3) (by lia);have ht:(ts[k3]'(by lia)).length<=8:=ht8 _ (List.getElem_mem _);generalize ts[k3]'(by lia)=t0 at hat3 ht;refine⟨_,(Zc (Zt (i:=2) ZeM.nd rfl (Or.inl rfl) (Zr ZS (pv 1) Zf))
  (Zc (ZaT (Z0 Zka (pv 2) Zf (Zao _))
   (Zg (Zy (ZX Zaj (pv 0) (Zr ZS (Zr Zap (pv 1) Zf) Zf) (fun _ _=>rfl))))
   ZR)
  (Zc (ZaT (Z0 ZeB (pv 2) Zf (Zao _))
   (Zg (Zy Zc6))
   ZR)
  (Zc (ZaT (Z0 ZeB (pv 2) Zf (Zao _))
   (Zg (Zy (ZX Zaj (ZaQ Zj5) (Zr ZS (Zr Zap (pv 1) Zf) Zf) (fun _ _=>rfl))))
   ZR)
  (Zg (Zy (Zr ZbG (ZX Zaj (pv 0) (Zr ZS (Zr Zap (pv 1) Zf) Zf) (fun _ _=>rfl)) (ZX Zh6 Zc6 (Zr ZS (Zr Zap (pv 1) Zf) Zf) (fun _ _=>rfl))))))))),?_⟩
 refine⟨_,rfl,_,_,rfl,rfl,(by show(0:Int)<8;decide),?_⟩;refine⟨_,rfl,_,_,rfl,rfl,_,rfl,ZdP (fun _=>?_) (fun _=>?_)⟩
 ·exact⟨_,rfl,_,rfl,_,_,rfl,rfl,⟨by decide,by decide⟩,_,_,rfl,rfl,(by show(0:Int)<3;decide),tr,_,_,_,rfl,rfl,SqL.of hT,(by rw[hk3'];exact hat3),q _ _ (Zj.refl _)⟩
 refine⟨_,rfl,rfl,_,rfl,ZdP (fun _=>q _ _ (Zj.refl _)) (fun _=>?_)⟩;refine⟨_,rfl,rfl,_,rfl,ZdP (fun _=>?_) (fun _=>?_)⟩
 ·obtain⟨k8,hk8,hk8l⟩:=Zli (n / 8) (n:=8) (by decide);have hk8':n / 8 % 8=(k8:Int):=hk8;refine⟨by show(8:Nat)<=sizeLine;decide,fun p1 hp1=>?_⟩;have hat:=Zfk (ws:=["","A","//"," ","a/","0","{}","-"]) (n:=k8) hk8l;exact⟨_,rfl,_,_,rfl,rfl,⟨by decide,by decide⟩,_,_,rfl,rfl,(by show(0:Int)<8;decide),p1,_,_,_,rfl,rfl,SqL.of Za,(by rw[hk8'];exact hat),q _ _ (Zj.new hp1)⟩
 ·obtain⟨ch,hc,c1,c2⟩:=ZhA (i:=n / 24 % 26) (Int.emod_nonneg _ (by decide)) (Int.emod_lt_of_pos _ (by decide));refine⟨_,rfl,_,rfl,_,_,rfl,rfl,⟨by decide,by decide⟩,_,_,rfl,rfl,(by show(0:Int)<3;decide),tr,_,_,_,rfl,rfl,SqL.of hT,(by rw[hk3'];exact hat3),_,rfl,_,_,rfl,rfl,⟨by decide,by decide⟩,_,_,rfl,rfl,(by show(0:Int)<26;decide),_,_,ch,rfl,rfl,(by decide),hc,_,_,rfl,rfl,?_,q _ _ (Zj.refl _)⟩;show t0.length+1<=sizeLine;exact Zd3 (by lia)
def ZcS(C:Addr):Sp:=fun vs H Q _=>∃(ra L T pa la:Addr)(ex:List Addr)(f:FQ)(R R':List Srd.Qd)(l:List Pr)(zr zl:List V),vs=[.ref ra,.ref pa,.ref la]/\RdAt C H ra L T ex f R' [l] []/\H pa=some (.lst zr)/\QL H zr R/\(∀z,z∈R↔z∈R')/\R.length<=100/\H la=some (.lst zl)/\PL H zl l/\(∀p∈l,p.1=p.2)/\(∀q∈R,PyData.strOk q.2.1=true)/\∀H',Zj H H'->Q (.bl true) H'
set_option maxHeartbeats 2000000 in
theorem Zc2{C_Reader:Addr}(B:∀x∈ZcF,mg x=none)(c_Reader:RdC K C_Reader)(g_Reader_goes_on:HasM P w K mg base C_Reader "goes_on" ["self"] 2 (ZfE C_Reader)) (F:Fun K "_law_first_ones" "_law_first_ones" Zaa f fd):FnOk P w K mg base CX0 3 f fd ["_law_reader","_law_paths_here","_law_level"] (ZcS C_Reader):=by
 refine F.ok ZbA (fun vs H Q E h=>?_) (fun cdv A outer s H vs Q E hr h=>?_)
 ·obtain⟨ra,L,T,pa,la,ex,fm,R,R',l,zr,zl,rfl,_⟩:=h;rfl
 obtain⟨ra,L,T,pa,la,ex,fm,R,R',l,zr,zl,rfl,hR,hP,hQ,hRR,hRl,hL,hPL,hdd,hstr,q⟩:=h;have hu:=Zcj hr;obtain⟨dx,_,_,_,_,_,h1,_⟩:=id hR.ho;have hzr:=hQ.length;refine⟨_,(Zc (Zt (i:=3) ZbA.nd rfl (Or.inl rfl) (ZbE g_Reader_goes_on hr (pv 0) c_Reader.cls))
  (Zc (ZaT (PW.pt (Zdn (ZaR (ZP (Zx Zae rfl (B "isinstance" (by decide)) Z1 (Zb (pv 3) (Zb (ZeO rfl (B "list" (by decide)) Zdb) Zd))) (fun _=>rfl))) (Zb4 (Z0 (ZcO hu) (Zbg (cl:=[]) ["_law_word_here"] [] (ZaF (pv 3)) (fun _ _ _ _=>(Zo (i:=0) nd1 rfl (Or.inl rfl))) (fun _ _ _ _=>(ZaR (Zht (K:=K) rfl (Zx (Zeo (K:=K) rfl) rfl (B "isinstance" (by decide)) Z1 (Zb (pv 0) (Zb (ZeO rfl (B "str" (by decide)) Zkx) Zd))) (fun _=>rfl)))) (fun _ _ _ _=>(pv 0)) rfl rfl (by decide) rfl (by decide) (fun _ _ h=>nomatch h) (Zdc (by decide)) (fun _ _ h=>nomatch h) (fun _=>rfl)) (ZaQ Zd) (Zao _)))))
   (Zg (Zy ZaB))
   ZR)
  (Zg (Zy (Zie (ZkU hu) (pv 3) (Zeq rfl hu rfl (B "sorted" (by decide)) rfl (B "set" (by decide)) (Zb (Zbg (cl:=_) ["_law_rule"] [("_law_level",2)] (ZaF (pv 1)) (fun _ _ _ _=>(Zo (i:=0) (show List.Nodup (["_law_rule","_law_level"]:List Str) by decide) rfl (Or.inl rfl))) (fun _ _ _ _=>(Z0 (Zh2 (K:=K) rfl hu) (ZaH (Zb (ZX (Za9 (K:=K) rfl) (pv 0) Zf (fun _ _=>rfl)) (Zb (ZX (Za9 (K:=K) rfl) (pv 0) Zf (fun _ _=>rfl)) Zd))) (pv 1) (by with_unfolding_all rfl))) (fun _ _ _ _=>(ZX (Za9 (K:=K) rfl) (pv 0) Zf (fun _ _=>rfl))) rfl rfl (by decide) rfl (by decide) (Zcx (by(repeat' first|exact List.forall_mem_nil _|refine List.forall_mem_cons.mpr ⟨?_,?_⟩) <;> rfl)) (Zbx (by(repeat' first|exact List.forall_mem_nil _|refine List.forall_mem_cons.mpr ⟨?_,?_⟩) <;> first|(intro h;exact⟨_,rfl⟩)|(intro h;exact absurd h (by decide)))) (fun _=>by(repeat' first|exact List.forall_mem_nil _|refine List.forall_mem_cons.mpr ⟨?_,?_⟩) <;> exact⟨rfl,rfl,Or.inl rfl⟩) (fun _=>rfl)) Zd)) (Zao _)))))),?_⟩
 refine⟨_,rfl,ra,dx,_,rfl,h1,rfl,ra,L,T,ex,fm,R',[],l,[],rfl,hR,fun gr gs H1 s1 hgr e1 hgs hgl hgm=>?_⟩;have hgm':∀x,x∈gs↔∃z∈R,(z.1,z.1)∈l/\z.2.1=x:=fun x=>by
  rw[hgm];constructor
  ·rintro(⟨_,h,_⟩|⟨p,hp,i,r,z⟩)
   ·exact absurd rfl h
   ·refine⟨_,(hRR _).mpr z,?_,rfl⟩;have:=hdd p hp;obtain⟨p1,p2⟩:=p;dsimp only at this;subst this;exact hp
  ·rintro⟨⟨z1,z2,z3,z4⟩,hz,h1,h2⟩;dsimp only at h2;subst h2;exact .inr ⟨_,h1,z3,z4,(hRR _).mp hz⟩
 have hok:OkW gs:=fun x hx=>by
  obtain⟨z,hz,_,rfl⟩:=(hgm' x).mp hx;exact hstr z hz
 refine⟨_,rfl,.ref gr,"list",.type "list",true,rfl,.lst e1,rfl,true,rfl,Za5 ?_⟩;refine⟨_,rfl,gr,rfl,⟨_,SqL.of e1⟩,fun pc hpc=>ZbI (K:=K) (a:=gr) (p:=pc) (xs:=gs.map V.str) (fun i ys σ H2=>∃v0:Option V,σ =[v0]/\Zj H1 H2/\H2 pc=some (.lst ys)/\ys=[])
  ⟨none,rfl,Zj.new hpc,Za,rfl⟩ ?_ ?_ ?_⟩
 ·rintro i ys σ H2 _ ⟨v0,_,sm,h,_⟩;exact⟨SqL.of (sm _ _ e1),h⟩
 ·rintro i ys x σ H2 hi hx ⟨v0,rfl,sm,hp,rfl⟩;rw[List.getElem?_map] at hx;obtain⟨y,_,rfl⟩:=Option.map_eq_some_iff.mp hx;exact⟨_,rfl,.str y,"str",.type "str",true,rfl,.str _,rfl,true,rfl,Za5 (CW.next hi ⟨_,rfl,sm,hp,rfl⟩)⟩
 rintro ys σ H2 ⟨v0,rfl,s2,hp2,rfl⟩;refine⟨by decide,fun pn hpn=>?_⟩;have s3:Zj H2 (upd H2 pn (.lst [])):=Zj.new hpn;have x3:(upd H2 pn (.lst [])) pn=some (.lst []):=Za;generalize upd H2 pn (.lst [])=H3 at s3 x3 ⊢;have s13:=s2.trans s3;have s03:=s1.trans s13;refine⟨pc,pn,_,rfl,rfl,SqL.of (s3 _ _ hp2),SqL.of x3,false,rfl,Za5 ?_⟩;have e3:=s13 _ _ e1;have hP3:=s03 _ _ hP;have hL3:=s03 _ _ hL;refine⟨_,rfl,_,rfl,pa,rfl,⟨_,SqL.of hP3⟩,fun pd hpd=>ZbI (K:=K) (a:=pa) (p:=pd) (xs:=zr) (fun i ys σ H4=>∃(v0:Option V)(us:List Str),σ =[v0,some (.ref la)]/\Zj H3 H4/\H4 pd=some (.lst ys)/\ys=us.map V.str/\us.length<=i/\∀x,x∈us↔∃z∈R.take i,(z.1,z.1)∈l/\z.2.1=x)
  ⟨none,[],rfl,Zj.new hpd,Za,rfl,Nat.le_refl _,fun x=>⟨fun h=>(nomatch h),fun⟨_,h,_⟩=>(nomatch h)⟩⟩ ?_ ?_ ?_⟩
 ·rintro i ys σ H4 _ ⟨v0,us,_,sm,h,_⟩;exact⟨SqL.of (sm _ _ hP3),h⟩
 ·rintro i ys x σ H4 hi hx ⟨v0,us,rfl,sm,hp,rfl,hul,hum⟩;obtain⟨pt,q1,y1,rfl,y2⟩:=hQ.get i x hx;have s04:=s03.trans sm;have y3:H4 pt=some (.tup [.int q1.1,.str q1.2.1,.int q1.2.2.1,.int q1.2.2.2]):=s04 _ _ y2;refine⟨_,rfl,pt,_,0,_,rfl,rfl,SqT.of y3,rfl,_,rfl,pt,_,0,_,rfl,rfl,SqT.of y3,rfl,by show(2:Nat)<=sizeLine;decide,fun t ht0=>?_⟩;have s5:Zj H4 (upd H4 t (.tup [V.int q1.1,V.int q1.1])):=Zj.new ht0;have x5:(upd H4 t (.tup [V.int q1.1,V.int q1.1])) t=some (tp (q1.1,q1.1)):=Za;generalize upd H4 t (.tup [V.int q1.1,V.int q1.1])=H5 at s5 x5 ⊢;have s05:=s04.trans s5;refine⟨_,rfl,t,la,_,zl,l,rfl,rfl,x5,SqL.of (s05 _ _ hL),hPL.keep (fun b xs e=>s05 _ _ e),_,rfl,ZdP (fun c=>?_) (fun c=>?_)⟩
  ·have c':(q1.1,q1.1)∈l:=of_decide_eq_true c;refine⟨_,rfl,pt,_,1,_,rfl,rfl,SqT.of (s5 _ _ y3),rfl,s5 _ _ hp,Zq (by rw[List.length_map];rw[hzr] at hi;lia),CW.next hi ⟨_,us ++ [q1.2.1],rfl,(sm.trans s5).upd_new hpd,Za,by rw[List.map_append];rfl,by rw[List.length_append,List.length_singleton];lia,fun x=>?_⟩⟩
   rw[List.mem_append,hum,Zk y1,List.mem_singleton];constructor
   ·rintro(⟨z,hz,h⟩|rfl)
    ·exact⟨z,List.mem_append_left _ hz,h⟩
    ·exact⟨q1,List.mem_append_right _ (List.mem_singleton.mpr rfl),c',rfl⟩
   ·rintro⟨z,hz,h1,h2⟩;rcases List.mem_append.mp hz with hz|hz
    ·exact .inl ⟨z,hz,h1,h2⟩
    ·rw[List.mem_singleton.mp hz] at h2;exact .inr h2.symm
  ·have c':(q1.1,q1.1)∉l:=fun z=>c (decide_eq_true z);refine CW.next hi ⟨_,us,rfl,sm.trans s5,s5 _ _ hp,rfl,by lia,fun x=>?_⟩
   rw[hum,Zk y1];constructor
   ·rintro⟨z,hz,h⟩;exact⟨z,List.mem_append_left _ hz,h⟩
   ·rintro⟨z,hz,h1,h2⟩;rcases List.mem_append.mp hz with hz|hz
    ·exact⟨z,hz,h1,h2⟩
    ·rw[List.mem_singleton.mp hz] at h1;exact absurd h1 c'
 rintro ys σ H4 ⟨v0,us,rfl,s4,hp4,rfl,hul,hum⟩;rw[hzr,List.take_length] at hum;refine⟨pd,us,rfl,SqL.of hp4,by lia,fun r ms hr0 hms hmm=>?_⟩;have s5:Zj H4 (upd H4 r (.lst (ms.map V.str))):=Zj.new hr0;have x5:(upd H4 r (.lst (ms.map V.str))) r=some (.lst (ms.map V.str)):=Za;generalize upd H4 r (.lst (ms.map V.str))=H5 at s5 x5 ⊢;have egs:gs=ms:=Zdm.one hgs hms fun x=>(hgm' x).trans ((hmm x).trans (hum x)).symm;subst egs;have s35:=s4.trans s5;exact eq_data (d:=.list (gs.map PyData.str)) (.lst (SqL.of (s35 _ _ e3)) (ZfD gs)) (.lst (SqL.of x5) (ZfD gs)) (Zf7 hok) (by show PyData.depthAll (gs.map PyData.str)+1<=200;rw[ZdD];decide) (q H5 (s03.trans s35))
set_option maxHeartbeats 8000000 in
theorem ZkD{C_Reader:Addr}(B:∀x∈ZcF,mg x=none)(c_Reader:RdC K C_Reader)(g_l_tags:Has P w K mg base "_law_tags" ["_law_cell"] 1 Zfp) (g_l_cell_at:Has P w K mg base "_law_cell_at" ["_law_script","_law_k"] 1 (Zfc K)) (g_l_shape:Has P w K mg base "_law_shape" ["_law_script","_law_tags_here"] 3 (Zd6 K)) (g_l_alive:Has P w K mg base "_law_alive" ["_law_shape_here"] 1 ZdR) (g_Reader:HasC P w K mg base C_Reader "Reader" ["self","form"] 2 (Zfv K C_Reader)) (g_l_numbers:Has P w K mg base "_law_numbers" ["_law_script","_law_first","_law_many"] 2 (Zgo K)) (g_l_word:Has P w K mg base "_law_word" ["_law_tags_here","_law_number"] 1 Zd4) (g_l_first_ones:Has P w K mg base "_law_first_ones" ["_law_reader","_law_paths_here","_law_level"] 3 (ZcS C_Reader)) (g_l_stands:Has P w K mg base "_law_stands" ["_law_reader","_law_levels"] 4 (Zck C_Reader)) (g_Reader_take:HasM P w K mg base C_Reader "take" ["self","word"] 3 (ZfL C_Reader)) (F:Fun K "law" "law" ZaI f fd):FnOk P w K mg base CX0 5 f fd ["_law_script"] (ZiO K):=by
 refine F.ok Zbd (fun vs H Q E h=>?_) (fun cdv A outer s H vs Q E hr h=>?_)
 ·obtain⟨a,ns,rfl,_⟩:=h;rfl
 obtain⟨a,ns,rfl,hS,h63,q⟩:=h;have hu:=Zcj hr;have hu1:(A.deeper (PyProof.Rows.envOfC (Str.ofString "law") (Ze ZaI) s.heap.objs.size f cdv)).units+1<cLine:=by have:=hr.un;lia
 refine ZbO ((Zm ZaI).drop 7) (Zg (Zy (Zav g_l_stands hr rfl (Zb (pv 6) (Zb (ZaQ (Zb (pv 5) Zd)) Zd))))) (fun u7 h7 e7=>?_);refine ZbO ((Ze4 ((Zm ZaI).getD 6 (.Pass ⟨0,0,0,0⟩))).drop 7) (Zg (ZaT (PW.pt (Zdn (ZaR (ZP (Zx Zae rfl (B "isinstance" (by decide)) Z1 (Zb (pv 10) (Zb (ZeO rfl (B "bool" (by decide)) Zij) Zd))) (fun _=>rfl))) (Zdn (Z0 ZgU (pv 10) (Zie (ZcO hu) (pv 11) (ZaQ Zd) (Zao _)) (Zao _)) (Zb4 (ZaR (ZP (Zav g_l_stands hr rfl (Zb (pv 9) (Zb (pv 12) Zd))) (fun _=>rfl)))))))
   (Zg (Zy ZaB))
   ZR)) (fun u6_7 h6_7 e6_7=>?_)
 refine ZbO ((Ze4 ((Zm ZaI).getD 6 (.Pass ⟨0,0,0,0⟩))).drop 6) (Zc (ZaT (Z0 (ZcO hu) (pv 11) (ZaQ Zd) (Zao _))
   (Zg (Zbm (Ze8 PySem.F.plainAttrs_list PySem.F.slot_list_append PySem.F.type_list_append Zaw (pv 12) (Zb (ZeR rfl hu rfl (B "sorted" (by decide)) rfl (B "set" (by decide)) (Zb (pv 11) Zd)) Zd))))
   ZR) h6_7) (fun u6_6 h6_6 e6_6=>?_)
 refine ZbO ((Ze4 ((Zm ZaI).getD 6 (.Pass ⟨0,0,0,0⟩))).drop 5) (Zc (Zt (i:=12) Zbd.nd rfl (Or.inl rfl) (ZaQ (Zb (pv 5) Zd))) h6_6) (fun u6_5 h6_5 e6_5=>?_);refine ZbO ((Ze4 ((Zm ZaI).getD 6 (.Pass ⟨0,0,0,0⟩))).drop 4) (Zc (ZaG (cl:=_) (n0:=11) Zbd.nd rfl (Or.inl rfl) ["_law_rule"] [("_law_level",5),("_law_word_here",8)] (ZaF (pv 4)) (fun _ _ _ _=>(Zo (i:=0) (show List.Nodup (["_law_rule","_law_level","_law_word_here"]:List Str) by decide) rfl (Or.inl rfl))) (fun _ _ _ _=>(PW.pt (ZcV (Z0 ZeB (ZX (Za9 (K:=K) rfl) (pv 0) Zf (fun _ _=>rfl)) (pv 2) (Zao _)) (Zci (Z0 (Zh2 (K:=K) rfl hu) (ZaH (Zb (ZX (Za9 (K:=K) rfl) (pv 0) Zf (fun _ _=>rfl)) (Zb (ZX (Za9 (K:=K) rfl) (pv 0) Zf (fun _ _=>rfl)) Zd))) (pv 1) (by with_unfolding_all rfl)))))) (fun _ _ _ _=>(ZaH (Zb (ZX (Za9 (K:=K) rfl) (pv 0) Zf (fun _ _=>rfl)) (Zb (ZX (Za9 (K:=K) rfl) (pv 0) Zf (fun _ _=>rfl)) Zd)))) rfl rfl (by decide) rfl (by decide) (Zcx (by(repeat' first|exact List.forall_mem_nil _|refine List.forall_mem_cons.mpr ⟨?_,?_⟩) <;> rfl)) (Zbx (by(repeat' first|exact List.forall_mem_nil _|refine List.forall_mem_cons.mpr ⟨?_,?_⟩) <;> first|(intro h;exact⟨_,rfl⟩)|(intro h;exact absurd h (by decide)))) (fun _=>by(repeat' first|exact List.forall_mem_nil _|refine List.forall_mem_cons.mpr ⟨?_,?_⟩) <;> exact⟨rfl,rfl,Or.inl rfl⟩) (fun _=>rfl) rfl) h6_5) (fun u6_4 h6_4 e6_4=>?_)
 refine ZbO ((Ze4 ((Zm ZaI).getD 6 (.Pass ⟨0,0,0,0⟩))).drop 3) (Zc (Zt (i:=10) Zbd.nd rfl (Or.inl rfl) (ZdZ g_Reader_take hr (pv 9) c_Reader.cls (Zb (pv 8) Zd))) h6_4) (fun u6_3 h6_3 e6_3=>?_);refine ZbO ((Ze4 ((Zm ZaI).getD 6 (.Pass ⟨0,0,0,0⟩))).drop 2) (Zc (ZaT (PW.pt (Zdn (ZaR (ZP (Zav g_l_stands hr rfl (Zb (pv 9) (Zb (ZaQ (Zb (pv 5) Zd)) Zd))) (fun _=>rfl))) (Zb4 (ZaR (ZP (Zav g_l_first_ones hr rfl (Zb (pv 9) (Zb (pv 4) (Zb (pv 5) Zd)))) (fun _=>rfl))))))
   (Zg (Zy ZaB))
   ZR) h6_3) (fun u6_2 h6_2 e6_2=>?_)
 refine ZbO ((Ze4 ((Zm ZaI).getD 6 (.Pass ⟨0,0,0,0⟩))).drop 1) (Zc (Zt (i:=9) Zbd.nd rfl (Or.inl rfl) (Zhd g_Reader hr rfl (Zb (pv 2) Zd))) h6_2) (fun u6_1 h6_1 e6_1=>?_);refine ZbO ((Ze4 ((Zm ZaI).getD 6 (.Pass ⟨0,0,0,0⟩))).drop 0) (Zc (Zt (i:=8) Zbd.nd rfl (Or.inr rfl) (Zav g_l_word hr rfl (Zb (pv 1) (Zb (pv 7) Zd)))) h6_1) (fun u6_0 h6_0 e6_0=>?_);refine ZbO ((Zm ZaI).drop 6) (Zc (ZaP PassesOwn.never rfl (ZaF (Zav g_l_numbers hr rfl (Zb (pv 0) (Zb Zf (Zb Zf Zd))))) (Zo (i:=7) Zbd.nd rfl (Or.inl rfl))
   h6_0) h7) (fun u6 h6 e6=>?_)
 refine ZbO ((Zm ZaI).drop 5) (Zc (Zt (i:=6) Zbd.nd rfl (Or.inl rfl) (Zhd g_Reader hr rfl (Zb (pv 2) Zd))) h6) (fun u5 h5 e5=>?_);refine ZbO ((Zm ZaI).drop 4) (Zc (Zt (i:=5) Zbd.nd rfl (Or.inr rfl) (Zbg (cl:=_) ["_law_kind"] [("_law_alive_here",3)] (ZbZ (ZX ZaO (pv 2) Zf (fun _ _=>rfl))) (fun _ _ _ _=>(Zo (i:=0) (show List.Nodup (["_law_kind","_law_alive_here"]:List Str) by decide) rfl (Or.inl rfl))) (fun _ _ _ _=>(Zbc (Zbq hu1 (pv 0) (pv 1)))) (fun _ _ _ _=>(ZaH (Zb (pv 0) (Zb (pv 0) Zd)))) rfl rfl (by decide) rfl (by decide) (Zcx (by(repeat' first|exact List.forall_mem_nil _|refine List.forall_mem_cons.mpr ⟨?_,?_⟩) <;> rfl)) (Zbx (by(repeat' first|exact List.forall_mem_nil _|refine List.forall_mem_cons.mpr ⟨?_,?_⟩) <;> first|(intro h;exact⟨_,rfl⟩)|(intro h;exact absurd h (by decide)))) (fun _=>by(repeat' first|exact List.forall_mem_nil _|refine List.forall_mem_cons.mpr ⟨?_,?_⟩) <;> exact⟨rfl,rfl,Or.inl rfl⟩) (fun _=>rfl))) h5) (fun u4 h4 e4=>?_)
 refine ZbO ((Zm ZaI).drop 3) (Zc (ZaG (cl:=_) (n0:=4) Zbd.nd rfl (Or.inl rfl) ["_law_rule"] [("_law_alive_here",3)] (ZbZ (ZX ZaO (pv 2) Zf (fun _ _=>rfl))) (fun _ _ _ _=>(Zo (i:=0) (show List.Nodup (["_law_rule","_law_alive_here"]:List Str) by decide) rfl (Or.inl rfl))) (fun _ _ _ _=>(PW.pt (ZcV (Zbc (Zbq hu1 (ZX (Za9 (K:=K) rfl) (pv 0) Zf (fun _ _=>rfl)) (pv 1))) (Zci (Zbc (Zbq hu1 (ZX (Za9 (K:=K) rfl) (pv 0) Zf (fun _ _=>rfl)) (pv 1))))))) (fun _ _ _ _=>(pv 0)) rfl rfl (by decide) rfl (by decide) (Zcx (by(repeat' first|exact List.forall_mem_nil _|refine List.forall_mem_cons.mpr ⟨?_,?_⟩) <;> rfl)) (Zbx (by(repeat' first|exact List.forall_mem_nil _|refine List.forall_mem_cons.mpr ⟨?_,?_⟩) <;> first|(intro h;exact⟨_,rfl⟩)|(intro h;exact absurd h (by decide)))) (fun _=>by(repeat' first|exact List.forall_mem_nil _|refine List.forall_mem_cons.mpr ⟨?_,?_⟩) <;> exact⟨rfl,rfl,Or.inl rfl⟩) (fun _=>rfl) rfl) h4) (fun u3 h3 e3=>?_)
 refine ZbO ((Zm ZaI).drop 2) (Zc (Zt (i:=3) Zbd.nd rfl (Or.inr rfl) (Zav g_l_alive hr rfl (Zb (pv 2) Zd))) h3) (fun u2 h2 e2=>?_);refine ZbO ((Zm ZaI).drop 1) (Zc (Zt (i:=2) Zbd.nd rfl (Or.inl rfl) (Zav g_l_shape hr rfl (Zb (pv 0) (Zb (pv 1) Zd)))) h2) (fun u1 h1 e1=>?_);refine ZbO ((Zm ZaI).drop 0) (Zc (Zt (i:=1) Zbd.nd rfl (Or.inl rfl) (Zav g_l_tags hr rfl (Zb (Zav g_l_cell_at hr rfl (Zb (pv 0) (Zb Zf Zd))) Zd))) h1) (fun u0 h0 e0=>?_);refine⟨u0,h0,?_⟩;refine ZbN e0 ?_;refine⟨_,rfl,a,ns,1,rfl,hS,h63,by decide,fun v=>⟨v,rfl,fun tr ts H1 s1 _ et ht3 hlt=>?_⟩⟩;refine ZbN e1 ?_;refine⟨_,rfl,_,rfl,a,tr,ns,ts,rfl,s1.seq hS,h63,et,ht3,hlt,fun sa fm H2 s2 hF ok hql hqt=>?_⟩;have hstr:∀z∈fm.qs,PyData.strOk z.2.1=true:=fun z hz=>(hlt _ (hqt z hz)).1.let0.ok;refine ZbN e2 ?_;refine⟨_,rfl,sa,fm,rfl,hF,ok,fun da Al H3 s3 hda hA hAl hAm=>?_⟩;obtain⟨ma,hA,kA⟩:=hA;have s12:=s1.trans s2;have s13:=s12.trans s3;have hF3:=hF.same s3;have et3:=(s2.trans s3) _ _ et;have hS3:=s13.seq hS;obtain⟨f1,f2,f3,zf,a1,a2,a3,a4,a5⟩:=id hF3;have rk:=Zjp hAm;have hzf:=a5.length;have hhl:=ok.hl;refine ZbN e3 ?_;refine⟨_,rfl,sa,_,3,_,rfl,rfl,SqT.of a1,rfl,f3,rfl,⟨_,SqT.of a4⟩,fun pc hpc=>ZcP (K:=K) (a:=f3) (p:=pc) (xs:=zf) (fun i ys σ H9=>∃v0:Option V,σ =[v0,some (.ref da)]/\Zj H3 H9/\H9 pc=some (.lst ys)/\QL H9 ys (rlA Al (fm.qs.take i)))
  ⟨none,rfl,Zj.new hpc,Za,.nil⟩ ?_ ?_ ?_⟩
 ·rintro i ys σ H9 _ ⟨v0,_,sm,h,_⟩;exact⟨SqT.of (sm _ _ a4),h⟩
 ·rintro i ys x σ H9 hi hx ⟨v0,rfl,sm,hp,hz⟩;obtain⟨pt,q1,y1,rfl,y2⟩:=a5.get i x hx;have y3:H9 pt=some (.tup [.int q1.1,.str q1.2.1,.int q1.2.2.1,.int q1.2.2.2]):=sm _ _ y2;have hzl:=hz.length;have hrl:(rlA Al (fm.qs.take i)).length<=100:=Nat.le_trans (List.length_filter_le ..) (by rw[List.length_take];lia);have skip : ¬ (q1.2.2.1∈Al/\q1.2.2.2∈Al)->rlA Al (fm.qs.take (i+1))=rlA Al (fm.qs.take i):=fun hno=>by
   unfold rlA;rw[Zk y1,List.filter_append,List.filter_cons,if_neg (fun z=>hno (by rw[Bool.and_eq_true,decide_eq_true_eq,decide_eq_true_eq] at z;exact z)),List.filter_nil,List.append_nil]
  refine⟨_,rfl,pt,_,2,_,rfl,rfl,SqT.of y3,rfl,_,rfl,da,_,rfl,Zc1.k (k:=Sum.inl q1.2.2.1) (sm _ _ hA),_,rfl,?_⟩;rw[DI.has kA];by_cases c1:q1.2.2.1∈Al
  ·rw[decide_eq_true c1];refine Zej ⟨_,rfl,pt,_,3,_,rfl,rfl,SqT.of y3,rfl,_,rfl,da,_,rfl,Zc1.k (k:=Sum.inl q1.2.2.2) (sm _ _ hA),_,rfl,?_⟩;rw[DI.has kA];by_cases c2:q1.2.2.2∈Al
   ·rw[decide_eq_true c2];refine Zej ⟨_,rfl,hp,Zq (by lia),CW.next hi ⟨_,rfl,sm.upd_new hpc,Za,?_⟩⟩
    have hrl2:rlA Al (fm.qs.take (i+1))=rlA Al (fm.qs.take i) ++ [q1]:=by
     unfold rlA;rw[Zk y1,List.filter_append,List.filter_cons,if_pos (by rw[Bool.and_eq_true,decide_eq_true_eq,decide_eq_true_eq];exact⟨c1,c2⟩),List.filter_nil]
    rw[hrl2];exact(QL.snoc (q:=q1) (sm _ _ y2) hz).keep (ZaN hp)
   ·rw[decide_eq_false c2];refine Za5 (CW.next hi ⟨_,rfl,sm,hp,?_⟩)
    rw[skip fun z=>c2 z.2];exact hz
  ·rw[decide_eq_false c1];refine Za5 (Za5 (CW.next hi ⟨_,rfl,sm,hp,?_⟩))
   rw[skip fun z=>c1 z.1];exact hz
 rintro zr σ H4 ⟨v0,rfl,s4,hP,hQ⟩;rw[hzf,List.take_length] at hQ;have hRl:(rlA Al fm.qs).length<=100:=Nat.le_trans (List.length_filter_le ..) (by lia);have hzr:=hQ.length;generalize rlA Al fm.qs=R at rk hQ hRl hzr;have hA4:=s4 _ _ hA;refine ZbN e4 ?_;refine⟨_,rfl,sa,_,1,_,rfl,rfl,SqT.of (s4 _ _ a1),rfl,f1,rfl,⟨_,SqT.of (s4 _ _ a2)⟩,fun la hla=>ZcP (K:=K) (a:=f1) (p:=la) (xs:=fm.hs.map V.int) (fun i ys σ H9=>∃v0:Option V,σ =[v0,some (.ref da)]/\Zj H4 H9/\H9 la=some (.lst ys)/\PL H9 ys (((fm.hs.take i).filter fun x=>decide (x∈Al)).map dup))
  ⟨none,rfl,Zj.new hla,Za,.nil⟩ ?_ ?_ ?_⟩
 ·rintro i ys σ H9 _ ⟨v0,_,sm,h,_⟩;exact⟨SqT.of (sm _ _ (s4 _ _ a2)),h⟩
 ·rintro i ys x σ H9 hi hx ⟨v0,rfl,sm,hp,hz⟩;rw[List.getElem?_map] at hx;obtain⟨e,he,rfl⟩:=Option.map_eq_some_iff.mp hx;have hlen:((fm.hs.take i).filter fun x=>decide (x∈Al)).length<=70:=Nat.le_trans (List.length_filter_le ..) (by rw[List.length_take];lia);refine⟨_,rfl,_,rfl,da,_,rfl,Zc1.k (k:=Sum.inl e) (sm _ _ hA4),_,rfl,?_⟩;rw[DI.has kA];by_cases ce:e∈Al
  ·rw[decide_eq_true ce];refine Zej ⟨_,rfl,_,rfl,by show(2:Nat)<=sizeLine;decide,fun t ht0=>?_⟩;have s4:Zj H9 (upd H9 t (.tup [V.int e,V.int e])):=Zj.new ht0;refine⟨s4 _ _ hp,Zq (by rw[hz.length,List.length_map];lia),CW.next hi ⟨_,rfl,(sm.trans s4).upd_new hla,Za,?_⟩⟩
   rw[Zk he,List.filter_append,List.filter_cons,if_pos (decide_eq_true ce),List.filter_nil,List.map_append];have hz2:PL (upd H9 t (.tup [V.int e,V.int e])) (ys ++ [.ref t]) (((fm.hs.take i).filter fun x=>decide (x∈Al)).map dup ++ [dup e]):=PL.snoc (q:=dup e) (show _=some (tp (dup e)) from Za) (hz.keep fun b xs e=>s4 _ _ e);exact hz2.keep (ZaN (s4 _ _ hp))
  ·rw[decide_eq_false ce];refine Za5 (CW.next hi ⟨_,rfl,sm,hp,?_⟩)
   rw[Zk he,List.filter_append,List.filter_cons,if_neg (by rw[decide_eq_false ce];decide),List.filter_nil,List.append_nil];exact hz
 rintro zl σ H5 ⟨v0,rfl,s5,hL5,hPL5⟩;rw[List.length_map,List.take_length] at hPL5;have s35:=s4.trans s5;have hF5:=hF3.same s35;refine ZbN e5 ?_;refine⟨_,rfl,fun rb db hrb hdb hneb=>⟨rb,sa,db,fm,rfl,Za,hF5.same (making hrb hdb hneb),ok,fun H6 Lb Tb Rb hs kb6 hLb hTb hri hh hRb=>⟨rfl,?_⟩⟩⟩;have ehs:(fm.hs.filter fun x=>decide (x∈Al))=hs:=ZfR (ok.hs.filter _) hri fun x=>by rw[List.mem_filter,decide_eq_true_eq,hAm,hh]
 rw[ehs] at hPL5;have t6:=made hrb hdb kb6;have s36:=s35.trans t6;have hdd:∀p∈hs.map dup,p.1=p.2:=fun p hp=>by
  obtain⟨x,_,rfl⟩:=List.mem_map.mp hp;rfl
 refine ZbN e6 ?_;refine⟨_,rfl,a,ns,60,4,rfl,s36.seq hS3,h63,by decide,by decide,by decide,by decide,fun nr xs H7 s7 hnr hN hxl _=>?_⟩;have s37:=s36.trans s7;have t7:=t6.trans s7;have hF7:=hF3.same s37;have et7:=s37 _ _ et3;have hP7:=(s5.trans t7) _ _ hP;have hQ7:=hQ.keep fun b xs e=>(s5.trans t7) _ _ e;have hL7:=t7 _ _ hL5;have hPL7:=hPL5.keep fun b xs e=>t7 _ _ e;have hRb7:=hRb.same s7;refine⟨nr,rfl,⟨_,SqL.of hN⟩,Zbo (K:=K) (a:=nr) (xs:=xs.map V.int) (fun i σ Hn=>∃(v7 v8 v9 v10 v11 v12:Option V),σ =[some (.ref a),some (.ref tr),some (.ref sa),some (.ref da),some (.ref pc),some (.ref la),some (.ref rb),v7,v8,v9,v10,v11,v12]/\Zj H7 Hn)
  ⟨none,none,none,none,none,none,rfl,Zj.refl _⟩ ?_ ?_ ?_⟩
 ·rintro i σ Hn _ ⟨_,_,_,_,_,_,_,sn⟩;exact SqL.of (sn _ _ hN)
 rotate_left
 ·rintro σ Hn ⟨v7,v8,v9,v10,v11,v12,rfl,sn⟩;refine ZbN e7 ?_;refine⟨_,rfl,_,rfl,by show(1:Nat)<=sizeLine;decide,fun lr hlr=>?_⟩;have sx:Zj H7 (upd Hn lr (.lst [.ref la])):=sn.trans (Zj.new hlr);exact⟨rb,Lb,Tb,lr,[],fun _=>True,fm,Rb,[hs.map dup],[],[.ref la],rfl,hRb7.same sx,by decide,Za,.cons ⟨la,zl,rfl,trivial,sx _ _ hL7,hPL7.keep fun b xs e=>sx _ _ e⟩ .nil,fun H' _=>q H'⟩
 rintro i x σ Hn hx ⟨v7,v8,v9,v10,v11,v12,rfl,sn⟩;rw[List.getElem?_map] at hx;obtain⟨n,hn,rfl⟩:=Option.map_eq_some_iff.mp hx;refine ZbN e6_0 ?_;refine⟨_,rfl,_,rfl,tr,n,ts,rfl,sn _ _ et7,ht3,(fun t ht=>(hlt t ht).2),fun wd H8 s8=>?_⟩;have s78:=sn.trans s8;have hF8:=hF7.same s78;have hP8:=s78 _ _ hP7;have hQ8:=hQ7.keep fun b xs e=>s78 _ _ e;have hL8:=s78 _ _ hL7;have hPL8:=hPL7.keep fun b xs e=>s78 _ _ e;refine ZbN e6_1 ?_;refine⟨_,rfl,fun ra dr hra hdr hne=>⟨ra,sa,dr,fm,rfl,Za,hF8.same (making hra hdr hne),ok,fun H9 L T R' hs' kb9 hL9 hT9 hri' hh' hR=>⟨rfl,?_⟩⟩⟩;have ehs':hs'=hs:=ZfR hri' hri fun x=>by rw[hh',hh]
 subst ehs';have t9:=made hra hdr kb9;have hLn:=Zc7 hL9;have hTn:=Zc7 hT9;have hRR:∀z,z∈R↔z∈R':=fun z=>(rk z).trans (hR.rk z).symm;generalize hl0:hs'.map dup=l at *;refine ZbN e6_2 ?_;refine⟨_,rfl,_,rfl,by show(1:Nat)<=sizeLine;decide,fun l1 hl1=>?_⟩;have s10:Zj H9 (upd H9 l1 (.lst [.ref la])):=Zj.new hl1;have x10:(upd H9 l1 (.lst [.ref la])) l1=some (.lst [.ref la]):=Za;generalize upd H9 l1 (.lst [.ref la])=H10 at s10 x10 ⊢;have s810:=t9.trans s10;refine⟨ra,L,T,l1,[],fun _=>True,fm,R',[l],[],[.ref la],rfl,hR.same s10,by decide,x10,.cons ⟨la,zl,rfl,trivial,s810 _ _ hL8,hPL8.keep fun b xs e=>s810 _ _ e⟩ .nil,fun H11 s11=>⟨true,rfl,Za5 ?_⟩⟩;have s911:=s10.trans s11;have s811:=t9.trans s911;refine⟨_,rfl,_,rfl,_,rfl,ra,L,T,pc,la,[],fm,R,R',l,zr,zl,rfl,hR.same s911,s811 _ _ hP8,hQ8.keep (fun b xs e=>s811 _ _ e),hRR,hRl,s811 _ _ hL8,hPL8.keep (fun b xs e=>s811 _ _ e),hdd,(fun z hz=>hstr z ((rk z).mp hz).1),fun H12 s12=>⟨true,rfl,Za5 ?_⟩⟩;have s912:=s911.trans s12;have s812:=t9.trans s912;have hR12:=hR.same s912;show u6_3 _ _ _;refine via (t:=u6_4) (R:=fun σ H13=>∃(b:Bool)(lv':List (List Pr))(tg':List Str),σ =[some (.ref a),some (.ref tr),some (.ref sa),some (.ref da),some (.ref pc),some (.ref la),some (.ref rb),some (.int n),some (.str wd),some (.ref ra),some (.bl b),v11,v12]/\Zj H8 H13/\RdAt C_Reader H13 ra L T [] fm R' lv' tg'/\tg'.length<=1/\((b=false/\Nst fm.ts R' l [] wd/\lv'=[l])\/(b=true/\∃ks:List Int,Zjb ks/\(∀x,x∈ks↔Bgs R' l wd x)/\ks ≠ []/\lv'=[l,ks.map dup]))) ?_ (fun hv=>?_);rotate_left
 ·refine ZbN e6_3 ?_;obtain⟨dx,_,_,_,_,_,h112,_⟩:=id hR12.ho;refine⟨_,rfl,ra,dx,_,rfl,h112,rfl,_,rfl,ra,L,T,[],fm,R',[],l,[],wd,rfl,hR12,by decide,fun H13 s13 hn=>?_,fun H13 lv' tg' kx hR13 hst=>?_⟩
  ·exact hv _ _ ⟨false,_,_,rfl,s812.trans s13,hR12.same s13,Nat.zero_le _,.inl ⟨rfl,hn,rfl⟩⟩
  ·refine hv _ _ ⟨true,lv',tg',rfl,fun b o e=>kx b o (Zb7 (Zi e hLn) (Zi e hTn)) (s812 _ _ e),hR13,?_,.inr ⟨rfl,?_⟩⟩
   ·rcases hst.len with⟨_,h⟩|⟨_,h⟩
    ·exact nomatch h
    ·rw[List.length_nil] at h;lia
   ·generalize hlv:[] ++ [l]=lw at hst;generalize htw:([]:List Str)=tw at hst;cases hst with
    | tag hw r m e =>
     obtain⟨e1,e2⟩:=List.append_inj' hlv rfl;cases e2;subst e1;exact⟨_,r,m,e,rfl⟩
    | fin hb r m=>exact absurd htw.symm (by simp)
 rintro σ13 H13 ⟨b,lv',tg',rfl,s813,hR13,htl,hcase⟩;have hP13:=s813 _ _ hP8;have hL13:=s813 _ _ hL8;have hPL13:=hPL8.keep fun b xs e=>s813 _ _ e;have hQ13:=hQ8.keep fun b xs e=>s813 _ _ e;refine ZbN e6_4 ?_;refine⟨_,rfl,pc,rfl,⟨_,SqL.of hP13⟩,fun pd hpd=>ZbI (K:=K) (a:=pc) (p:=pd) (xs:=zr) (fun i ys σ H4=>∃(v0:Option V)(ps:List Pr),σ =[v0,some (.ref la),some (.str wd)]/\Zj H13 H4/\H4 pd=some (.lst ys)/\PL H4 ys ps/\ps.length<=i/\∀p,p∈ps↔∃z∈R.take i,z.2.1=wd/\(z.1,z.1)∈l/\p=dup z.2.2.1)
  ⟨none,[],rfl,Zj.new hpd,Za,.nil,Nat.le_refl _,fun x=>⟨fun h=>(nomatch h),fun⟨_,h,_⟩=>(nomatch h)⟩⟩ ?_ ?_ ?_⟩
 ·rintro i ys σ H4 _ ⟨v0,us,_,sm,h,_⟩;exact⟨SqL.of (sm _ _ hP13),h⟩
 ·rintro j ys x σ H4 hi hx ⟨v0,ps,rfl,sm,hp,hpp,hul,hum⟩;obtain⟨pt,q1,y1,rfl,y2⟩:=hQ13.get j x hx;have y3:H4 pt=some (.tup [.int q1.1,.str q1.2.1,.int q1.2.2.1,.int q1.2.2.2]):=sm _ _ y2;have hpl:=hpp.length;have skip : ¬ (q1.2.1=wd/\(q1.1,q1.1)∈l)->∀p,p∈ps↔∃z∈R.take (j+1),z.2.1=wd/\(z.1,z.1)∈l/\p=dup z.2.2.1:=fun hno p=>by
   rw[hum,Zk y1];constructor
   ·rintro⟨z,hz,h⟩;exact⟨z,List.mem_append_left _ hz,h⟩
   ·rintro⟨z,hz,h1,h2,h3⟩;rcases List.mem_append.mp hz with hz|hz
    ·exact⟨z,hz,h1,h2,h3⟩
    ·rw[List.mem_singleton.mp hz] at h1 h2;exact absurd ⟨h1,h2⟩ hno
  refine⟨_,rfl,pt,_,1,_,rfl,rfl,SqT.of y3,rfl,_,rfl,rfl,_,rfl,ZdP (fun c=>?_) (fun c=>?_)⟩
  ·have c1:q1.2.1=wd:=by
    have:=of_decide_eq_true c;injection this
   refine⟨_,rfl,pt,_,0,_,rfl,rfl,SqT.of y3,rfl,_,rfl,pt,_,0,_,rfl,rfl,SqT.of y3,rfl,by show(2:Nat)<=sizeLine;decide,fun t ht0=>?_⟩;have s5:Zj H4 (upd H4 t (.tup [V.int q1.1,V.int q1.1])):=Zj.new ht0;have x5:(upd H4 t (.tup [V.int q1.1,V.int q1.1])) t=some (tp (q1.1,q1.1)):=Za;generalize upd H4 t (.tup [V.int q1.1,V.int q1.1])=H5' at s5 x5 ⊢;have sm5:=sm.trans s5;refine⟨_,rfl,t,la,_,zl,l,rfl,rfl,x5,SqL.of (sm5 _ _ hL13),hPL13.keep (fun b xs e=>sm5 _ _ e),_,rfl,ZdP (fun c=>?_) (fun c=>?_)⟩
   ·have c2:(q1.1,q1.1)∈l:=of_decide_eq_true c;refine⟨_,rfl,pt,_,2,_,rfl,rfl,SqT.of (s5 _ _ y3),rfl,_,rfl,pt,_,2,_,rfl,rfl,SqT.of (s5 _ _ y3),rfl,by show(2:Nat)<=sizeLine;decide,fun t2 ht2=>?_⟩;have s6:Zj H5' (upd H5' t2 (.tup [V.int q1.2.2.1,V.int q1.2.2.1])):=Zj.new ht2;have x6:(upd H5' t2 (.tup [V.int q1.2.2.1,V.int q1.2.2.1])) t2=some (tp (dup q1.2.2.1)):=Za;generalize upd H5' t2 (.tup [V.int q1.2.2.1,V.int q1.2.2.1])=H6' at s6 x6 ⊢;have s56:=s5.trans s6;refine⟨s56 _ _ hp,Zq (by rw[hzr] at hi;lia),CW.next hi ⟨_,ps ++ [dup q1.2.2.1],rfl,(sm.trans s56).upd_new hpd,Za,?_,by rw[List.length_append,List.length_singleton];lia,fun p=>?_⟩⟩
    ·exact(PL.snoc x6 (hpp.keep fun b xs e=>s56 _ _ e)).keep (ZaN (s56 _ _ hp))
    ·rw[List.mem_append,hum,Zk y1,List.mem_singleton];constructor
     ·rintro(⟨z,hz,h⟩|rfl)
      ·exact⟨z,List.mem_append_left _ hz,h⟩
      ·exact⟨q1,List.mem_append_right _ (List.mem_singleton.mpr rfl),c1,c2,rfl⟩
     ·rintro⟨z,hz,h1,h2,h3⟩;rcases List.mem_append.mp hz with hz|hz
      ·exact .inl ⟨z,hz,h1,h2,h3⟩
      ·rw[List.mem_singleton.mp hz] at h3;exact .inr h3
   ·exact CW.next hi ⟨_,ps,rfl,sm5,s5 _ _ hp,hpp.keep (fun b xs e=>s5 _ _ e),by lia,skip fun z=>c (decide_eq_true z.2)⟩
  ·exact Za5 (CW.next hi ⟨_,ps,rfl,sm,hp,hpp,by lia,skip fun z=>c (decide_eq_true (congrArg V.str z.1))⟩)
 rintro ys σ H14 ⟨v0,ps,rfl,s14,hp14,hpp,hul,hum⟩;rw[hzr,List.take_length] at hum;have hpl:=hpp.length;have hbg:∀p,p∈ps↔∃x,p=dup x/\Bgs R' l wd x:=fun p=>by
  rw[hum];constructor
  ·rintro⟨⟨z1,z2,z3,z4⟩,hz,h1,h2,h3⟩;dsimp only at h1 h2 h3;subst h1;exact⟨z3,h3,(z1,z1),h2,z4,(hRR _).mp hz⟩
  ·rintro⟨x,rfl,p,hp,r,hz⟩;refine⟨_,(hRR _).mpr hz,rfl,?_,rfl⟩;have:=hdd p hp;obtain⟨p1,p2⟩:=p;dsimp only at this;subst this;exact hp
 have hnil:(∀x,¬ Bgs R' l wd x)->ys=[]:=fun h=>by
  cases ps with
  | nil=>exact List.length_eq_zero_iff.mp hpl
  | cons p ps =>
   obtain⟨x,_,hx⟩:=(hbg p).mp (List.mem_cons_self ..);exact absurd hx (h x)
 have hnb:∀x,Nst fm.ts R' l [] wd -> ¬ Bgs R' l wd x:=fun x hn hx=>by
  rcases hn with⟨_,h⟩|⟨h,_⟩
  ·exact h x hx
  ·obtain⟨p,hp,r,hz⟩:=hx;exact ok.lt _ ((hR.rk _).mp hz).1 h
 have hby:b= !ys.isEmpty:=by
  rcases hcase with⟨rfl,hn,_⟩|⟨rfl,ks,_,hk,hk0,_⟩
  ·rw[hnil fun x=>hnb x hn];rfl
  ·cases ys with
   | cons y ys=>rfl
   | nil =>
    exfalso;have hps:ps=[]:=List.length_eq_zero_iff.mp hpl.symm;cases ks with
    | nil=>exact hk0 rfl
    | cons k ks =>
     have:=(hbg (dup k)).mpr ⟨k,rfl,(hk k).mp (List.mem_cons_self ..)⟩;rw[hps] at this;exact nomatch this
 refine ZbN e6_5 ?_;refine⟨_,rfl,by show(1:Nat)<=sizeLine;decide,fun lr hlr=>?_⟩;have s15:Zj H14 (upd H14 lr (.lst [.ref la])):=Zj.new hlr;have x15:(upd H14 lr (.lst [.ref la])) lr=some (.lst [.ref la]):=Za;have hR15:=(hR13.same s14).more (ys:=[.ref la]) hlr;have hlr8:H8 lr=none:=(s813.trans s14).free hlr;have nla:la≠lr:=fun z=>by rw[<- z,s14 _ _ hL13] at hlr;cases hlr
 have npd:pd≠lr:=fun z=>by rw[<- z,hp14] at hlr;cases hlr
 generalize upd H14 lr (.lst [.ref la])=H15 at s15 x15 hR15 ⊢;have s1315:=s14.trans s15;have s815:=s813.trans s1315;have hp15:=s15 _ _ hp14;have hpp15:=hpp.keep fun b xs e=>s15 _ _ e;refine via (t:=u6_7) (R:=fun σ H16=>∃zs:List V,σ =[some (.ref a),some (.ref tr),some (.ref sa),some (.ref da),some (.ref pc),some (.ref la),some (.ref rb),some (.int n),some (.str wd),some (.ref ra),some (.bl b),some (.ref pd),some (.ref lr)]/\Zj H8 H16/\RdAt C_Reader H16 ra L T [lr] fm R' lv' tg'/\H16 lr=some (.lst zs)/\LVf (fun _=>True) H16 zs lv'/\H16 pd=some (.lst ys)) ?_ (fun hv=>?_);rotate_left
 ·refine ZbN e6_6 ?_;refine⟨_,rfl,by decide,fun pn hpn=>?_⟩;have s16:Zj H15 (upd H15 pn (.lst [])):=Zj.new hpn;have x16:(upd H15 pn (.lst [])) pn=some (.lst []):=Za;generalize upd H15 pn (.lst [])=H16 at s16 x16 ⊢;have s816:=s815.trans s16;have hL16:=s816 _ _ hL8;have hPL16:=hPL8.keep fun b xs e=>s816 _ _ e;refine⟨pd,pn,_,rfl,rfl,SqL.of (s16 _ _ hp15),SqL.of x16,?_⟩;rcases hcase with⟨rfl,hn,rfl⟩|⟨rfl,ks,hkr,hk,hk0,rfl⟩
  ·rw[<- hby];exact⟨false,rfl,Za5 (hv _ _ ⟨_,rfl,s816,hR15.same s16,s16 _ _ x15,.cons ⟨la,zl,rfl,trivial,hL16,hPL16⟩ .nil,s16 _ _ hp15⟩)⟩
  ·rw[<- hby];refine⟨true,rfl,Zej ?_⟩;refine⟨_,rfl,.inl ⟨rfl,_,SqL.of (s16 _ _ x15)⟩,_,rfl,pd,ys,ps,rfl,SqL.of (s16 _ _ hp15),by lia,hpp15.keep (fun b xs e=>s16 _ _ e),fun sr zs ms hsr hms hmm hzs=>?_⟩;have ems:ms=ks.map dup:=Srd.Zdd.one hms (Zdk hkr) fun p=>(hmm p).trans ((hbg p).trans ⟨fun⟨x,e,h⟩=>by rw[e];exact List.mem_map_of_mem ((hk x).mpr h),fun h=>by obtain⟨x,hx,rfl⟩:=List.mem_map.mp h;exact⟨x,rfl,(hk x).mp hx⟩⟩);subst ems;have s17:Zj H16 (upd H16 sr (.lst zs)):=Zj.new hsr;have x17:(upd H16 sr (.lst zs)) sr=some (.lst zs):=Za;have nsr:sr≠lr:=fun z=>by rw[z,s16 _ _ x15] at hsr;cases hsr
   generalize upd H16 sr (.lst zs)=H17 at s17 x17 ⊢;have s1617:=s16.trans s17;have xl:=s1617 _ _ x15;refine⟨lr,_,_,rfl,rfl,xl,Zq (by show(1:Nat)<=_;decide),?_⟩;have kt:Ziv H17 (upd H17 lr (.lst ([.ref la] ++ [.ref sr]))):=ZaN xl;refine hv _ _ ⟨_,rfl,(s816.trans s17).upd_new hlr8,(hR15.same s1617).put (List.mem_cons_self ..),Za,.cons ⟨la,zl,rfl,trivial,by rw[Zh nla];exact s17 _ _ hL16,(hPL16.keep fun b xs e=>s17 _ _ e).keep kt⟩ (.cons ⟨sr,zs,rfl,trivial,by rw[Zh nsr];exact x17,(hzs.keep fun b xs e=>s17 _ _ e).keep kt⟩ .nil),by rw[Zh npd];exact s1617 _ _ hp15⟩
 rintro σ16 H16 ⟨zs,rfl,s816,hR16,hlr16,hLV16,hp16⟩;refine ZbN e6_7 ?_;refine⟨_,rfl,.bl b,"bool",.type "bool",true,rfl,.bl b,rfl,true,rfl,Za5 ?_⟩;refine⟨_,rfl,_,rfl,by decide,fun pn hpn=>?_⟩;have s17:Zj H16 (upd H16 pn (.lst [])):=Zj.new hpn;have x17:(upd H16 pn (.lst [])) pn=some (.lst []):=Za;generalize upd H16 pn (.lst [])=H17 at s17 x17 ⊢;refine⟨pd,pn,_,rfl,rfl,SqL.of (s17 _ _ hp16),SqL.of x17,rfl,false,(by show V.bl (!decide (V.bl b=V.bl (!ys.isEmpty)))=V.bl false;rw[<- hby,decide_eq_true rfl];rfl),Za5 ?_⟩;refine⟨_,rfl,_,rfl,ra,L,T,lr,[lr],fun _=>True,fm,R',lv',tg',zs,rfl,hR16.same s17,by lia,s17 _ _ hlr16,hLV16.keep (fun b o _ e=>s17 _ _ e) (fun b xs e=>s17 _ _ e),fun H18 s18=>⟨true,rfl,Za5 ?_⟩⟩;exact⟨_,_,_,_,_,_,rfl,s78.trans (s816.trans (s17.trans s18))⟩
end
theorem ZkN{l:PySem.W.OpenLaw}{w:World}{K:PySem.W.Frag}{h:Heap}{mg:Str->Option Value}{fa f1 f2 f3 f4 f5 f6 f7 f8 f9 f10 f11 f12 f13 f14 f15 f16 f17 f18 f19 f20 f21 f22 f23:Addr}(X:K.In h)(G:h.Ns mainGlobals mg)(hfa:mg "law" = some (.ref fa))
  {od1 an1 od2 an2 od3 an3 od4 an4 od5 an5 od6 an6 od7 an7 od8 an8 od9 an9 od10 an10 od11 an11 od12 an12 od13 an13 od14 an14 od15 an15 od16 an16 od17 an17 od18 an18 od19 an19 od20 an20 od21 an21 od22 an22 od23 an23:Option Addr} {sl1 sl2 sl3 sl4 sl5 sl6 sl7 sl8 sl9 sl10 sl11 sl12 sl13 sl14 sl15 sl16 sl17 sl18 sl19 sl20 sl21 sl22 sl23:Array (Option Value)} {oc1 kV1 dc1 pm1 cd1 ct1 oc2 kV2 dc2 pm2 cd2 ct2 oc3 kV3 dc3 pm3 cd3 ct3 oc4 kV4 dc4 pm4 cd4 ct4 oc5 kV5 dc5 pm5 cd5 ct5 oc6 kV6 dc6 pm6 cd6 ct6 oc7 kV7 dc7 pm7 cd7 ct7 oc8 kV8 dc8 pm8 cd8 ct8 oc9 kV9 dc9 pm9 cd9 ct9 oc10 kV10 dc10 pm10 cd10 ct10 oc11 kV11 dc11 pm11 cd11 ct11 oc12 kV12 dc12 pm12 cd12 ct12 oc13 kV13 dc13 pm13 cd13 ct13 oc14 kV14 dc14 pm14 cd14 ct14 oc15 kV15 dc15 pm15 cd15 ct15 oc16 kV16 dc16 pm16 cd16 ct16 oc17 kV17 dc17 pm17 cd17 ct17 oc18 kV18 dc18 pm18 cd18 ct18 oc19 kV19 dc19 pm19 cd19 ct19 oc20 kV20 dc20 pm20 cd20 ct20 oc21 kV21 dc21 pm21 cd21 ct21 oc22 kV22 dc22 pm22 cd22 ct22 oc23 kV23 dc23 pm23 cd23 ct23:Value}
  {C_Reader:Addr}
  (cn1:PySem.W.nsIn K mainGlobals "Reader" = some (some (.ref C_Reader))) (cp1:PySem.W.plainGet K C_Reader Str.empty=true) (ch1:PySem.W.hasDictIn K C_Reader=true) (cq1:PySem.W.plainOver K C_Reader=true) (cs1:PySem.W.findIn K (.ref C_Reader) "__setattr__" = some (some (.builtin "object.__setattr__"))) (cm1:PySem.W.makesIn K C_Reader=true) (ck1:PySem.W.keepIn K (.ref C_Reader)=true)
  (cx1_0:PySem.W.findIn K (.ref C_Reader) "form" = some none)
  (cx1_1:PySem.W.findIn K (.ref C_Reader) "final" = some none)
  (cx1_2:PySem.W.findIn K (.ref C_Reader) "ways" = some none)
  (cx1_3:PySem.W.findIn K (.ref C_Reader) "levels" = some none)
  (cx1_4:PySem.W.findIn K (.ref C_Reader) "tags" = some none)
  (a1:PySem.W.nsIn K mainGlobals "_law_tags" = some (some (.ref f1))) (l1:K.lookup f1=some ⟨oc1,od1,.func (PySem.W.fnOf "_law_tags" "_law_tags" (ZC ZbC) (Zm ZbC) (Ze ZbC) .none kV1 dc1 pm1 an1 cd1 ct1),sl1⟩) (c1:PySem.W.codeIn K cd1 "_law_tags" = true) (k1:PySem.W.keepIn K (.ref f1)=true)
  (a2:PySem.W.nsIn K mainGlobals "_law_cell_at" = some (some (.ref f2))) (l2:K.lookup f2=some ⟨oc2,od2,.func (PySem.W.fnOf "_law_cell_at" "_law_cell_at" (ZC ZaD) (Zm ZaD) (Ze ZaD) .none kV2 dc2 pm2 an2 cd2 ct2),sl2⟩) (c2:PySem.W.codeIn K cd2 "_law_cell_at" = true) (k2:PySem.W.keepIn K (.ref f2)=true)
  (a3:PySem.W.nsIn K mainGlobals "_law_numbers" = some (some (.ref f3))) (l3:K.lookup f3=some ⟨oc3,od3,.func (PySem.W.fnOf "_law_numbers" "_law_numbers" (ZC ZaC) (Zm ZaC) (Ze ZaC) .none kV3 dc3 pm3 an3 cd3 ct3),sl3⟩) (c3:PySem.W.codeIn K cd3 "_law_numbers" = true) (k3:PySem.W.keepIn K (.ref f3)=true)
  (a4:PySem.W.nsIn K mainGlobals "_law_paths" = some (some (.ref f4))) (l4:K.lookup f4=some ⟨oc4,od4,.func (PySem.W.fnOf "_law_paths" "_law_paths" (ZC Za0) (Zm Za0) (Ze Za0) .none kV4 dc4 pm4 an4 cd4 ct4),sl4⟩) (c4:PySem.W.codeIn K cd4 "_law_paths" = true) (k4:PySem.W.keepIn K (.ref f4)=true)
  (a5:PySem.W.nsIn K mainGlobals "_law_shape" = some (some (.ref f5))) (l5:K.lookup f5=some ⟨oc5,od5,.func (PySem.W.fnOf "_law_shape" "_law_shape" (ZC Zba) (Zm Zba) (Ze Zba) .none kV5 dc5 pm5 an5 cd5 ct5),sl5⟩) (c5:PySem.W.codeIn K cd5 "_law_shape" = true) (k5:PySem.W.keepIn K (.ref f5)=true)
  (a6:PySem.W.nsIn K mainGlobals "_law_alive" = some (some (.ref f6))) (l6:K.lookup f6=some ⟨oc6,od6,.func (PySem.W.fnOf "_law_alive" "_law_alive" (ZC Za1) (Zm Za1) (Ze Za1) .none kV6 dc6 pm6 an6 cd6 ct6),sl6⟩) (c6:PySem.W.codeIn K cd6 "_law_alive" = true) (k6:PySem.W.keepIn K (.ref f6)=true)
  (a7:PySem.W.nsIn K mainGlobals "live_kinds" = some (some (.ref f7))) (l7:K.lookup f7=some ⟨oc7,od7,.func (PySem.W.fnOf "live_kinds" "live_kinds" (ZC Zaf) (Zm Zaf) (Ze Zaf) .none kV7 dc7 pm7 an7 cd7 ct7),sl7⟩) (c7:PySem.W.codeIn K cd7 "live_kinds" = true) (k7:PySem.W.keepIn K (.ref f7)=true)
  (a8:PySem.W.findIn K (.ref C_Reader) "__init__" = some (some (.ref f8))) (l8:K.lookup f8=some ⟨oc8,od8,.func (PySem.W.fnOf "__init__" "Reader.__init__" (ZC ZD) (Zm ZD) (Ze ZD) .none kV8 dc8 pm8 an8 cd8 ct8),sl8⟩) (c8:PySem.W.codeIn K cd8 "Reader.__init__" = true) (k8:PySem.W.keepIn K (.ref f8)=true) (n8:PySem.W.isFn K (.ref f8)=true)
  (a9:PySem.W.nsIn K mainGlobals "_law_word" = some (some (.ref f9))) (l9:K.lookup f9=some ⟨oc9,od9,.func (PySem.W.fnOf "_law_word" "_law_word" (ZC ZbF) (Zm ZbF) (Ze ZbF) .none kV9 dc9 pm9 an9 cd9 ct9),sl9⟩) (c9:PySem.W.codeIn K cd9 "_law_word" = true) (k9:PySem.W.keepIn K (.ref f9)=true)
  (a10:PySem.W.findIn K (.ref C_Reader) "ended" = some (some (.ref f10))) (l10:K.lookup f10=some ⟨oc10,od10,.func (PySem.W.fnOf "ended" "Reader.ended" (ZC Z3) (Zm Z3) (Ze Z3) .none kV10 dc10 pm10 an10 cd10 ct10),sl10⟩) (c10:PySem.W.codeIn K cd10 "Reader.ended" = true) (k10:PySem.W.keepIn K (.ref f10)=true) (n10:PySem.W.isFn K (.ref f10)=true)
  (a11:PySem.W.findIn K (.ref C_Reader) "goes_on" = some (some (.ref f11))) (l11:K.lookup f11=some ⟨oc11,od11,.func (PySem.W.fnOf "goes_on" "Reader.goes_on" (ZC Zz) (Zm Zz) (Ze Zz) .none kV11 dc11 pm11 an11 cd11 ct11),sl11⟩) (c11:PySem.W.codeIn K cd11 "Reader.goes_on" = true) (k11:PySem.W.keepIn K (.ref f11)=true) (n11:PySem.W.isFn K (.ref f11)=true)
  (a12:PySem.W.nsIn K mainGlobals "_law_first_ones" = some (some (.ref f12))) (l12:K.lookup f12=some ⟨oc12,od12,.func (PySem.W.fnOf "_law_first_ones" "_law_first_ones" (ZC Zaa) (Zm Zaa) (Ze Zaa) .none kV12 dc12 pm12 an12 cd12 ct12),sl12⟩) (c12:PySem.W.codeIn K cd12 "_law_first_ones" = true) (k12:PySem.W.keepIn K (.ref f12)=true)
  (a13:PySem.W.findIn K (.ref C_Reader) "height" = some (some (.ref f13))) (l13:K.lookup f13=some ⟨oc13,od13,.func (PySem.W.fnOf "height" "Reader.height" (ZC Z6) (Zm Z6) (Ze Z6) .none kV13 dc13 pm13 an13 cd13 ct13),sl13⟩) (c13:PySem.W.codeIn K cd13 "Reader.height" = true) (k13:PySem.W.keepIn K (.ref f13)=true) (n13:PySem.W.isFn K (.ref f13)=true)
  (a14:PySem.W.nsIn K mainGlobals "_law_whole" = some (some (.ref f14))) (l14:K.lookup f14=some ⟨oc14,od14,.func (PySem.W.fnOf "_law_whole" "_law_whole" (ZC Zbb) (Zm Zbb) (Ze Zbb) .none kV14 dc14 pm14 an14 cd14 ct14),sl14⟩) (c14:PySem.W.codeIn K cd14 "_law_whole" = true) (k14:PySem.W.keepIn K (.ref f14)=true)
  (a15:PySem.W.nsIn K mainGlobals "_law_same_level" = some (some (.ref f15))) (l15:K.lookup f15=some ⟨oc15,od15,.func (PySem.W.fnOf "_law_same_level" "_law_same_level" (ZC Zac) (Zm Zac) (Ze Zac) .none kV15 dc15 pm15 an15 cd15 ct15),sl15⟩) (c15:PySem.W.codeIn K cd15 "_law_same_level" = true) (k15:PySem.W.keepIn K (.ref f15)=true)
  (a16:PySem.W.nsIn K mainGlobals "_law_same_pile" = some (some (.ref f16))) (l16:K.lookup f16=some ⟨oc16,od16,.func (PySem.W.fnOf "_law_same_pile" "_law_same_pile" (ZC Zak) (Zm Zak) (Ze Zak) .none kV16 dc16 pm16 an16 cd16 ct16),sl16⟩) (c16:PySem.W.codeIn K cd16 "_law_same_pile" = true) (k16:PySem.W.keepIn K (.ref f16)=true)
  (a17:PySem.W.findIn K (.ref C_Reader) "pile" = some (some (.ref f17))) (l17:K.lookup f17=some ⟨oc17,od17,.func (PySem.W.fnOf "pile" "Reader.pile" (ZC Zam) (Zm Zam) (Ze Zam) .none kV17 dc17 pm17 an17 cd17 ct17),sl17⟩) (c17:PySem.W.codeIn K cd17 "Reader.pile" = true) (k17:PySem.W.keepIn K (.ref f17)=true) (n17:PySem.W.isFn K (.ref f17)=true)
  (a18:PySem.W.nsIn K mainGlobals "_law_stands" = some (some (.ref f18))) (l18:K.lookup f18=some ⟨oc18,od18,.func (PySem.W.fnOf "_law_stands" "_law_stands" (ZC ZaW) (Zm ZaW) (Ze ZaW) .none kV18 dc18 pm18 an18 cd18 ct18),sl18⟩) (c18:PySem.W.codeIn K cd18 "_law_stands" = true) (k18:PySem.W.keepIn K (.ref f18)=true)
  (a19:PySem.W.findIn K (.ref C_Reader) "ways_from" = some (some (.ref f19))) (l19:K.lookup f19=some ⟨oc19,od19,.func (PySem.W.fnOf "ways_from" "Reader.ways_from" (ZC Zw) (Zm Zw) (Ze Zw) .none kV19 dc19 pm19 an19 cd19 ct19),sl19⟩) (c19:PySem.W.codeIn K cd19 "Reader.ways_from" = true) (k19:PySem.W.keepIn K (.ref f19)=true) (n19:PySem.W.isFn K (.ref f19)=true)
  (a20:PySem.W.findIn K (.ref C_Reader) "take_end" = some (some (.ref f20))) (l20:K.lookup f20=some ⟨oc20,od20,.func (PySem.W.fnOf "take_end" "Reader.take_end" (ZC ZF) (Zm ZF) (Ze ZF) .none kV20 dc20 pm20 an20 cd20 ct20),sl20⟩) (c20:PySem.W.codeIn K cd20 "Reader.take_end" = true) (k20:PySem.W.keepIn K (.ref f20)=true) (n20:PySem.W.isFn K (.ref f20)=true)
  (a21:PySem.W.findIn K (.ref C_Reader) "take_tag" = some (some (.ref f21))) (l21:K.lookup f21=some ⟨oc21,od21,.func (PySem.W.fnOf "take_tag" "Reader.take_tag" (ZC ZG) (Zm ZG) (Ze ZG) .none kV21 dc21 pm21 an21 cd21 ct21),sl21⟩) (c21:PySem.W.codeIn K cd21 "Reader.take_tag" = true) (k21:PySem.W.keepIn K (.ref f21)=true) (n21:PySem.W.isFn K (.ref f21)=true)
  (a22:PySem.W.findIn K (.ref C_Reader) "take" = some (some (.ref f22))) (l22:K.lookup f22=some ⟨oc22,od22,.func (PySem.W.fnOf "take" "Reader.take" (ZC Zal) (Zm Zal) (Ze Zal) .none kV22 dc22 pm22 an22 cd22 ct22),sl22⟩) (c22:PySem.W.codeIn K cd22 "Reader.take" = true) (k22:PySem.W.keepIn K (.ref f22)=true) (n22:PySem.W.isFn K (.ref f22)=true)
  (a23:PySem.W.nsIn K mainGlobals "law" = some (some (.ref f23))) (l23:K.lookup f23=some ⟨oc23,od23,.func (PySem.W.fnOf "law" "law" (ZC ZaI) (Zm ZaI) (Ze ZaI) .none kV23 dc23 pm23 an23 cd23 ct23),sl23⟩) (c23:PySem.W.codeIn K cd23 "law" = true) (k23:PySem.W.keepIn K (.ref f23)=true)
  (z0:PySem.W.nsIn K mainGlobals "bool" = some none) (z1:PySem.W.nsIn K mainGlobals "dict" = some none) (z2:PySem.W.nsIn K mainGlobals "int" = some none) (z3:PySem.W.nsIn K mainGlobals "isinstance" = some none) (z4:PySem.W.nsIn K mainGlobals "len" = some none) (z5:PySem.W.nsIn K mainGlobals "list" = some none) (z6:PySem.W.nsIn K mainGlobals "max" = some none) (z7:PySem.W.nsIn K mainGlobals "range" = some none) (z8:PySem.W.nsIn K mainGlobals "set" = some none) (z9:PySem.W.nsIn K mainGlobals "sorted" = some none) (z10:PySem.W.nsIn K mainGlobals "str" = some none) (z11:PySem.W.nsIn K mainGlobals "tuple" = some none) :
  ∃fd:FuncData,(∀(s:Shared)(v:Value),BindsTo s fd ⟨[v],[]⟩ [("_law_script",v)])/\∀base:Heap,K.In base->base.Ns mainGlobals mg->FnOk l.prog w K mg base CX0 5 fa fd ["_law_script"] (Fg.ZiO K):=by
 have e:=hfa.symm.trans (PySem.W.mg_of X G a23);cases e;have B:∀x∈ZcF,mg x=none:=List.forall_mem_cons.mpr ⟨PySem.W.mg_none_of X G z0,List.forall_mem_cons.mpr ⟨PySem.W.mg_none_of X G z1,List.forall_mem_cons.mpr ⟨PySem.W.mg_none_of X G z2,List.forall_mem_cons.mpr ⟨PySem.W.mg_none_of X G z3,List.forall_mem_cons.mpr ⟨PySem.W.mg_none_of X G z4,List.forall_mem_cons.mpr ⟨PySem.W.mg_none_of X G z5,List.forall_mem_cons.mpr ⟨PySem.W.mg_none_of X G z6,List.forall_mem_cons.mpr ⟨PySem.W.mg_none_of X G z7,List.forall_mem_cons.mpr ⟨PySem.W.mg_none_of X G z8,List.forall_mem_cons.mpr ⟨PySem.W.mg_none_of X G z9,List.forall_mem_cons.mpr ⟨PySem.W.mg_none_of X G z10,List.forall_mem_cons.mpr ⟨PySem.W.mg_none_of X G z11,List.forall_mem_nil _⟩⟩⟩⟩⟩⟩⟩⟩⟩⟩⟩⟩;have F1:=Zai (st:=ZbC) l1 c1 k1;have b1:=F1.binds (ps:=["_law_cell"]) fun _ _ _ _ _ _ us hl=>by obtain⟨_,rfl⟩:=Zix hl;rfl
 have F2:=Zai (st:=ZaD) l2 c2 k2;have b2:=F2.binds (ps:=["_law_script","_law_k"]) fun _ _ _ _ _ _ us hl=>by obtain⟨_,_,rfl⟩:=Ziw hl;rfl
 have F3:=Zai (st:=ZaC) l3 c3 k3;have b3:=F3.binds (ps:=["_law_script","_law_first","_law_many"]) fun _ _ _ _ _ _ us hl=>by obtain⟨_,_,_,rfl⟩:=Zk1 hl;rfl
 have F4:=Zai (st:=Za0) l4 c4 k4;have b4:=F4.binds (ps:=["_law_first","_law_many","_law_tags_here","_law_numbers_here"]) fun _ _ _ _ _ _ us hl=>by obtain⟨_,_,_,_,rfl⟩:=ZlY hl;rfl
 have F5:=Zai (st:=Zba) l5 c5 k5;have b5:=F5.binds (ps:=["_law_script","_law_tags_here"]) fun _ _ _ _ _ _ us hl=>by obtain⟨_,_,rfl⟩:=Ziw hl;rfl
 have F6:=Zai (st:=Za1) l6 c6 k6;have b6:=F6.binds (ps:=["_law_shape_here"]) fun _ _ _ _ _ _ us hl=>by obtain⟨_,rfl⟩:=Zix hl;rfl
 have F7:=Zai (st:=Zaf) l7 c7 k7;have b7:=F7.binds (ps:=["form"]) fun _ _ _ _ _ _ us hl=>by obtain⟨_,rfl⟩:=Zix hl;rfl
 have F8:=Zai (st:=ZD) l8 c8 k8;have b8:=F8.binds (ps:=["self","form"]) fun _ _ _ _ _ _ us hl=>by obtain⟨_,_,rfl⟩:=Ziw hl;rfl
 have F9:=Zai (st:=ZbF) l9 c9 k9;have b9:=F9.binds (ps:=["_law_tags_here","_law_number"]) fun _ _ _ _ _ _ us hl=>by obtain⟨_,_,rfl⟩:=Ziw hl;rfl
 have F10:=Zai (st:=Z3) l10 c10 k10;have b10:=F10.binds (ps:=["self"]) fun _ _ _ _ _ _ us hl=>by obtain⟨_,rfl⟩:=Zix hl;rfl
 have F11:=Zai (st:=Zz) l11 c11 k11;have b11:=F11.binds (ps:=["self"]) fun _ _ _ _ _ _ us hl=>by obtain⟨_,rfl⟩:=Zix hl;rfl
 have F12:=Zai (st:=Zaa) l12 c12 k12;have b12:=F12.binds (ps:=["_law_reader","_law_paths_here","_law_level"]) fun _ _ _ _ _ _ us hl=>by obtain⟨_,_,_,rfl⟩:=Zk1 hl;rfl
 have F13:=Zai (st:=Z6) l13 c13 k13;have b13:=F13.binds (ps:=["self"]) fun _ _ _ _ _ _ us hl=>by obtain⟨_,rfl⟩:=Zix hl;rfl
 have F14:=Zai (st:=Zbb) l14 c14 k14;have b14:=F14.binds (ps:=["_law_found"]) fun _ _ _ _ _ _ us hl=>by obtain⟨_,rfl⟩:=Zix hl;rfl
 have F15:=Zai (st:=Zac) l15 c15 k15;have b15:=F15.binds (ps:=["_law_found","_law_due"]) fun _ _ _ _ _ _ us hl=>by obtain⟨_,_,rfl⟩:=Ziw hl;rfl
 have F16:=Zai (st:=Zak) l16 c16 k16;have b16:=F16.binds (ps:=["_law_found","_law_due"]) fun _ _ _ _ _ _ us hl=>by obtain⟨_,_,rfl⟩:=Ziw hl;rfl
 have F17:=Zai (st:=Zam) l17 c17 k17;have b17:=F17.binds (ps:=["self"]) fun _ _ _ _ _ _ us hl=>by obtain⟨_,rfl⟩:=Zix hl;rfl
 have F18:=Zai (st:=ZaW) l18 c18 k18;have b18:=F18.binds (ps:=["_law_reader","_law_levels"]) fun _ _ _ _ _ _ us hl=>by obtain⟨_,_,rfl⟩:=Ziw hl;rfl
 have F19:=Zai (st:=Zw) l19 c19 k19;have b19:=F19.binds (ps:=["self","kind","tag"]) fun _ _ _ _ _ _ us hl=>by obtain⟨_,_,_,rfl⟩:=Zk1 hl;rfl
 have F20:=Zai (st:=ZF) l20 c20 k20;have b20:=F20.binds (ps:=["self"]) fun _ _ _ _ _ _ us hl=>by obtain⟨_,rfl⟩:=Zix hl;rfl
 have F21:=Zai (st:=ZG) l21 c21 k21;have b21:=F21.binds (ps:=["self","tag"]) fun _ _ _ _ _ _ us hl=>by obtain⟨_,_,rfl⟩:=Ziw hl;rfl
 have F22:=Zai (st:=Zal) l22 c22 k22;have b22:=F22.binds (ps:=["self","word"]) fun _ _ _ _ _ _ us hl=>by obtain⟨_,_,rfl⟩:=Ziw hl;rfl
 have F23:=Zai (st:=ZaI) l23 c23 k23;refine⟨PySem.W.fnOf "law" "law" (ZC ZaI) (Zm ZaI) (Ze ZaI) .none kV23 dc23 pm23 an23 cd23 ct23,fun s v=>.of_eq rfl,fun base _ _=>?_⟩;have c_Reader:Fg.RdC K C_Reader:=⟨⟨cp1,ch1,cq1,cs1⟩,cx1_0,cx1_1,cx1_2,cx1_3,cx1_4⟩;have g_l_tags:Has l.prog w K mg base "_law_tags" ["_law_cell"] 1 (Fg.Zfp):=⟨⟨f1,_,Zhj B  F1,b1,k1,PySem.W.mg_of X G a1⟩⟩;have g_l_cell_at:Has l.prog w K mg base "_law_cell_at" ["_law_script","_law_k"] 1 (Fg.Zfc K):=⟨⟨f2,_,ZeJ B  F2,b2,k2,PySem.W.mg_of X G a2⟩⟩;have g_l_numbers:Has l.prog w K mg base "_law_numbers" ["_law_script","_law_first","_law_many"] 2 (Fg.Zgo K):=⟨⟨f3,_,Zek B g_l_cell_at F3,b3,k3,PySem.W.mg_of X G a3⟩⟩;have g_l_paths:Has l.prog w K mg base "_law_paths" ["_law_first","_law_many","_law_tags_here","_law_numbers_here"] 1 (Fg.Zef K):=⟨⟨f4,_,ZgZ B  F4,b4,k4,PySem.W.mg_of X G a4⟩⟩;have g_l_shape:Has l.prog w K mg base "_law_shape" ["_law_script","_law_tags_here"] 3 (Fg.Zd6 K):=⟨⟨f5,_,ZgS B g_l_cell_at g_l_numbers g_l_paths F5,b5,k5,PySem.W.mg_of X G a5⟩⟩;have g_l_alive:Has l.prog w K mg base "_law_alive" ["_law_shape_here"] 1 (K31.ZdR):=⟨⟨f6,_,ZgV B  F6,b6,k6,PySem.W.mg_of X G a6⟩⟩;have g_live_kinds:Has l.prog w K mg base "live_kinds" ["form"] 1 (Fg.ZfF K):=⟨⟨f7,_,Zd9 B  F7,b7,k7,PySem.W.mg_of X G a7⟩⟩;have g_Reader:HasC l.prog w K mg base C_Reader "Reader" ["self","form"] 2 (Fg.Zfv K C_Reader):=⟨⟨f8,_,Zb9 B c_Reader g_live_kinds F8,b8,⟨cm1,a8,n8,ck1⟩,PySem.W.mg_of X G cn1⟩⟩;have g_l_word:Has l.prog w K mg base "_law_word" ["_law_tags_here","_law_number"] 1 (K31.Zd4):=⟨⟨f9,_,Zin B  F9,b9,k9,PySem.W.mg_of X G a9⟩⟩;have g_Reader_ended:HasM l.prog w K mg base C_Reader "ended" ["self"] 1 (Fg.ZcC C_Reader):=⟨⟨f10,_,Zdh B c_Reader  F10,b10,⟨a10,n10,k10⟩⟩⟩;have g_Reader_goes_on:HasM l.prog w K mg base C_Reader "goes_on" ["self"] 2 (Fg.ZfE C_Reader):=⟨⟨f11,_,Zch B c_Reader g_Reader_ended F11,b11,⟨a11,n11,k11⟩⟩⟩;have g_l_first_ones:Has l.prog w K mg base "_law_first_ones" ["_law_reader","_law_paths_here","_law_level"] 3 (K31.ZcS C_Reader):=⟨⟨f12,_,Zc2 B c_Reader g_Reader_goes_on F12,b12,k12,PySem.W.mg_of X G a12⟩⟩;have g_Reader_height:HasM l.prog w K mg base C_Reader "height" ["self"] 1 (K31.ZcZ C_Reader):=⟨⟨f13,_,ZcA B c_Reader  F13,b13,⟨a13,n13,k13⟩⟩⟩;have g_l_whole:Has l.prog w K mg base "_law_whole" ["_law_found"] 1 (K31.Zb8):=⟨⟨f14,_,Zgw B  F14,b14,k14,PySem.W.mg_of X G a14⟩⟩;have g_l_same_level:Has l.prog w K mg base "_law_same_level" ["_law_found","_law_due"] 2 (K31.Zfr):=⟨⟨f15,_,Zc0 B g_l_whole F15,b15,k15,PySem.W.mg_of X G a15⟩⟩;have g_l_same_pile:Has l.prog w K mg base "_law_same_pile" ["_law_found","_law_due"] 3 (K31.Zeb):=⟨⟨f16,_,Zdv B g_l_same_level F16,b16,k16,PySem.W.mg_of X G a16⟩⟩;have g_Reader_pile:HasM l.prog w K mg base C_Reader "pile" ["self"] 1 (K31.ZfH C_Reader):=⟨⟨f17,_,Zdr B c_Reader  F17,b17,⟨a17,n17,k17⟩⟩⟩;have g_l_stands:Has l.prog w K mg base "_law_stands" ["_law_reader","_law_levels"] 4 (K31.Zck C_Reader):=⟨⟨f18,_,Zfi B c_Reader g_Reader_height g_l_whole g_l_same_pile g_Reader_pile F18,b18,k18,PySem.W.mg_of X G a18⟩⟩;have g_Reader_ways_from:HasM l.prog w K mg base C_Reader "ways_from" ["self","kind","tag"] 1 (Fg.ZdN C_Reader):=⟨⟨f19,_,ZbV B c_Reader  F19,b19,⟨a19,n19,k19⟩⟩⟩;have g_Reader_take_end:HasM l.prog w K mg base C_Reader "take_end" ["self"] 2 (Fg.Zh4 C_Reader):=⟨⟨f20,_,Zb5 B c_Reader g_Reader_ended g_Reader_ways_from F20,b20,⟨a20,n20,k20⟩⟩⟩;have g_Reader_take_tag:HasM l.prog w K mg base C_Reader "take_tag" ["self","tag"] 2 (Fg.ZhR C_Reader):=⟨⟨f21,_,Zcb B c_Reader g_Reader_ways_from F21,b21,⟨a21,n21,k21⟩⟩⟩;have g_Reader_take:HasM l.prog w K mg base C_Reader "take" ["self","word"] 3 (Fg.ZfL C_Reader):=⟨⟨f22,_,Zdp B c_Reader g_Reader_take_end g_Reader_take_tag F22,b22,⟨a22,n22,k22⟩⟩⟩;exact ZkD B c_Reader g_l_tags g_l_cell_at g_l_shape g_l_alive g_Reader g_l_numbers g_l_word g_l_first_ones g_l_stands g_Reader_take F23
theorem walk{l:PySem.W.OpenLaw}{q:Program}{loose:List Str}{XP:(Str->Option Value)->Heap->Prop}{YP:World->Heap->Prop}{d:DefRec}{K:Params->PySem.W.Frag}(hn:l.most=some 63)(hdf:d.params.defaults=[])
  (hY:∀(w:World)(h:Heap),YP w h->(K w.params).In h)
  (F:∀(w:World)(mg:Str->Option Value)(fa:Addr)(h:Heap),(K w.params).In h->h.Ns mainGlobals mg->mg d.name=some (.ref fa) ->
   ∃fd:FuncData,(∀(s:Shared)(u:Value),BindsTo s fd ⟨[u],[]⟩ [("_law_script",u)])/\∀base:Heap,(K w.params).In base->base.Ns mainGlobals mg->FnOk l.prog w (K w.params) mg base CX0 5 fa fd ["_law_script"] (Fg.ZiO (K w.params))) :
  PySem.W.WalkO q loose XP YP l.row.toRowW d [] (fun f vs=>PySem.call f vs) :=
 L2.Zh0 (n:=63) (k:=5) (x := "_law_script") (CX:=fun _=>CX0) (sp:=fun w=>Fg.ZiO (K w.params)) hn (by decide) hdf ⟨rfl,by decide,by decide⟩ hY F (fun _ _ a ns hl _ hS=>⟨a,ns,rfl,hS,hl,fun _=>rfl⟩) fun _ _ _ _ _ z=>z
end K31
namespace PySem.W.Fast
def tw4479011123613563507:=0
def tw11066591666123802070:=0
def tw7910915157090826398:=0
def tw10154872546776003744:=0
def tw10217249779946386005:=0
def tw9490977352189512922:=0
def tw11021588770089061673:=0
def tw3927441891451659222:=0
def tw13891376348141399218:=0
def tw15238273794402111816:=0
def tw15700152758507593870:=0
def tw14054515099111631771:=0
def tw11255036186660829186:=0
def tw16390393740848994269:=0
def tw16561138343653372142:=0
def tw13619002696323954985:=0
def tw4481076848686166451:=0
def tw2204593147136429142:=0
def tw3269918755332187651:=0
def tw14916663875057122221:=0
def tw8080644192297355030:=0
def tw8592960575330815524:=0
def tw15898161313451814812:=0
def tw2271945918488795613:=0
def tw15441511976362260319:=0
def tw722349717036598811:=0
def tw4141637678016782882:=0
def tw16346144951987796272:=0
def tw9154563579118948896:=0
def tw15612170616751678474:=0
def tw3530109137261621355:=0
def tw15340628101364601657:=0
def tw14781095157160467908:=0
def tw14298518829064195731:=0
def tw5576031309744498781:=0
def tw752727154286013127:=0
def tw9853059997999426216:=0
def tw11000955187122705750:=0
def tw18316923865942362461:=0
def tw16278311000233599514:=0
def tw5769771781031656671:=0
def tw7458743939643079245:=0
def tw17598013649214980008:=0
def tw10688657578593576558:=0
def tw14267363658988105159:=0
def tw4994700419433295298:=0
def tw13468277139389813587:=0
def tw4524672682378967339:=0
def tw6275481549172076061:=0
def tw2486715662706605658:=0
def tw1334344796543497498:=0
def tw16080389188240607480:=0
def tw13768753401836329378:=0
def tw1810587756997198147:=0
def tw12512428757349649565:=0
def tw3391971536759334383:=0
def tw5950272582909861427:=0
def tw10091864018863334050:=0
def tw11706460450716103078:=0
def tw14496817920480494007:=0
def tw7033654423111660656:=0
def tw15377005940155143610:=0
def tw12725432388111706613:=0
def tw9163282159664579860:=0
def tw8018594035710235933:=0
def tw14547964241694376710:=0
def tw3257598297473652330:=0
def tw666198589638622283:=0
def tw1491641010372100425:=0
def tw11144735865193713482:=0
def tw7179349192256909624:=0
def tw6054695798528983173:=0
def tw17112555184931626370:=0
def tw14491107547626635666:=0
def tw15011776668382772070:=0
def tw5415892297648260841:=0
def tw3771611413975784016:=0
def tw5351536056606827246:=0
def tw597420759162632483:=0
def tw1841362107928997658:=0
def tw3771823871866709707:=0
def tw14835190101701861395:=0
def tw774097041722581261:=0
def tw5759791799668526195:=0
def tw9795305391348889534:=0
def tw7724572129933179741:=0
def tw6673269902153037443:=0
def tw4984580125964709668:=0
def tw13031169860292146328:=0
def tw6801149455126921483:=0
def tw8744064387203018425:=0
def tw16201823372144345990:=0
def tw6828363638715105968:=0
def tw6532641041191296323:=0
def tw3848825033080725222:=0
def tw11691046022794374795:=0
def tw11032782784059132696:=0
def tw10658612839506429588:=0
def tw7947604440444489252:=0
def tw3498014391967847011:=0
def tw13757023016078794225:=0
def tw5161215468418693166:=0
def tw14970250630433286289:=0
def tw3825610971824365673:=0
def tw5033871770750774118:=0
def tw17299842010115652238:=0
def tw6866907077344828606:=0
def tw5935449708191302538:=0
def tw15703569570736076062:=0
def tw2213981596189113739:=0
def tw9846857924495667835:=0
def tw7599821099863120670:=0
def tw9297840097547843075:=0
def tw4742497914758577092:=0
def tw16852632884047941336:=0
def tw14298561517989437139:=0
def tw11020420245762550127:=0
def tw10042876367031936904:=0
def tw18184545306072440851:=0
def tw16918260390364807694:=0
def tw17013405702677490714:=0
def tw7006348807339595341:=0
def tw11976926257712474696:=0
def tw15109236989637765807:=0
def tw14009963047012947132:=0
def tw2809552735392443323:=0
def tw8143677331024691973:=0
def tw17682787621228775199:=0
def tw11161576366003249609:=0
def tw11292219707767453716:=0
def tw2474404094265573229:=0
def tw11427987043131771056:=0
def tw6877143666879456245:=0
def tw3633732951219125297:=0
def tw7572414697586360637:=0
def tw10125310846106882439:=0
def tw743775667212796262:=0
def tw7676865699660345557:=0
def tw7204518515344461687:=0
def tw16872091470953306196:=0
def tw1846491884038506352:=0
def tw12994974666536385908:=0
def tw5796363310545247015:=0
def tw964671081512976535:=0
def tw599894595648796906:=0
def tw10300064556331661292:=0
def tw8101873763404122839:=0
def tw14790188213199109690:=0
def tw248183274629176525:=0
def tw15355073457810494529:=0
def tw6669610578355904536:=0
def tw6119943447347841688:=0
def tw8649444647951071749:=0
def tw4538760209776917046:=0
def tw2231929651642759889:=0
def tw15227198153087291725:=0
def tw15128691694756461150:=0
def tw18172390395910026229:=0
def tw8223036180175770702:=0
def tw7866002994205406135:=0
def tw17459786993871359347:=0
def tw15470362824201751735:=0
def tw14039132669974175073:=0
def tw17477016870490097561:=0
def tw5453306415104487288:=0
def tw1194891923851729648:=0
def tw6353712661697094712:=0
def tw12398810488390436325:=0
def tw12680010408961070514:=0
def tw11111748015898394339:=0
def tw3303713325533687606:=0
def tw8004327578985426079:=0
def tw13496201076948066297:=0
def tw4791518360357266445:=0
def tw9431471565758146868:=0
def tw14596480590250590444:=0
def tw11836727053512018757:=0
def tw17712337734765538491:=0
def tw8849537642684625517:=0
def tw15717253701399613961:=0
def tw7616821908437829436:=0
def tw14863964062269833059:=0
def tw4548791150775418716:=0
def tw3343144550668713762:=0
def tw17347135572019644812:=0
def tw14915569745861072599:=0
def tw8023699710818519601:=0
def tw6869558588268716553:=0
def tw17841003987113944390:=0
def tw2258069471412414310:=0
def tw7287560433636960632:=0
def tw1561461793309770418:=0
def tw13005101968346917937:=0
def tw5473984284196139728:=0
def tw16028835431132954513:=0
def tw13326397470574050904:=0
def tw12782720763326862791:=0
def tw3061555411122850027:=0
def tw5271145094461443979:=0
def tw7908664273342007060:=0
def tw17627938774372484202:=0
def tw16747961928871404169:=0
def tw12791570082461350425:=0
def tw4076199597250507287:=0
def tw4268759533665618382:=0
def tw17099168362742298929:=0
def tw5561937954575538582:=0
def tw16559020635889617996:=0
def tw16063500326691932154:=0
def tw17707551181355609253:=0
def tw11522470442627141776:=0
def tw5950587988317209057:=0
def tw11211618376006299259:=0
end PySem.W.Fast
open PySem PySem.W PyProof.Rows
set_option maxRecDepth 100000 in
set_option maxHeartbeats 0 in
theorem PySem.Challenge.cw_formgrove_k31_first_word_holds : PySem.Challenge.rw_formgrove_k31_first_word.Holds := by
 w_on;o_law;k_head;(case hw=>w_witness2)
 k_fill
 refine K31.walk (l:=PySem.Challenge.rw_formgrove_k31_first_word) rfl rfl (fun w h Y=>PySem.W.kIn_of Y) ?F
 case F =>
  intro w mg fa h KX G hmg;refine' K31.ZkN KX G hmg ?cn1 ?cp1 ?ch1 ?cq1 ?cs1 ?cm1 ?ck1 ?cx1_0 ?cx1_1 ?cx1_2 ?cx1_3 ?cx1_4 ?a1 ?l1 ?c1 ?k1 ?a2 ?l2 ?c2 ?k2 ?a3 ?l3 ?c3 ?k3 ?a4 ?l4 ?c4 ?k4 ?a5 ?l5 ?c5 ?k5 ?a6 ?l6 ?c6 ?k6 ?a7 ?l7 ?c7 ?k7 ?a8 ?l8 ?c8 ?k8 ?n8 ?a9 ?l9 ?c9 ?k9 ?a10 ?l10 ?c10 ?k10 ?n10 ?a11 ?l11 ?c11 ?k11 ?n11 ?a12 ?l12 ?c12 ?k12 ?a13 ?l13 ?c13 ?k13 ?n13 ?a14 ?l14 ?c14 ?k14 ?a15 ?l15 ?c15 ?k15 ?a16 ?l16 ?c16 ?k16 ?a17 ?l17 ?c17 ?k17 ?n17 ?a18 ?l18 ?c18 ?k18 ?a19 ?l19 ?c19 ?k19 ?n19 ?a20 ?l20 ?c20 ?k20 ?n20 ?a21 ?l21 ?c21 ?k21 ?n21 ?a22 ?l22 ?c22 ?k22 ?n22 ?a23 ?l23 ?c23 ?k23 ?z0 ?z1 ?z2 ?z3 ?z4 ?z5 ?z6 ?z7 ?z8 ?z9 ?z10 ?z11
  (case cn1=>k_is)
  (case cp1=>k_is)
  (case ch1=>k_is)
  (case cq1=>k_is)
  (case cs1=>k_is)
  (case cm1=>k_is)
  (case ck1=>k_is)
  (case cx1_0=>k_is)
  (case cx1_1=>k_is)
  (case cx1_2=>k_is)
  (case cx1_3=>k_is)
  (case cx1_4=>k_is)
  (case a1=>k_is)
  (case l1=>k_is)
  (case c1=>k_is)
  (case k1=>k_is)
  (case a2=>k_is)
  (case l2=>k_is)
  (case c2=>k_is)
  (case k2=>k_is)
  (case a3=>k_is)
  (case l3=>k_is)
  (case c3=>k_is)
  (case k3=>k_is)
  (case a4=>k_is)
  (case l4=>k_is)
  (case c4=>k_is)
  (case k4=>k_is)
  (case a5=>k_is)
  (case l5=>k_is)
  (case c5=>k_is)
  (case k5=>k_is)
  (case a6=>k_is)
  (case l6=>k_is)
  (case c6=>k_is)
  (case k6=>k_is)
  (case a7=>k_is)
  (case l7=>k_is)
  (case c7=>k_is)
  (case k7=>k_is)
  (case a8=>k_is)
  (case l8=>k_is)
  (case c8=>k_is)
  (case k8=>k_is)
  (case n8=>k_is)
  (case a9=>k_is)
  (case l9=>k_is)
  (case c9=>k_is)
  (case k9=>k_is)
  (case a10=>k_is)
  (case l10=>k_is)
  (case c10=>k_is)
  (case k10=>k_is)
  (case n10=>k_is)
  (case a11=>k_is)
  (case l11=>k_is)
  (case c11=>k_is)
  (case k11=>k_is)
  (case n11=>k_is)
  (case a12=>k_is)
  (case l12=>k_is)
  (case c12=>k_is)
  (case k12=>k_is)
  (case a13=>k_is)
  (case l13=>k_is)
  (case c13=>k_is)
  (case k13=>k_is)
  (case n13=>k_is)
  (case a14=>k_is)
  (case l14=>k_is)
  (case c14=>k_is)
  (case k14=>k_is)
  (case a15=>k_is)
  (case l15=>k_is)
  (case c15=>k_is)
  (case k15=>k_is)
  (case a16=>k_is)
  (case l16=>k_is)
  (case c16=>k_is)
  (case k16=>k_is)
  (case a17=>k_is)
  (case l17=>k_is)
  (case c17=>k_is)
  (case k17=>k_is)
  (case n17=>k_is)
  (case a18=>k_is)
  (case l18=>k_is)
  (case c18=>k_is)
  (case k18=>k_is)
  (case a19=>k_is)
  (case l19=>k_is)
  (case c19=>k_is)
  (case k19=>k_is)
  (case n19=>k_is)
  (case a20=>k_is)
  (case l20=>k_is)
  (case c20=>k_is)
  (case k20=>k_is)
  (case n20=>k_is)
  (case a21=>k_is)
  (case l21=>k_is)
  (case c21=>k_is)
  (case k21=>k_is)
  (case n21=>k_is)
  (case a22=>k_is)
  (case l22=>k_is)
  (case c22=>k_is)
  (case k22=>k_is)
  (case n22=>k_is)
  (case a23=>k_is)
  (case l23=>k_is)
  (case c23=>k_is)
  (case k23=>k_is)
  (case z0=>k_is)
  (case z1=>k_is)
  (case z2=>k_is)
  (case z3=>k_is)
  (case z4=>k_is)
  (case z5=>k_is)
  (case z6=>k_is)
  (case z7=>k_is)
  (case z8=>k_is)
  (case z9=>k_is)
  (case z10=>k_is)
  (case z11=>k_is)
