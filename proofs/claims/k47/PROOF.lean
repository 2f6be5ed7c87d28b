import PyProof.Rows.All
import Wide.All
import OpenK.AllK
import Wide.FinOn
import Lean
import PyProof.EqAt
import PyProof.EqKinds
import PyProof.TupleCall
import PySem.Challenge.RW_formgrove_k47_forms_too_great
namespace FgM
end FgM
set_option Elab.async false
set_option linter.all false
set_option maxRecDepth 100000
namespace L2
open PySem PySem.Spec PyProof.Rows
abbrev Key:=Sum Int Str
def Zgt:Key->Value->Bool
 | .inl k,v=>Value.isInt k v
 | .inr x,v=>Value.isStrOf x v
def Zml(w:World):Key->Int
 | .inl k=>hashInt k
 | .inr x=>hashStr w x
theorem Zah:∀{k:Key}{v:Value},Zgt k v=true->(∃i t,k=Sum.inl i/\v=Value.int i t)\/(∃x t,k=Sum.inr x/\v=Value.str x t)
 | .inl i,v,h=>by
  obtain⟨t,e⟩:=Value.isInt_shape (k:=i) (v:=v) h;exact .inl ⟨i,t,rfl,e⟩
 | .inr x,v,h=>by
  obtain⟨t,e⟩:=Value.isStrOf_shape (x:=x) (v:=v) h;exact .inr ⟨x,t,rfl,e⟩
theorem ZhS(i:Int)(t:Tok):Zgt (.inl i) (.int i t)=true:=by simp[Zgt,Value.isInt]
theorem Zg9(x:Str)(t:Tok):Zgt (.inr x) (.str x t)=true:=by simp[Zgt,Value.isStrOf]
theorem Zkr(a b:Int):decide ((Sum.inl a:Key)=Sum.inl b)=(a == b):=by
 by_cases e:a=b
 ·subst e;simp
 ·have h : ¬ (Sum.inl a:Key)=Sum.inl b:=fun q=>e (Sum.inl.inj q);rw[decide_eq_false h];exact(beq_eq_false_iff_ne.mpr e).symm
theorem ZkB(a b:Str):decide ((Sum.inr a:Key)=Sum.inr b)=decide (a=b):=by
 by_cases e:a=b
 ·subst e;simp
 ·have h : ¬ (Sum.inr a:Key)=Sum.inr b:=fun q=>e (Sum.inr.inj q);rw[decide_eq_false h,decide_eq_false e]
theorem Zk3(a:Int)(b:Str):decide ((Sum.inl a:Key)=Sum.inr b)=false:=decide_eq_false (fun q=>nomatch q)
theorem Zk5(a:Str)(b:Int):decide ((Sum.inr a:Key)=Sum.inl b)=false:=decide_eq_false (fun q=>nomatch q)
def Zaj(prog:Program)(w:World):PySem.KeyKind prog w Key where
 is:=Zgt
 hash:=Zml w
 inj:=fun v a b ha hb=>by
  rcases Zah ha with⟨i,t,rfl,rfl⟩|⟨x,t,rfl,rfl⟩
  ·rcases Zah hb with⟨j,u,rfl,e⟩|⟨y,u,rfl,e⟩
   ·injection e with e1 _;rw[e1]
   ·exact nomatch e
  ·rcases Zah hb with⟨j,u,rfl,e⟩|⟨y,u,rfl,e⟩
   ·exact nomatch e
   ·injection e with e1 _;rw[e1]
 byValue:=fun k v h=>by
  rcases Zah h with⟨i,t,rfl,rfl⟩|⟨x,t,rfl,rfl⟩ <;> rfl
 pyHash:=fun hv h=>by
  rcases Zah hv with⟨i,t,rfl,rfl⟩|⟨x,t,rfl,rfl⟩
  ·exact wpAny_pyHash_int h
  ·exact wpAny_pyHash_str h
 eqBool:=fun hu hv h=>by
  rcases Zah hu with⟨i,t,rfl,rfl⟩|⟨x,t,rfl,rfl⟩
  ·rcases Zah hv with⟨j,u,rfl,rfl⟩|⟨y,u,rfl,rfl⟩
   ·rw[Zkr] at h;exact wpAny_eqBool_int h
   ·rw[Zk3] at h;exact SeqAt.EqAt.int_str i t y u _ _ _ _ h
  ·rcases Zah hv with⟨j,u,rfl,rfl⟩|⟨y,u,rfl,rfl⟩
   ·rw[Zk5] at h;exact SeqAt.EqAt.str_int x t j u _ _ _ _ h
   ·rw[ZkB] at h;exact wpAny_eqBool_str h
 «strs» := fun k x t v h=>by
  rcases Zah h with⟨i,u,rfl,e⟩|⟨y,u,rfl,e⟩
  ·exact nomatch e
  ·injection e with e1 _;subst e1;cases v <;> rfl
theorem Zfq(prog:Program)(w:World)(i:Int)(t:Tok):(Zaj prog w).is (.inl i) (.int i t)=true:=ZhS i t
theorem Zfs(prog:Program)(w:World)(x:Str)(t:Tok):(Zaj prog w).is (.inr x) (.str x t)=true:=Zg9 x t
inductive V where
 | non|bl (b:Bool)|int (i:Int)|str (x:Str)|byt (b:Array UInt8)|flt (b:UInt64)|ref (a:Addr)|ty (n:String)
 deriving DecidableEq
def RelV:V->Value->Prop
 | .non,u=>u=Value.none
 | .bl b,u=>u=Value.bool b
 | .int i,u=>∃t,u=Value.int i t
 | .str x,u=>∃t,u=Value.str x t
 | .byt b,u=>∃t,u=Value.bytes b t
 | .flt b,u=>∃t,u=Value.float b t
 | .ref a,u=>u=Value.ref a
 | .ty n,u=>u=Value.type n
abbrev Vals:List V->List Value->Prop:=Paired RelV
theorem Vals.length{xs:List V}{us:List Value}(r:Vals xs us):xs.length=us.length:=Paired.length r
theorem Vals.get:∀{xs:List V}{us:List Value}{i:Nat}{x:V},Vals xs us->xs[i]?= some x->∃u,us[i]?= some u/\RelV x u
 | _,_,_,_,.nil,e=>by simp at e
 | _,_,0,_,.cons r _,e=>by simp at e;subst e;exact⟨_,rfl,r⟩
 | _,_,i+1,x,.cons _ t,e=>by
  obtain⟨u,h1,h2⟩:=Vals.get (i:=i) (x:=x) t (by simpa using e);exact⟨u,by simpa using h1,h2⟩
theorem Vals.append:∀{xs ys:List V}{us ws:List Value},Vals xs us->Vals ys ws->Vals (xs++ys) (us++ws)
 | _,_,_,_,.nil,s=>s
 | _,_,_,_,.cons r t,s=>.cons r (Vals.append t s)
theorem Vals.take:∀{xs:List V}{us:List Value}(n:Nat),Vals xs us->Vals (xs.take n) (us.take n)
 | _,_,0,_=>.nil
 | _,_,_+1,.nil=>.nil
 | _,_,n+1,.cons r t=>.cons r (Vals.take n t)
theorem Vals.drop:∀{xs:List V}{us:List Value}(n:Nat),Vals xs us->Vals (xs.drop n) (us.drop n)
 | _,_,0,r=>r
 | _,_,_+1,.nil=>.nil
 | _,_,n+1,.cons _ t=>Vals.drop n t
def ZlQ:Option V->Option Value->Prop
 | some v,some u=>RelV v u
 | none,none=>True
 | _,_=>False
def KV{κ : Type}:List (κ × V)->List (κ × Value)->Prop:=Paired fun(p : κ × V)(q : κ × Value)=>p.1=q.1/\RelV p.2 q.2
def kV:Key->V
 | .inl i=>.int i
 | .inr x=>.str x
inductive HO where
 | lst (xs:List V)
 | tup (xs:List V)
 | dK (kvs:List (Key×V))|dT (kvs:List (List Key×V))
 | set (S:Int->Bool) (n:Nat)
 | ins (C dx:Addr) (fs:List (Str×V))
 | own (x:Addr)
 | xd (fs:List (Str×V))
 | met (f x:Addr)
 | rng (lo hi:Int)
 | frz (o:Obj) (u:HO)
 | tbl (ps:Array Value)
 | ext (φ : Heap->Prop)
abbrev Hp:=Addr->Option HO
def upd(H:Hp)(a:Addr)(o:HO):Hp:=fun b=>if b=a then some o else H b
theorem Zc{H:Hp}{a:Addr}{o:HO}:upd H a o a=some o:=by unfold upd;rw[if_pos rfl]
theorem ZR{H:Hp}{a b:Addr}{o:HO}(h:b≠a):upd H a o b=H b:=by unfold upd;rw[if_neg h]
theorem Zx{H:Hp}{a b:Addr}{o:HO}(h:H a=some o)(h':H b=none):a≠b:=by
 intro e;subst e;rw[h] at h';cases h'
section
variable(P:Program)(w:World)
def ZaJ(H:Hp)(h:Heap)(a:Addr):HO->Prop
 | .lst xs=>xs.length<=sizeLine/\∃(its:List Value)(n:Nat),Vals xs its/\h.get? a=some { cls:=.type "list",data:=.seq its.toArray n }
 | .tup xs=>xs.length<=sizeLine/\∃its:List Value,Vals xs its/\IsTup h a its.toArray
 | .dK kvs=>kvs.length<=sizeLine/\(a == sysModules)=false/\∃vs,KV kvs vs/\h.DictOf (Zaj P w) a vs
 | .dT kvs=>kvs.length<=sizeLine/\(a == sysModules)=false/\∃xs:List (List Key×Addr×Value),
   Paired (fun(p:List Key×V)(q:List Key×Addr×Value)=>p.1=q.1/\H q.2.1=some (.tup (p.1.map kV))/\RelV p.2 q.2.2) kvs xs /\
   ∃o es ep,h.get? a=some o/\o.ExactDict/\o.data=.dict es ep/\es.toList=xs.map (entryOfKey (tupleKind (Zaj P w)))/\(xs.map (·.1)).Nodup
 | .set S n=>h.SetOf (intKind P w) a S n
 | .ins C dx fs=>H dx=some (.own a)/\fs.length<=1000/\dx≠a/\h.get? a=some (PySem.W.instObj C dx) /\
   ∃mA,h.Ns1 dx mA/\(∀f,ZlQ (fs.lookup f) (mA f))/\PySem.Within mA (fs.map (·.1))
 | .own _=>∃o,h.get? a=some o
 | .xd fs=>∃mA,h.Ns1 a mA/\∀f,ZlQ (fs.lookup f) (mA f)
 | .rng lo hi=>∃t u v,h.get? a=some { cls:=.type "range",data:=.fields #[.int lo t,.int hi u,.int 1 v] }
 | .frz o u=>h.get? a=some o/\ZaJ H h a u
 | .tbl ps=>h.get? a=some { cls:=.none,data:=.fields ps }
 | .met f x=>h.get? a=some (PySem.W.methodObj (.ref f) (.ref x))
 | .ext φ=>φ h/\(∃o,h.get? a=some o)/\∀h1 h2:Heap,φ h1->(∀o,h1.get? a=some o->h2.get? a=some o) -> φ h2
def HOk(H:Hp)(h:Heap):Prop := ∀a o,H a=some o->ZaJ P w H h a o
end
section
variable{P:Program}{w:World}{H H':Hp}{h h':Heap}{a:Addr}{o:HO}
theorem ZaJ.lt(x:ZaJ P w H h a o):a<h.objs.size:=by
 cases o with
 | lst xs=>obtain⟨_,_,_,_,e⟩:=x;exact Heap.lt_size e
 | tup xs=>obtain⟨_,_,_,p⟩:=x;exact p.lt
 | dK kvs=>obtain⟨_,_,_,_,o,_,_,e,_⟩:=x;exact Heap.lt_size e
 | dT kvs=>obtain⟨_,_,_,_,o,_,_,e,_⟩:=x;exact Heap.lt_size e
 | set S n=>obtain⟨o,_,_,_,e,_⟩:=x;exact Heap.lt_size e
 | ins C dx fs=>obtain⟨_,_,_,e,_⟩:=x;exact Heap.lt_size e
 | own y=>obtain⟨_,e⟩:=x;exact Heap.lt_size e
 | xd fs=>obtain⟨_,⟨_,_,_,e,_⟩,_⟩:=x;exact Heap.lt_size e
 | rng lo hi=>obtain⟨_,_,_,e⟩:=x;exact Heap.lt_size e
 | frz ob u=>obtain⟨e,_⟩:=x;exact Heap.lt_size e
 | tbl ps=>exact Heap.lt_size (show h.get? a=some _ from x)
 | met f y=>exact Heap.lt_size (show h.get? a=some _ from x)
 | ext φ=>obtain⟨_,⟨_,e⟩,_⟩:=x;exact Heap.lt_size e
theorem Paired.mapP{α β : Type}{F G : α -> β -> Prop}:∀{l₁ : List α}{l₂ : List β},Paired F l₁ l₂ -> (∀a b,F a b->G a b)->Paired G l₁ l₂
 | _,_,.nil,_=>.nil
 | _,_,.cons r t,f=>.cons (f _ _ r) (Paired.mapP t f)
theorem ZaJ.stay(x:ZaJ P w H h a o)(k:∀b u,(b=a\/H b=some (.own a))->h.get? b=some u->h'.get? b=some u)
  (ho:∀b,H b=some (.own a)->H' b=some (.own a)) (ht:∀b xs,H b=some (.tup xs)->H' b=some (.tup xs)):ZaJ P w H' h' a o:=by
 induction o with
 | lst xs=>obtain⟨z,its,n,r,e⟩:=x;exact⟨z,its,n,r,k _ _ (.inl rfl) e⟩
 | tup xs=>obtain⟨z,its,r,ob,e,c⟩:=x;exact⟨z,its,r,ob,k _ _ (.inl rfl) e,c⟩
 | dK kvs=>obtain⟨z,y,vs,r,ob,es,ep,e,c⟩:=x;exact⟨z,y,vs,r,ob,es,ep,k _ _ (.inl rfl) e,c⟩
 | dT kvs =>
  obtain⟨z,y,xs,r,ob,es,ep,e,c⟩:=x;exact⟨z,y,xs,Paired.mapP r fun p q z=>⟨z.1,ht _ _ z.2.1,z.2.2⟩,ob,es,ep,k _ _ (.inl rfl) e,c⟩
 | set S n=>obtain⟨ob,es,ep,t,e,c⟩:=x;exact⟨ob,es,ep,t,k _ _ (.inl rfl) e,c⟩
 | ins C dx fs =>
  obtain⟨d,z,ne,e,mA,⟨od,es,ep,e2,c⟩,r⟩:=x;exact⟨ho _ d,z,ne,k _ _ (.inl rfl) e,mA,⟨od,es,ep,k _ _ (.inr d) e2,c⟩,r⟩
 | own y=>obtain⟨ob,e⟩:=x;exact⟨ob,k _ _ (.inl rfl) e⟩
 | xd fs=>obtain⟨mA,⟨od,es,ep,e,c⟩,r⟩:=x;exact⟨mA,⟨od,es,ep,k _ _ (.inl rfl) e,c⟩,r⟩
 | rng lo hi=>obtain⟨t,u,v,e⟩:=x;exact⟨t,u,v,k _ _ (.inl rfl) e⟩
 | frz ob u ih=>obtain⟨e,q⟩:=x;exact⟨k _ _ (.inl rfl) e,ih q⟩
 | tbl ps =>
  have e:h.get? a=some { cls:=.none,data:=.fields ps }:=x;show h'.get? a=some { cls:=.none,data:=.fields ps };exact k a _ (.inl rfl) e
 | met f y =>
  have e:h.get? a=some (PySem.W.methodObj (.ref f) (.ref y)):=x;show h'.get? a=some (PySem.W.methodObj (.ref f) (.ref y));exact k a _ (.inl rfl) e
 | ext φ=>obtain⟨p,⟨o,e⟩,st⟩:=x;exact⟨st _ _ p fun o q=>k _ _ (.inl rfl) q,⟨o,k _ _ (.inl rfl) e⟩,st⟩
theorem HOk.lt(x:HOk P w H h)(e:H a=some o):a<h.objs.size:=(x a o e).lt
theorem HOk.fresh(x:HOk P w H h)(e:h.objs.size<=a):H a=none:=by
 cases q:H a with
 | none=>rfl
 | some u=>exact absurd (Nat.lt_of_lt_of_le (x.lt q) e) (Nat.lt_irrefl _)
theorem HOk.kept(x:HOk P w H h)(k:∀b u,h.get? b=some u->h'.get? b=some u):HOk P w H h':=fun a o e =>
 (x a o e).stay (fun b u _ q=>k b u q) (fun _ q=>q) fun _ _ q=>q
theorem HOk.laid(x:HOk P w H h)(k:∀b u,h.get? b=some u->h'.get? b=some u)(hp:h.objs.size<=a)(new:ZaJ P w (upd H a o) h' a o):HOk P w (upd H a o) h':=fun b u e=>by
 have hn:=x.fresh hp;by_cases hb:b=a
 ·subst hb;rw[Zc] at e;cases e;exact new
 ·rw[ZR hb] at e;exact(x b u e).stay (fun c v _ q=>k c v q) (fun c q=>by rw[ZR (Zx q hn)];exact q) fun c xs q=>by rw[ZR (Zx q hn)];exact q
end
def Rd(H:Hp)(a:Addr)(u:HO):Prop:=H a=some u\/∃o,H a=some (.frz o u)
theorem Rd.ok{P:Program}{w:World}{H:Hp}{h:Heap}{a:Addr}{u:HO}(r:Rd H a u)(x:HOk P w H h):ZaJ P w H h a u:=by
 rcases r with r|⟨o,r⟩
 ·exact x a u r
 ·obtain⟨_,q⟩:=x a _ r;exact q
def Mut:Option HO->Prop
 | some (.lst _)=>True
 | some (.dK _)=>True
 | some (.dT _)=>True
 | some (.set _ _)=>True
 | some (.ins _ _ _)=>True
 | some (.ext _)=>True
 | _=>False
section
variable{P:Program}{w:World}{H:Hp}{h h':Heap}{x e:Addr}{o':HO}
theorem HOk.write(ok:HOk P w H h)(mu:Mut (H x))(he:e=x\/H e=some (.own x))(k:∀b u,b≠e->h.get? b=some u->h'.get? b=some u)(heo:∃u,h'.get? e=some u)
  (new:ZaJ P w (upd H x o') h' x o'):HOk P w (upd H x o') h':=fun b u q=>by
 have nown:∀c y,H c=some (.own y)->c≠x:=fun c y r z=>by subst z;rw[r] at mu;exact mu
 have ntup:∀c xs,H c=some (.tup xs)->c≠x:=fun c xs r z=>by subst z;rw[r] at mu;exact mu
 by_cases hb:b=x
 ·subst hb;rw[Zc] at q;cases q;exact new
 ·rw[ZR hb] at q;by_cases hbe:b=e
  ·have q':H b=some (.own x):=by
    rcases he with z|z
    ·exact absurd (hbe.trans z) hb
    ·rw[hbe];exact z
   rw[q] at q';cases q';obtain⟨v,hv⟩:=heo;exact⟨v,by rw[hbe];exact hv⟩
  ·refine(ok b u q).stay (fun c v hc r=>k c v ?_ r) (fun c r=>by rw[ZR (nown c b r)];exact r) fun c xs r=>by rw[ZR (ntup c xs r)];exact r
   rcases hc with rfl|hc
   ·exact hbe
   ·rintro rfl;rcases he with z|z
    ·exact nown c b hc z
    ·rw[hc] at z;cases z;exact hb rfl
end
structure Un(fs ex:List Addr)(H H':Hp)(h h':Heap):Prop where
 keep:∀b o,h.get? b=some o->H b=none->b∉fs->b∉ex->h'.get? b=some o
 slot:∀b o,h.get? b=some o->H b=none->b∈fs->b∉ex->∃sl,h'.get? b=some { o with slots:=sl }
 free:∀b o,h.get? b=some o->H b=none->b∉ex->H' b=none
 there:∀b o,h.get? b=some o->b∉ex->∃o',h'.get? b=some o'
 tups:∀b xs,H b=some (.tup xs)->H' b=some (.tup xs)
 frzs:∀b o u,H b=some (.frz o u)->H' b=some (.frz o u)
 tbls:∀b ps,H b=some (.tbl ps)->∃more,H' b=some (.tbl (ps++more))
section
variable{fs fs' ex ex':List Addr}{H H1 H2:Hp}{h h1 h2 h':Heap}{a x e:Addr}{o:HO}
theorem Un.any(u:Un fs ex H H1 h h1){b:Addr}{ob:Obj}(q:h.get? b=some ob)(n:H b=none)(hx:b∉ex):∃sl,h1.get? b=some { ob with slots:=sl }:=by
 by_cases hb:b∈fs
 ·exact u.slot b ob q n hb hx
 ·exact⟨ob.slots,u.keep b ob q n hb hx⟩
theorem Un.kept(k:∀b u,h.get? b=some u->h'.get? b=some u):Un fs ex H H h h' :=
 ⟨fun b ob q _ _ _=>k b ob q,fun b ob q _ _ _=>⟨ob.slots,k b ob q⟩,fun _ _ _ n _=>n,fun b ob q _=>⟨ob,k b ob q⟩,fun _ _ q=>q,fun _ _ _ q=>q,fun _ ps q=>⟨#[],by rw[q];simp⟩⟩
theorem Un.refl:Un fs ex H H h h:=Un.kept fun _ _ q=>q
theorem Un.laid(k:∀b u,h.get? b=some u->h'.get? b=some u)(hp:h.objs.size<=a)(hn:H a=none):Un fs ex H (upd H a o) h h' where
 keep:=fun b u q _ _ _=>k b u q
 slot:=fun b u q _ _ _=>⟨u.slots,k b u q⟩
 free:=fun b u q n _=>by rw[ZR (Nat.ne_of_lt (Nat.lt_of_lt_of_le (Heap.lt_size q) hp))];exact n
 there:=fun b u q _=>⟨u,k b u q⟩
 tups:=fun b xs q=>by rw[ZR (Zx q hn)];exact q
 frzs:=fun b u xs q=>by rw[ZR (Zx q hn)];exact q
 tbls:=fun b ps q=>⟨#[],by rw[ZR (Zx q hn),q];simp⟩
theorem Un.write(mu:Mut (H x))(he:e=x\/H e=some (.own x))(k:∀b u,b≠e->h.get? b=some u->h'.get? b=some u)(heo:∃u,h'.get? e=some u):Un fs ex H (upd H x o) h h':=by
 have hx:∀b,H b=none->b≠x:=fun b n z=>by subst z;rw[n] at mu;exact mu
 have hb:∀b,H b=none->b≠e:=fun b n z=>by
  subst z;rcases he with r|r
  ·exact hx b n r
  ·rw[n] at r;cases r
 have hm:∀b u,H b=some u -> ¬ Mut (some u)->b≠x:=fun b u q nm z=>by subst z;rw[q] at mu;exact nm mu
 refine⟨fun b u q n _ _=>k b u (hb b n) q,fun b u q n _ _=>⟨u.slots,k b u (hb b n) q⟩,fun b u q n _=>by rw[ZR (hx b n)];exact n,fun b u q _=>?_,
  fun b xs q=>by rw[ZR (hm b _ q fun z=>z)];exact q,fun b u xs q=>by rw[ZR (hm b _ q fun z=>z)];exact q,fun b ps q=>⟨#[],by rw[ZR (hm b _ q fun z=>z),q];simp⟩⟩
 by_cases hbe:b=e
 ·subst hbe;exact heo
 ·exact⟨u,k b u hbe q⟩
end
def trk(h:Heap)(H:Hp):List Addr:=(List.range h.objs.size).filter fun a=>(H a).isSome
def Zit(h:Heap)(H:Hp):Heap:=PySem.W.hideAll h (trk h H)
theorem Zh9(h:Heap)(H:Hp):(Zit h H).objs.size=h.objs.size:=PySem.W.hideAll_size _ _
theorem ZiV{h:Heap}{H:Hp}{b:Addr}{o:Obj}(e:h.get? b=some o)(n:H b=none):(Zit h H).get? b=some o :=
 PySem.W.hideAll_get _ e fun hm=>by
  have q:(H b).isSome=true:=(List.mem_filter.mp hm).2;rw[n] at q;simp at q
theorem ZjZ{h:Heap}{H:Hp}{b:Addr}{o:Obj}(e:(Zit h H).get? b=some o):h.get? b=some o/\H b=none:=by
 have e':h.get? b=some o:=PySem.W.of_hideAll (trk h H) e;refine⟨e',?_⟩;cases q:H b with
 | none=>rfl
 | some x =>
  have hm:b∈trk h H:=List.mem_filter.mpr ⟨List.mem_range.mpr (Heap.lt_size e'),by simp[q]⟩;have z:(Zit h H).get? b=none:=PySem.W.hideAll_none (trk h H) hm;rw[z] at e;cases e
structure Mod(K:PySem.W.Frag)(mg:Str->Option Value)(base:Heap):Prop where
 kin:K.In base
 glob:base.Ns mainGlobals mg
 blt:∃mb,base.Ns builtinsNs mb/\∀x:Str,x ≠ "__name__" -> mb x=bootBuiltins x
 nolimit:base.NoLimit
/-- the context: a def's body (or a comprehension's block) running. base: fixed through the whole law;s₀,H₀: the entry;outer: the frames whose slots others may change (a def's callers);stack: all frames that run;
   ex: iterators that were made ahead of the entry and are walked here (a comprehension's);fn: the names whose cells were made at the entry (a def: all;a comprehension's block: its own);calm: not within an except suite;pn: pins that every state bears;xe: what is wanted of an exception that leaves the code -/
structure Cx where
 prog:Program
 w:World
 K:PySem.W.Frag
 mg:Str->Option Value
 base:Heap
 A:Around
 N:List Str
 s₀ : Shared
 H₀ : Hp
 env:Env
 outer:List Env
 stack:List Env
 ex:List Addr
 fn:Str->Bool
 calm:Bool
 pn:List (Addr×Obj)
 xe:Value->Shared->Prop
def frs(l:List Env):List Addr:=l.filterMap (·.frame)
abbrev Cx.fs(X:Cx):List Addr:=frs X.outer
def Vis(sc:Scope)(x:Str):Prop:=sc.names.lookup x=some .local\/sc.names.lookup x=some .cell\/sc.names.lookup x=some .free
def Loc(sc:Scope)(x:Str):Prop:=sc.names.lookup x=some .local\/sc.names.lookup x=some .cell
def Look(env:Env)(h:Heap)(m:Str->Option Value)(x:Str)(u:Value):Prop :=
 (env.kindOf x=some .local/\m x=some u)\/((env.kindOf x=some .cell\/env.kindOf x=some .free)/\∃c,env.cells.lookup x=some c/\h.IsCell c (some u))
structure Cx.Ok(X:Cx):Prop where
 mod:Mod X.K X.mg X.base
 kind:X.env.scope.kind=.function
 glob:X.env.globals=mainGlobals
 blt:X.env.builtins=builtinsNs
 above:X.s₀.heap.objs.size<=X.env.locals
 inj:∀x y c,X.env.cells.lookup x=some c->X.env.cells.lookup y=some c->x=y
 has:∀x,(X.env.kindOf x=some .cell\/X.env.kindOf x=some .free)->∃c,X.env.cells.lookup x=some c
 cab:∀x c,X.fn x=true->X.env.cells.lookup x=some c->X.s₀.heap.objs.size<=c
 hd:X.calm=true->X.A.handled=none
 frames:X.A.frames=some X.stack
 stk:X.stack=X.outer\/(X.stack=X.env::X.outer/\X.env.frame=some X.env.locals)
 exf:∀b∈X.ex,b≠X.env.locals/\∀x c,X.env.cells.lookup x=some c->c≠b
 bs:∀b o,X.base.get? b=some o->X.s₀.heap.get? b=some o/\X.H₀ b=none
 bsz:X.base.objs.size<=X.s₀.heap.objs.size
 noex:∀b o,X.base.get? b=some o->b∉X.ex
 exfs:∀b∈X.ex,b∉X.fs
 funs:X.s₀.heap.FunFrames X.base X.outer
 frf:∀b∈X.fs,X.H₀ b=none
structure Inv(X:Cx)(pins:List (Addr×Obj))(σ : List (Option V))(H:Hp)(s:Shared):Prop where
 ok:X.Ok
 os:s.os=X.s₀.os
 bare:AllBare s.gens
 base:Un X.fs X.ex X.H₀ H X.s₀.heap s.heap
 loc:∃m,s.heap.Ns X.env.locals m/\∀(i:Nat)(x:Str)(v:V),X.N[i]?= some x -> σ[i]?= some (some v)->Vis X.env.scope x->∃u,RelV v u/\Look X.env s.heap m x u
 cell:∀x c,X.env.cells.lookup x=some c->∃v,s.heap.IsCell c v
 free:H X.env.locals=none
 freeC:∀x c,X.env.cells.lookup x=some c->H c=none
 pin:∀p∈X.pn++pins,s.heap.get? p.1=some p.2/\H p.1=none/\p.1≠X.env.locals/\p.1∉X.fs/\∀v,p.2.data ≠ .cell v
 hok:HOk X.prog X.w H s.heap
 len : σ.length=X.N.length
section
variable{X:Cx}{pins:List (Addr×Obj)}{σ : List (Option V)}{H H':Hp}{s:Shared}{h':Heap}
theorem Cx.Ok.nofr(ok:X.Ok){b:Addr}{o:Obj}(e:X.base.get? b=some o):b∉X.fs:=fun hb=>by
 have:=(ok.funs.mem hb).1;rw[e] at this;cases this
theorem Inv.bs(I:Inv X pins σ H s):∀b o,X.base.get? b=some o->s.heap.get? b=some o/\H b=none:=fun b o e =>
 ⟨I.base.keep b o (I.ok.bs b o e).1 (I.ok.bs b o e).2 (I.ok.nofr e) (I.ok.noex b o e),I.base.free b o (I.ok.bs b o e).1 (I.ok.bs b o e).2 (I.ok.noex b o e)⟩
theorem Inv.bk(I:Inv X pins σ H s):∀b o,X.base.get? b=some o->s.heap.get? b=some o:=fun b o e=>(I.bs b o e).1
theorem Inv.mod(I:Inv X pins σ H s):Mod X.K X.mg X.base:=I.ok.mod
theorem Inv.kIn(I:Inv X pins σ H s):X.K.In s.heap:=I.ok.mod.kin.keeps I.bk
theorem Inv.lt(I:Inv X pins σ H s):X.env.locals<s.heap.objs.size:=let ⟨_,hn,_⟩:=I.loc;hn.lt
theorem Inv.sz(I:Inv X pins σ H s):X.s₀.heap.objs.size<=s.heap.objs.size:=Nat.le_trans I.ok.above (Nat.le_of_lt I.lt)
theorem Inv.nofs(I:Inv X pins σ H s){a:Addr}(h:s.heap.objs.size<=a):a∉X.fs:=fun hb=>by
 obtain⟨_,o,ho,_⟩:=I.ok.funs.mem hb;exact absurd (Nat.lt_of_lt_of_le (Heap.lt_size ho) (Nat.le_trans I.sz h)) (Nat.lt_irrefl _)
theorem Inv.cne(I:Inv X pins σ H s):∀x c,X.env.cells.lookup x=some c->c≠X.env.locals:=fun x c e z=>by
 obtain⟨v,o,ho,hd⟩:=I.cell x c e;obtain⟨m,⟨o',es,ep,ho',hd',_⟩,_⟩:=I.loc;rw[z,ho'] at ho;cases ho;rw[hd'] at hd;cases hd
theorem Inv.funs(I:Inv X pins σ H s):s.heap.FunFrames X.base X.outer:=by
 have all:∀(l:List Env),(∀b∈frs l,b∈X.fs)->X.s₀.heap.FunFrames X.base l->s.heap.FunFrames X.base l:=by
  intro l
  induction l with
  | nil=>intro _ _;trivial
  | cons env r ih =>
   intro hs hl;obtain⟨hk,⟨L,o,hf,hn,ho,hd⟩,hr⟩:=hl;have hL:L∈X.fs:=hs L (by unfold frs;rw[List.filterMap_cons,hf];exact List.mem_cons_self);obtain⟨sl,e⟩:=I.base.slot L o ho (I.ok.frf L hL) hL fun z=>I.ok.exfs L z hL;exact⟨hk,⟨L,_,hf,hn,e,hd⟩,ih (fun b hb=>hs b (by unfold frs;rw[List.filterMap_cons,hf];exact List.mem_cons_of_mem _ hb)) hr⟩
 exact all X.outer (fun _ hb=>hb) I.ok.funs
theorem Inv.stack(I:Inv X pins σ H s):s.heap.FunFrames X.base X.stack:=by
 rcases I.ok.stk with e|⟨e,hf⟩
 ·rw[e];exact I.funs
 ·rw[e];obtain⟨m,hn,_⟩:=I.loc;refine .cons (by rw[I.ok.kind];decide) hf hn ?_ I.funs;exact Heap.get?_none_of_le (Nat.le_trans I.ok.bsz I.ok.above)
theorem Inv.stkSub(I:Inv X pins σ H s):∀b∈frs X.stack,b∈X.env.locals::X.fs:=fun b hb=>by
 rcases I.ok.stk with e|⟨e,hf⟩
 ·rw[e] at hb;exact List.mem_cons_of_mem _ hb
 ·rw[e] at hb;unfold frs at hb;rw[List.filterMap_cons,hf] at hb;exact hb
theorem Inv.stkFree(I:Inv X pins σ H s):∀b∈frs X.stack,H b=none:=fun b hb=>by
 rcases List.mem_cons.mp (I.stkSub b hb) with e|hb
 ·rw[e];exact I.free
 ·obtain⟨_,o,ho,_⟩:=I.ok.funs.mem hb;exact I.base.free b o ho (I.ok.frf b hb) fun z=>I.ok.exfs b z hb
theorem Inv.step{g':Array GenState}{t':Nat}{d':Drawn}{ch:List Addr}(I:Inv X pins σ H s)
  (hch:∀b∈ch,(b∈X.ex\/X.s₀.heap.objs.size<=b)/\b≠X.env.locals/\(∀x c,X.env.cells.lookup x=some c->c≠b)/\∀p∈X.pn++pins,p.1≠b)
  (keep:∀b o,b≠X.env.locals->b∉X.fs->b∉ch->s.heap.get? b=some o->H b=none->h'.get? b=some o)
  (slot:∀b o,b≠X.env.locals->b∈X.fs->b∉ch->s.heap.get? b=some o->H b=none->∃sl,h'.get? b=some { o with slots:=sl }) (free:∀b o,b∉ch->s.heap.get? b=some o->H b=none->H' b=none)
  (there:∀b o,b∉ch->s.heap.get? b=some o->∃o',h'.get? b=some o')
  (tups:∀b xs,H b=some (.tup xs)->H' b=some (.tup xs)) (frzs:∀b o u,H b=some (.frz o u)->H' b=some (.frz o u)) (tbls:∀b ps,H b=some (.tbl ps)->∃more,H' b=some (.tbl (ps++more)))
  (ns:∀m,s.heap.Ns X.env.locals m->h'.Ns X.env.locals m) (hok:HOk X.prog X.w H' h') (hg:AllBare g') :
  Inv X pins σ H' { s with heap:=h',gens:=g',drawn:=d',toks:=t' }:=by
 have neL:∀b o,X.s₀.heap.get? b=some o->b≠X.env.locals:=fun b o e=>Nat.ne_of_lt (Nat.lt_of_lt_of_le (Heap.lt_size e) I.ok.above);have neC:∀b o,X.s₀.heap.get? b=some o->b∉X.ex->b∉ch:=fun b o e hx hb=>by
  rcases(hch b hb).1 with z|z
  ·exact hx z
  ·exact absurd (Nat.lt_of_lt_of_le (Heap.lt_size e) z) (Nat.lt_irrefl _)
 have cellK:∀x c,X.env.cells.lookup x=some c->∀v,s.heap.IsCell c v->h'.IsCell c v:=fun x c e v ⟨o,ho,hd⟩=>by
  have nch:c∉ch:=fun z=>(hch c z).2.2.1 x c e rfl;by_cases hc:c∈X.fs
  ·obtain⟨sl,q⟩:=slot c o (I.cne x c e) hc nch ho (I.freeC x c e);exact⟨_,q,hd⟩
  ·exact⟨o,keep c o (I.cne x c e) hc nch ho (I.freeC x c e),hd⟩
 refine⟨I.ok,I.os,hg,⟨fun b o e n hb hx=>?_,fun b o e n hb hx=>?_,fun b o e n hx=>?_,fun b o e hx=>?_,fun b xs e=>tups b xs (I.base.tups b xs e),fun b o xs e=>frzs b o xs (I.base.frzs b o xs e),fun b ps e=>?_⟩,?_,fun x c e=>?_,?_,fun x c e=>?_,fun p hp=>?_,hok,I.len⟩
 ·exact keep b o (neL b o e) hb (neC b o e hx) (I.base.keep b o e n hb hx) (I.base.free b o e n hx)
 ·obtain⟨sl,e1⟩:=I.base.slot b o e n hb hx;obtain⟨sl',e2⟩:=slot b _ (neL b o e) hb (neC b o e hx) e1 (I.base.free b o e n hx);exact⟨sl',e2⟩
 ·obtain⟨o',e1⟩:=I.base.there b o e hx;exact free b o' (neC b o e hx) e1 (I.base.free b o e n hx)
 ·obtain⟨o',e1⟩:=I.base.there b o e hx;exact there b o' (neC b o e hx) e1
 ·obtain⟨m1,e1⟩:=I.base.tbls b ps e;obtain⟨m2,e2⟩:=tbls b _ e1;exact⟨m1++m2,by rw[e2,Array.append_assoc]⟩
 ·obtain⟨m,hn,hl⟩:=I.loc;refine⟨m,ns m hn,fun i x v e1 e2 e3=>?_⟩;obtain⟨u,r,l⟩:=hl i x v e1 e2 e3;refine⟨u,r,?_⟩;rcases l with l|⟨k,c,e,z⟩
  ·exact .inl l
  ·exact .inr ⟨k,c,e,cellK x c e _ z⟩
 ·obtain⟨v,z⟩:=I.cell x c e;exact⟨v,cellK x c e v z⟩
 ·obtain⟨m,⟨o,_,_,ho,_⟩,_⟩:=I.loc;exact free _ o (fun z=>(hch _ z).2.1 rfl) ho I.free
 ·obtain⟨v,o,ho,hd⟩:=I.cell x c e;exact free c o (fun z=>(hch c z).2.2.1 x c e rfl) ho (I.freeC x c e)
 ·obtain⟨e,n,ne,nf,d⟩:=I.pin p hp;have nch:p.1∉ch:=fun z=>(hch p.1 z).2.2.2 p hp rfl;exact⟨keep p.1 p.2 ne nf nch e n,free p.1 p.2 nch e n,ne,nf,d⟩
theorem Inv.un{t':Nat}(I:Inv X pins σ H s)(u:Un X.fs [] H H' s.heap h')(hok:HOk X.prog X.w H' h'):Inv X pins σ H' { s with heap:=h',toks:=t' }:=by
 obtain⟨m,⟨o,es,ep,ho,r⟩,_⟩:=id I.loc;obtain⟨sl,hL⟩:=u.any ho I.free (by simp);exact I.step (g':=s.gens) (d':=s.drawn) (ch:=[]) (fun _ z=>nomatch z) (fun b o _ hb _ e n=>u.keep b o e n hb (by simp)) (fun b o _ hb _ e n=>u.slot b o e n hb (by simp)) (fun b o _ e n=>u.free b o e n (by simp)) (fun b o _ e=>u.there b o e (by simp)) u.tups u.frzs u.tbls (fun m' hm=>by
  obtain⟨o',es',ep',ho',r'⟩:=hm;rw[ho] at ho';cases ho';exact⟨_,es',ep',hL,r'⟩) hok I.bare
theorem Inv.call{g':Array GenState}{t':Nat}{d':Drawn}{ch:List Addr}(I:Inv X pins σ H s)(u:Un (frs X.stack) ch H H' s.heap h')(hok:HOk X.prog X.w H' h')(hg:AllBare g')
  (hch:∀b∈ch,(b∈X.ex\/X.s₀.heap.objs.size<=b)/\b≠X.env.locals/\(∀x c,X.env.cells.lookup x=some c->c≠b)/\∀p∈X.pn++pins,p.1≠b) :
  Inv X pins σ H' { s with heap:=h',gens:=g',drawn:=d',toks:=t' }:=by
 obtain⟨m,⟨o,es,ep,ho,r⟩,_⟩:=id I.loc;obtain⟨sl,hL⟩:=u.any ho I.free fun z=>(hch _ z).2.1 rfl;exact I.step (ch:=ch) hch (fun b o hL hb hc e n=>u.keep b o e n (fun z=>(List.mem_cons.mp (I.stkSub b z)).elim hL hb) hc) (fun b o _ _ hc e n=>u.any e n hc) (fun b o hc e n=>u.free b o e n hc) (fun b o hc e=>u.there b o e hc) u.tups u.frzs u.tbls (fun m' hm=>by
  obtain⟨o',es',ep',ho',r'⟩:=hm;rw[ho] at ho';cases ho';exact⟨_,es',ep',hL,r'⟩) hok hg
theorem Inv.turned{t':Nat}{it:Addr}(I:Inv X pins σ H s)(k:∀b o,b≠it->s.heap.get? b=some o->h'.get? b=some o)(hn:H it=none)(hL:it≠X.env.locals)
  (h1:it∈X.ex\/X.s₀.heap.objs.size<=it) (h2:∀x c,X.env.cells.lookup x=some c->c≠it) (h3:∀p∈X.pn++pins,p.1≠it):Inv X pins σ H { s with heap:=h',toks:=t' }:=by
 have nit:∀b u,H b=some u->b≠it:=fun b u e z=>by rw[z,hn] at e;cases e
 refine I.step (g':=s.gens) (d':=s.drawn) (ch:=[it]) (fun b hb=>?_) (fun b o _ _ hc e _=>k b o (fun z=>hc (by simp[z])) e) (fun b o _ _ hc e _=>⟨o.slots,k b o (fun z=>hc (by simp[z])) e⟩) (fun _ _ _ _ n=>n)
  (fun b o hc e=>⟨o,k b o (fun z=>hc (by simp[z])) e⟩) (fun _ _ e=>e) (fun _ _ _ e=>e) (fun b ps e=>⟨#[],by rw[e];simp⟩) (fun m hm=>?_) (fun b u e=>?_) I.bare
 ·have e:b=it:=by simpa using hb
  subst e;exact⟨h1,hL,h2,h3⟩
 ·obtain⟨o,es,ep,ho,r⟩:=hm;exact⟨o,es,ep,k _ o (Ne.symm hL) ho,r⟩
 ·refine(I.hok b u e).stay (fun c v hc q=>k c v ?_ q) (fun _ q=>q) fun _ _ q=>q;rcases hc with z|z
  ·rw[z];exact nit b u e
  ·exact nit c _ z
theorem Inv.tok(I:Inv X pins σ H s)(t:Nat):Inv X pins σ H { s with toks:=t }:=I.un (h':=s.heap) (t':=t) Un.refl I.hok
theorem Inv.kept{t':Nat}(I:Inv X pins σ H s)(k:∀b u,s.heap.get? b=some u->h'.get? b=some u):Inv X pins σ H { s with heap:=h',toks:=t' }:=I.un (Un.kept k) (I.hok.kept k)
theorem Inv.laid{a:Addr}{o:HO}{t':Nat}(I:Inv X pins σ H s)(k:∀b u,s.heap.get? b=some u->h'.get? b=some u)(hp:s.heap.objs.size<=a)(new:ZaJ X.prog X.w (upd H a o) h' a o) :
  Inv X pins σ (upd H a o) { s with heap:=h',toks:=t' }:=I.un (Un.laid k hp (I.hok.fresh hp)) (I.hok.laid k hp new)
theorem Inv.write{x e:Addr}{o:HO}{t':Nat}(I:Inv X pins σ H s)(mu:Mut (H x))(he:e=x\/H e=some (.own x))(k:∀b u,b≠e->s.heap.get? b=some u->h'.get? b=some u)(heo:∃u,h'.get? e=some u)
  (new:ZaJ X.prog X.w (upd H x o) h' x o):Inv X pins σ (upd H x o) { s with heap:=h',toks:=t' }:=I.un (Un.write mu he k heo) (I.hok.write mu he k heo new)
theorem Inv.pins_of{pins':List (Addr×Obj)}(I:Inv X pins σ H s)(h:∀p∈pins',s.heap.get? p.1=some p.2/\H p.1=none/\p.1≠X.env.locals/\p.1∉X.fs/\∀v,p.2.data ≠ .cell v):Inv X pins' σ H s :=
 ⟨I.ok,I.os,I.bare,I.base,I.loc,I.cell,I.free,I.freeC,fun p hp=>(List.mem_append.mp hp).elim (fun z=>I.pin p (List.mem_append_left _ z)) (h p),I.hok,I.len⟩
theorem Zeh{N:List Str}(hN:N.Nodup){i j:Nat}{x:Str}(a:N[i]?= some x)(b:N[j]?= some x):i=j:=by
 obtain⟨h1,e1⟩:=List.getElem?_eq_some_iff.mp a;obtain⟨h2,e2⟩:=List.getElem?_eq_some_iff.mp b;exact(List.getElem_inj hN).mp (e1.trans e2.symm)
theorem Zde{M:Model}{A:Around}{E:Value->Shared->Prop}{i:Nat}{x:Str}{v:V}{u:Value}{Q:Unit->Shared->Prop}(I:Inv X pins σ H s)(hN:X.N.Nodup)(hi:X.N[i]?= some x)(hx:Loc X.env.scope x)(r:RelV v u)
  (h:∀s',Inv X pins (σ.set i (some v)) H s'->(∃a,Heap.SameBut a s.heap s'.heap/\(a=X.env.locals\/X.env.cells.lookup x=some a))->Q () s') (hf:X.fn x=true\/X.env.scope.names.lookup x=some .local:=by first|exact .inl rfl|exact .inr rfl|assumption):wpAny M A (storeName X.env x u) Q E s:=by
 obtain⟨m,hn,hl⟩:=id I.loc;have hcls:(X.env.scope.kind ==.class || (X.env.scope.kind ==.module&&X.env.locals != X.env.globals))=false:=by rw[I.ok.kind];rfl
 have hiσ : i < σ.length:=by rw[I.len];exact(List.getElem?_eq_some_iff.mp hi).1
 have cne:=I.cne;have tracked:∀{a:Addr}{h':Heap},(∃o,s.heap.get? a=some o/\H a=none)->Heap.SameBut a s.heap h'->HOk X.prog X.w H h':=fun{a h'} ha hs b ob e=>by
  obtain⟨_,_,hfree⟩:=ha;refine(I.hok b ob e).stay (fun c w' hc q=>(hs.2 c ?_).trans q) (fun _ q=>q) fun _ _ q=>q;rintro rfl;rcases hc with rfl|hc
  ·rw[hfree] at e;cases e
  ·rw[hfree] at hc;cases hc
 rcases hx with hk|hk
 ·refine wpAny_storeName_local hk hn (fun h' hn' hs=>?_) hcls;obtain⟨oL,_,_,hoL,_⟩:=id hn;refine h _ ⟨I.ok,I.os,I.bare,⟨fun b o e n hb hx=>?_,fun b o e n hb hx=>?_,I.base.free,fun b o e hx=>?_,I.base.tups,I.base.frzs,I.base.tbls⟩,⟨_,hn',fun j y v' e1 e2 e3=>?_⟩,fun y c e=>?_,I.free,I.freeC,fun p hp=>?_,tracked ⟨oL,hoL,I.free⟩ hs,by simpa using I.len⟩ ⟨_,hs,.inl rfl⟩
  ·exact(hs.2 b (Nat.ne_of_lt (Nat.lt_of_lt_of_le (Heap.lt_size e) I.ok.above))).trans (I.base.keep b o e n hb hx)
  ·obtain⟨sl,e1⟩:=I.base.slot b o e n hb hx;exact⟨sl,(hs.2 b (Nat.ne_of_lt (Nat.lt_of_lt_of_le (Heap.lt_size e) I.ok.above))).trans e1⟩
  ·obtain⟨o',e1⟩:=I.base.there b o e hx;exact⟨o',(hs.2 b (Nat.ne_of_lt (Nat.lt_of_lt_of_le (Heap.lt_size e) I.ok.above))).trans e1⟩
  ·by_cases hj:j=i
   ·subst hj;rw[hi] at e1;cases e1;rw[List.getElem?_set_self hiσ] at e2;cases e2;exact⟨u,r,.inl ⟨hk,by simp⟩⟩
   ·rw[List.getElem?_set_ne (Ne.symm hj)] at e2;obtain⟨u',r',q⟩:=hl j y v' e1 e2 e3;refine⟨u',r',?_⟩;rcases q with⟨k,e⟩|⟨k,c,e,z⟩
    ·refine .inl ⟨k,?_⟩;have:y≠x:=fun e=>hj (Zeh hN e1 (e ▸ hi));simp[this,e]
    ·exact .inr ⟨k,c,e,z.sameBut hs (cne y c e)⟩
  ·obtain⟨w',z⟩:=I.cell y c e;exact⟨w',z.sameBut hs (cne y c e)⟩
  ·obtain⟨e,n,ne,nf,d⟩:=I.pin p hp;exact⟨(hs.2 p.1 ne).trans e,n,ne,nf,d⟩
 ·have hfn:X.fn x=true:=by
   rcases hf with z|z
   ·exact z
   ·rw[z] at hk;cases hk
  obtain⟨c,hc⟩:=I.ok.has x (.inl hk);obtain⟨w',z⟩:=I.cell x c hc;refine wpAny_storeName_cell I.ok.kind hk hc z (fun h' hc' hs=>?_);obtain⟨oc,hoc,hocd⟩:=id z;refine h { s with heap:=h' } ⟨I.ok,I.os,I.bare,⟨fun b o e n hb hx=>?_,fun b o e n hb hx=>?_,I.base.free,fun b o e hx=>?_,I.base.tups,I.base.frzs,I.base.tbls⟩,⟨m,hn.sameBut hs (Ne.symm (cne x c hc)),fun j y v' e1 e2 e3=>?_⟩,fun y c' e=>?_,I.free,I.freeC,fun p hp=>?_,tracked ⟨oc,hoc,I.freeC x c hc⟩ hs,by simpa using I.len⟩ ⟨c,hs,.inr hc⟩
  ·exact(hs.2 b (Nat.ne_of_lt (Nat.lt_of_lt_of_le (Heap.lt_size e) (I.ok.cab x c hfn hc)))).trans (I.base.keep b o e n hb hx)
  ·obtain⟨sl,e1⟩:=I.base.slot b o e n hb hx;exact⟨sl,(hs.2 b (Nat.ne_of_lt (Nat.lt_of_lt_of_le (Heap.lt_size e) (I.ok.cab x c hfn hc)))).trans e1⟩
  ·obtain⟨o',e1⟩:=I.base.there b o e hx;exact⟨o',(hs.2 b (Nat.ne_of_lt (Nat.lt_of_lt_of_le (Heap.lt_size e) (I.ok.cab x c hfn hc)))).trans e1⟩
  ·by_cases hj:j=i
   ·subst hj;rw[hi] at e1;cases e1;rw[List.getElem?_set_self hiσ] at e2;cases e2;exact⟨u,r,.inr ⟨.inl hk,c,hc,hc'⟩⟩
   ·rw[List.getElem?_set_ne (Ne.symm hj)] at e2;obtain⟨u',r',q⟩:=hl j y v' e1 e2 e3;refine⟨u',r',?_⟩;rcases q with q|⟨k,c',e,z'⟩
    ·exact .inl q
    ·refine .inr ⟨k,c',e,z'.sameBut hs ?_⟩;rintro rfl;exact hj (Zeh hN e1 (I.ok.inj _ _ _ e hc ▸ hi))
  ·by_cases hcc:c'=c
   ·subst hcc;exact⟨_,hc'⟩
   ·obtain⟨w2,z2⟩:=I.cell y c' e;exact⟨w2,z2.sameBut hs hcc⟩
  ·obtain⟨e,n,ne,nf,d⟩:=I.pin p hp;refine⟨(hs.2 p.1 ?_).trans e,n,ne,nf,d⟩;intro q;rw[q,hoc] at e;have q':oc=p.2:=Option.some.inj e;exact d w' (by rw[<- q'];exact hocd)
theorem ZdX{M:Model}{A:Around}{E:Value->Shared->Prop}{i:Nat}{x:Str}{v:V}{u:Value}{Q:Unit->Shared->Prop}(I:Inv X pins σ H s)(hN:X.N.Nodup)(hi:X.N[i]?= some x)(hx:Loc X.env.scope x)(r:RelV v u)
  (h:∀s',Inv X pins (σ.set i (some v)) H s'->Q () s') (hf:X.fn x=true\/X.env.scope.names.lookup x=some .local:=by first|exact .inl rfl|exact .inr rfl|assumption):wpAny M A (storeName X.env x u) Q E s :=
 Zde I hN hi hx r (fun s' I' _=>h s' I') hf
theorem Inv.call'{s':Shared}{ch:List Addr}(I:Inv X pins σ H s)(ho:s'.os=s.os)(u:Un (frs X.stack) ch H H' s.heap s'.heap)(hok:HOk X.prog X.w H' s'.heap)(hg:AllBare s'.gens)
  (hch:∀b∈ch,(b∈X.ex\/X.s₀.heap.objs.size<=b)/\b≠X.env.locals/\(∀x c,X.env.cells.lookup x=some c->c≠b)/\∀p∈X.pn++pins,p.1≠b):Inv X pins σ H' s':=by
 obtain⟨h',g',d',t',o'⟩:=s';have e:o'=s.os:=ho;subst e;exact I.call (g':=g') (t':=t') (d':=d') u hok hg hch
end
abbrev XK:=Value->Option Addr->Hp->Prop
abbrev St:=List (Option V)
abbrev VK:=V->Hp->Prop
abbrev TE:=St->Hp->VK->Prop
abbrev TT:=St->Hp->(Bool->Hp->Prop)->Prop
abbrev TA:=St->Hp->(List V->Hp->Prop)->Prop
structure Ends where
 nx:St->Hp->Prop
 rt:VK
 bk:St->Hp->Prop:=fun _ _=>False
 ct:St->Hp->Prop:=fun _ _=>False
abbrev TS:=Ends->St->Hp->Prop
def EP(X:Cx)(pins:List (Addr×Obj))(σ : St)(Q:VK)(u:Value)(s':Shared):Prop := ∃v H',Inv X pins σ H' s'/\RelV v u/\Q v H'
def TP(X:Cx)(pins:List (Addr×Obj))(σ : St)(Q:Bool->Hp->Prop)(b:Bool)(s':Shared):Prop := ∃H',Inv X pins σ H' s'/\Q b H'
def AP(X:Cx)(pins:List (Addr×Obj))(σ : St)(Q:List V->Hp->Prop)(us:List Value)(s':Shared):Prop := ∃vs H',Inv X pins σ H' s'/\Vals vs us/\Q vs H'
def SP(X:Cx)(pins:List (Addr×Obj))(D:Ends)(f:Flow)(s':Shared):Prop :=
 match f with
 | .next=>∃ σ' H',Inv X pins σ' H' s'/\D.nx σ' H'
 | .brk=>∃ σ' H',Inv X pins σ' H' s'/\D.bk σ' H'
 | .cont=>∃ σ' H',Inv X pins σ' H' s'/\D.ct σ' H'
 | .ret u=>∃v σ' H',Inv X pins σ' H' s'/\RelV v u/\D.rt v H'
def PE(X:Cx)(e:Expr)(t:TE):Prop :=
 ∀(pins:List (Addr×Obj))(s:Shared)(σ : St)(H:Hp)(Q:VK),Inv X pins σ H s->t σ H Q->wpAny (model X.prog X.w) X.A (eval e X.env) (EP X pins σ Q) X.xe s
def PT(X:Cx)(e:Expr)(t:TT):Prop :=
 ∀(pins:List (Addr×Obj))(s:Shared)(σ : St)(H:Hp)(Q:Bool->Hp->Prop),Inv X pins σ H s->t σ H Q->wpAny (model X.prog X.w) X.A (isTrue e X.env (eval e X.env)) (TP X pins σ Q) X.xe s
def PW(X:Cx)(e:Expr)(t:TT):Prop :=
 ∀(whole:Sem Value)(pins:List (Addr×Obj))(s:Shared)(σ : St)(H:Hp)(Q:Bool->Hp->Prop),Inv X pins σ H s->t σ H Q->wpAny (model X.prog X.w) X.A (isTrue e X.env whole) (TP X pins σ Q) X.xe s
theorem PW.pt{X:Cx}{e:Expr}{t:TT}(h:PW X e t):PT X e t:=h _
def PA(X:Cx)(es:List Expr)(t:TA):Prop :=
 ∀(pos:Pos)(pins:List (Addr×Obj))(s:Shared)(σ : St)(H:Hp)(Q:List V->Hp->Prop),Inv X pins σ H s->t σ H Q->wpAny (model X.prog X.w) X.A (spliced (backTo pos (starEach es X.env))) (AP X pins σ Q) X.xe s
def PS(X:Cx)(st:Stmt)(t:TS):Prop :=
 ∀(pins:List (Addr×Obj))(s:Shared)(σ : St)(H:Hp)(D:Ends),Inv X pins σ H s->t D σ H->wpAny (model X.prog X.w) X.A (exec st X.env) (SP X pins D) X.xe s
def PSs(X:Cx)(st:List Stmt)(t:TS):Prop :=
 ∀(pins:List (Addr×Obj))(s:Shared)(σ : St)(H:Hp)(D:Ends),Inv X pins σ H s->t D σ H->wpAny (model X.prog X.w) X.A (execs st X.env) (SP X pins D) X.xe s
theorem thn{α : Type}{t:Sem α}{Q Q' : α -> Shared->Prop}{M:Model}{A:Around}{E:Value->Shared->Prop}{s:Shared}(h:wpAny M A t Q E s)(hQ:∀a s,Q a s->Q' a s):wpAny M A t Q' E s:=wpAny_mono h hQ fun _ _ x=>x
section
variable{X:Cx}
def ZlR(i:Nat):TE:=fun σ H Q=>∃v,σ[i]?= some (some v)/\Q v H
def tC(v:V):TE:=fun _ H Q=>Q v H
theorem Zky{i:Nat}{x:Str}{pos:Pos}(hN:X.N[i]?= some x)(hv:Vis X.env.scope x)(hd:(x == ("__debug__" : Str))=false:=by decide) (hcd:(x == ("__classdict__" : Str))=false:=by decide):PE X (.Name x pos) (ZlR i):=by
 intro pins s σ H Q I h;obtain⟨v,e,h⟩:=h;obtain⟨m,hn,hl⟩:=I.loc;obtain⟨u,r,l⟩:=hl i x v hN e hv;have fin:EP X pins σ Q u s:=⟨v,H,I,r,h⟩;rcases l with⟨hk,hm⟩|⟨hk,c,hc,hcell⟩
 ·exact wpAny_Name (wpAny_loadName_local I.ok.kind hk hn hm fin) hd
 ·rcases hk with hk|hk
  ·exact wpAny_Name (wpAny_loadName_cell I.ok.kind hk hc hcell fin) hd
  ·exact wpAny_Name (wpAny_loadName_free I.ok.kind hk hc hcell fin hcd) hd
theorem Zb{i j pos}:PE X (.Constant (.int i) j pos) (tC (.int i)):=fun _ _ _ H _ I h=>wpAny_Constant_int ⟨.int i,H,I.tok _,⟨_,rfl⟩,h⟩
theorem ZdQ{b j pos}:PE X (.Constant (.bool b) j pos) (tC (.bl b)):=fun _ _ _ H _ I h=>Constant_bool ⟨.bl b,H,I,rfl,h⟩
theorem ZgR{j pos}:PE X (.Constant .none j pos) (tC .non):=fun _ _ _ H _ I h=>Constant_none ⟨.non,H,I,rfl,h⟩
theorem Zal{x j pos}:PE X (.Constant (.str x) j pos) (tC (.str x)):=fun _ _ _ H _ I h=>Calls.Constant_str ⟨.str x,H,I.tok _,⟨_,rfl⟩,h⟩
def Gl(X:Cx)(x:Str):Prop:=X.env.kindOf x=some .globalImplicit
theorem Zeb{E:Value->Shared->Prop}{pins:List (Addr×Obj)}{s:Shared}{σ : St}{H:Hp}{x:Str}{u:Value}{pos:Pos}{Q:Value->Shared->Prop}(I:Inv X pins σ H s)(hg:Gl X x)(hm:X.mg x=some u)(h:Q u s)
  (hd:(x == ("__debug__" : Str))=false:=by decide):wpAny (model X.prog X.w) X.A (eval (.Name x pos) X.env) Q E s :=
 Calls.Name_function_global I.ok.kind hg (Calls.loadGlobal_global (by rw[I.ok.glob];exact I.mod.glob.keeps I.bk) hm h) hd
theorem ZbD{E:Value->Shared->Prop}{pins:List (Addr×Obj)}{s:Shared}{σ : St}{H:Hp}{x:Str}{u:Value}{pos:Pos}{Q:Value->Shared->Prop}(I:Inv X pins σ H s)(hg:Gl X x)(hm:X.mg x=none)(hv:bootBuiltins x=some u)(h:Q u s)
  (hn:x ≠ "__name__" := by decide) (hd:(x == ("__debug__" : Str))=false:=by decide):wpAny (model X.prog X.w) X.A (eval (.Name x pos) X.env) Q E s:=by
 obtain⟨mb,h1,h2⟩:=I.mod.blt;exact Calls.Name_function_global I.ok.kind hg (Calls.loadGlobal_builtin (by rw[I.ok.glob];exact I.mod.glob.keeps I.bk) hm (by rw[I.ok.blt];exact h1.keeps I.bk) ((h2 x hn).trans hv) h) hd
theorem Zbg{x:Str}{v:V}{u:Value}{pos:Pos}(hg:Gl X x)(hm:X.mg x=some u)(r:RelV v u)(hd:(x == ("__debug__" : Str))=false:=by decide):PE X (.Name x pos) (tC v) :=
 fun _ _ _ H _ I h=>Zeb I hg hm ⟨v,H,I,r,h⟩ hd
theorem Zj8{x:Str}{v:V}{u:Value}{pos:Pos}(hg:Gl X x)(hm:X.mg x=none)(hv:bootBuiltins x=some u)(r:RelV v u)(hn:x ≠ "__name__" := by decide) (hd:(x == ("__debug__" : Str))=false:=by decide):PE X (.Name x pos) (tC v) :=
 fun _ _ _ H _ I h=>ZbD I hg hm hv ⟨v,H,I,r,h⟩ hn hd
variable{a b:Expr}{ta tb:TE}{pos:Pos}
variable{tA tB':TT}{rest:List Expr}
def Zms(t u:TT):TT:=fun σ H Q=>t σ H fun c H1=>if c=true then u σ H1 Q else Q false H1
def tOr(t u:TT):TT:=fun σ H Q=>t σ H fun c H1=>if c=true then Q true H1 else u σ H1 Q
def Zmj(t:TT):TT:=fun σ H Q=>t σ H fun c H1=>Q (!c) H1
theorem Zfe(ha:PT X a tA):PW X (.BoolOp .And [a] pos) tA:=by
 intro wh pins s σ H Q I h;refine isTrue_and (thn (ha pins s σ H Q I h) fun c s1 e=>?_);cases c with
 | true=>exact isTrue_and_nil e
 | false=>exact e
theorem Zjc(ha:PT X a tA):PW X (.BoolOp .Or [a] pos) tA:=by
 intro wh pins s σ H Q I h;refine isTrue_or (thn (ha pins s σ H Q I h) fun c s1 e=>?_);cases c with
 | false=>exact isTrue_or_nil e
 | true=>exact e
theorem Zh8(ha:PT X a tA)(hb:PW X (.BoolOp .And (b::rest) pos) tB'):PW X (.BoolOp .And (a::b::rest) pos) (Zms tA tB'):=by
 intro wh pins s σ H Q I h;refine isTrue_and (thn (ha pins s σ H _ I h) fun c s1 ⟨H1,I1,q1⟩=>?_);cases c with
 | true=>exact hb wh pins s1 σ H1 Q I1 q1
 | false=>exact⟨H1,I1,q1⟩
theorem ZkZ(ha:PT X a tA)(hb:PW X (.BoolOp .Or (b::rest) pos) tB'):PW X (.BoolOp .Or (a::b::rest) pos) (tOr tA tB'):=by
 intro wh pins s σ H Q I h;refine isTrue_or (thn (ha pins s σ H _ I h) fun c s1 ⟨H1,I1,q1⟩=>?_);cases c with
 | true=>exact⟨H1,I1,q1⟩
 | false=>exact hb wh pins s1 σ H1 Q I1 q1
theorem ZdF(ha:PT X a tA):PT X (.UnaryOp .Not a pos) (Zmj tA):=by
 intro pins s σ H Q I h;exact isTrue_not (ha pins s σ H (fun c H1=>Q (!c) H1) I h)
def Zle(ta tb:TE):TE:=fun σ H Q=>ta σ H fun x H1=>∃c,x=.bl c/\if c=true then tb σ H1 Q else Q (.bl false) H1
theorem Zjj{op}{t:TE}(h:PE X a t):PE X (.BoolOp op [a] pos) t:=fun pins s σ H Q I hw=>BoolOp_one (h pins s σ H Q I hw)
theorem Zjg(ha:PE X a ta)(hb:PE X (.BoolOp .And (b::rest) pos) tb):PE X (.BoolOp .And (a::b::rest) pos) (Zle ta tb):=by
 intro pins s σ H Q I h;refine BoolOp_and (thn (ha pins s σ H _ I h) fun v s1 ⟨x,H1,I1,r1,q1⟩=>?_);obtain⟨c,rfl,q1⟩:=q1;cases r1;refine wpAny_truthy_bool ?_;cases c with
 | true=>exact hb pins s1 σ H1 Q I1 q1
 | false=>exact⟨.bl false,H1,I1,rfl,q1⟩
end
def SqL(K:PySem.W.Frag)(H:Hp)(a:Addr)(xs:List V):Prop :=
 Rd H a (.lst xs) \/
  ∃(o:Obj)(its:Array Value)(n:Nat),K.lookup a=some o/\o.cls=.type "list" /\ o.dict=none/\o.data=.seq its n/\its.size<=sizeLine/\Vals xs its.toList
def SqT(K:PySem.W.Frag)(H:Hp)(a:Addr)(xs:List V):Prop :=
 Rd H a (.tup xs) \/
  ∃(o:Obj)(its:Array Value)(n:Nat),K.lookup a=some o/\o.cls=.type "tuple" /\ o.data=.seq its n/\its.size<=sizeLine/\Vals xs its.toList
def Zl9:Value->Option V
 | .none=>some .non
 | .bool b=>some (.bl b)
 | .int i _=>some (.int i)
 | .str x _=>some (.str x)
 | .bytes b _=>some (.byt b)
 | .float b _=>some (.flt b)
 | .ref a=>some (.ref a)
 | .type n=>some (.ty n)
 | _=>none
theorem RelV.abs{x:V}{u:Value}(r:RelV x u):Zl9 u=some x:=by
 cases x with
 | non=>cases r;rfl
 | bl _=>cases r;rfl
 | int _=>obtain⟨t,rfl⟩:=r;rfl
 | str _=>obtain⟨t,rfl⟩:=r;rfl
 | byt _=>obtain⟨t,rfl⟩:=r;rfl
 | flt _=>obtain⟨t,rfl⟩:=r;rfl
 | ref _=>cases r;rfl
 | ty _=>cases r;rfl
theorem RelV.inj{x y:V}{u:Value}(r:RelV x u)(q:RelV y u):x=y:=Option.some.inj (r.abs.symm.trans q.abs)
theorem Vals.inj:∀{xs ys:List V}{us:List Value},Vals xs us->Vals ys us->xs=ys
 | _,_,_,.nil,.nil=>rfl
 | _,_,_,.cons r t,.cons r' t'=>by rw[r.inj r',Vals.inj t t']
section
variable{X:Cx}{pins:List (Addr×Obj)}{σ : St}{H:Hp}{s:Shared}{a:Addr}{xs ys:List V}
theorem SqL.of{K:PySem.W.Frag}(h:H a=some (.lst xs)):SqL K H a xs:=.inl (.inl h)
theorem SqT.of{K:PySem.W.Frag}(h:H a=some (.tup xs)):SqT K H a xs:=.inl (.inl h)
theorem Inv.list(I:Inv X pins σ H s)(h:SqL X.K H a xs):∃its:List Value,Vals xs its/\PlainL s.heap a its.toArray/\xs.length<=sizeLine:=by
 rcases h with h|⟨o,its,n,hk,hc,hd,hs,hz,r⟩
 ·obtain⟨z,its,n,r,e⟩:=h.ok I.hok;exact⟨its,r,⟨_,n,e,rfl,rfl,rfl⟩,z⟩
 ·refine⟨its.toList,r,⟨o,n,I.kIn a o hk,hc,hd,by simpa using hs⟩,?_⟩;have e:=r.length;simp only[Array.length_toList] at e;lia
theorem Inv.tuple(I:Inv X pins σ H s)(h:SqT X.K H a xs):∃its:List Value,Vals xs its/\IsTup s.heap a its.toArray/\xs.length<=sizeLine:=by
 rcases h with h|⟨o,its,n,hk,hc,hs,hz,r⟩
 ·obtain⟨z,its,r,p⟩:=h.ok I.hok;exact⟨its,r,p,z⟩
 ·refine⟨its.toList,r,⟨o,I.kIn a o hk,hc,n,by simpa using hs⟩,?_⟩;have e:=r.length;simp only[Array.length_toList] at e;lia
theorem Inv.list_inj(I:Inv X pins σ H s)(h:SqL X.K H a xs)(h':SqL X.K H a ys):xs=ys:=by
 obtain⟨its,r,⟨o,n,e,_,_,d⟩,_⟩:=I.list h;obtain⟨its',r',⟨o',n',e',_,_,d'⟩,_⟩:=I.list h';rw[e] at e';cases e';rw[d] at d';injection d' with d1 _;have:its=its':=by simpa using congrArg Array.toList d1
 subst this;exact r.inj r'
theorem Inv.tuple_inj(I:Inv X pins σ H s)(h:SqT X.K H a xs)(h':SqT X.K H a ys):xs=ys:=by
 obtain⟨its,r,⟨o,e,_,n,d⟩,_⟩:=I.tuple h;obtain⟨its',r',⟨o',e',_,n',d'⟩,_⟩:=I.tuple h';rw[e] at e';cases e';rw[d] at d';injection d' with d1 _;have:its=its':=by simpa using congrArg Array.toList d1
 subst this;exact r.inj r'
end
abbrev Cx.wish(X:Cx)(E:Value->Shared->Prop):Cx:={ X with xe:=E }
abbrev Cx.nox(X:Cx):Cx:=X.wish fun _ _=>False
theorem Cx.Ok.wish{X:Cx}(ok:X.Ok)(E:Value->Shared->Prop):(X.wish E).Ok :=
 ⟨ok.mod,ok.kind,ok.glob,ok.blt,ok.above,ok.inj,ok.has,ok.cab,ok.hd,ok.frames,ok.stk,ok.exf,ok.bs,ok.bsz,ok.noex,ok.exfs,ok.funs,ok.frf⟩
theorem Cx.Ok.unwish{X:Cx}{E:Value->Shared->Prop}(ok:(X.wish E).Ok):X.Ok :=
 ⟨ok.mod,ok.kind,ok.glob,ok.blt,ok.above,ok.inj,ok.has,ok.cab,ok.hd,ok.frames,ok.stk,ok.exf,ok.bs,ok.bsz,ok.noex,ok.exfs,ok.funs,ok.frf⟩
section
variable{X:Cx}{pins:List (Addr×Obj)}{σ : St}{H:Hp}{s:Shared}{E:Value->Shared->Prop}
theorem Inv.wish(I:Inv X pins σ H s)(E:Value->Shared->Prop):Inv (X.wish E) pins σ H s:=⟨I.ok.wish E,I.os,I.bare,I.base,I.loc,I.cell,I.free,I.freeC,I.pin,I.hok,I.len⟩
theorem Inv.unwish(I:Inv (X.wish E) pins σ H s):Inv X pins σ H s:=⟨I.ok.unwish,I.os,I.bare,I.base,I.loc,I.cell,I.free,I.freeC,I.pin,I.hok,I.len⟩
theorem SP.unwish{D:Ends}{f:Flow}{s':Shared}(h:SP (X.wish E) pins D f s'):SP X pins D f s':=by
 cases f with
 | next=>obtain⟨σ',H',I,q⟩:=h;exact⟨σ',H',I.unwish,q⟩
 | brk=>obtain⟨σ',H',I,q⟩:=h;exact⟨σ',H',I.unwish,q⟩
 | cont=>obtain⟨σ',H',I,q⟩:=h;exact⟨σ',H',I.unwish,q⟩
 | ret u=>obtain⟨v,σ',H',I,r,q⟩:=h;exact⟨v,σ',H',I.unwish,r,q⟩
theorem PSs.nox{st:List Stmt}{t:TS}(h:PSs X.nox st t):PSs X st t:=fun pins s σ H D I hw =>
 wpAny_mono (h pins s σ H D (I.wish _) hw) (fun _ _ q=>q.unwish) fun _ _ z=>False.elim z
end
section
variable{X:Cx}{st:Stmt}{rest:List Stmt}{t u:TS}{e:Expr}{te:TE}{pos:Pos}
def Zlw:TS:=fun D σ H=>D.nx σ H
def Zl5(t u:TS):TS:=fun D σ H=>t { D with nx:=u D } σ H
theorem Zak:PSs X [] Zlw:=fun _ _ σ H _ I h=>wpAny_execs_nil ⟨σ,H,I,h⟩
theorem Ze(h1:PS X st t)(h2:PSs X rest u):PSs X (st::rest) (Zl5 t u):=by
 intro pins s σ H D I h;refine wpAny_execs_cons (thn (h1 pins s σ H { D with nx:=u D } I h) fun f s1 q=>?_);cases f with
 | next =>
  obtain⟨σ',H',I',q⟩:=q;exact h2 pins s1 σ' H' D I' q
 | ret v=>exact q
 | brk=>exact q
 | cont=>exact q
theorem Zi(h1:PS X st t):PSs X [st] t:=by
 intro pins s σ H D I h;refine wpAny_execs_cons (thn (h1 pins s σ H D I h) fun f s1 q=>?_);cases f with
 | next=>exact wpAny_execs_nil q
 | ret v=>exact q
 | brk=>exact q
 | cont=>exact q
theorem Inv.quiet{pins:List (Addr×Obj)}{σ : St}{H:Hp}{s:Shared}(I:Inv X pins σ H s):interactive X.env=false:=by simp[interactive,I.ok.kind]
def Zlt(te:TE):TS:=fun D σ H=>te σ H fun _ H1=>D.nx σ H1
theorem Zba(he:PE X e te)(hs:swapsWith e none pos.line X.env=pure false:=by rfl):PS X (.Expr e pos) (Zlt te):=by
 intro pins s σ H D I h;exact wpAny_Expr_any (thn (he pins s σ H _ I h) fun v s1 ⟨x,H1,I1,r1,q1⟩=>⟨σ,H1,I1,q1⟩) I.quiet hs
def Zl7(te:TE):TS:=fun D σ H=>te σ H D.rt
theorem ZX(he:PE X e te):PS X (.Return (some e) pos) (Zl7 te):=by
 intro pins s σ H D I h;exact wpAny_Return_some (thn (he pins s σ H _ I h) fun v s1 ⟨x,H1,I1,r1,q1⟩=>⟨x,σ,H1,I1,r1,q1⟩)
def Zl4(c:TT)(t u:TS):TS:=fun D σ H=>c σ H fun b H1=>if b=true then t D σ H1 else u D σ H1
theorem ZaN{c:Expr}{a b:List Stmt}{tc:TT}(hc:PT X c tc)(ha:PSs X a t)(hb:PSs X b u):PS X (.If c a b pos) (Zl4 tc t u):=by
 intro pins s σ H D I h;refine wpAny_If (thn (hc pins s σ H _ I h) fun d s1 ⟨H1,I1,q1⟩=>?_);cases d with
 | true=>exact ha pins s1 σ H1 D I1 q1
 | false=>exact hb pins s1 σ H1 D I1 q1
end
abbrev TG:=V->St->Hp->(St->Hp->Prop)->Prop
abbrev TGs:=List V->St->Hp->(St->Hp->Prop)->Prop
def PG(X:Cx)(target:Expr)(t:TG):Prop :=
 ∀(pins:List (Addr×Obj))(s:Shared)(σ : St)(H:Hp)(v:V)(u:Value)(Q:St->Hp->Prop),Inv X pins σ H s->RelV v u->t v σ H Q ->
  wpAny (model X.prog X.w) X.A (assign target X.env u) (fun _ s'=>∃ σ' H',Inv X pins σ' H' s'/\Q σ' H') X.xe s
def PGs(X:Cx)(ts:List Expr)(t:TGs):Prop :=
 ∀(pins:List (Addr×Obj))(s:Shared)(σ : St)(H:Hp)(vs:List V)(us:List Value)(Q:St->Hp->Prop),Inv X pins σ H s->Vals vs us->t vs σ H Q ->
  wpAny (model X.prog X.w) X.A (assignInOrder ((assignEach ts X.env).map (·.2)) us) (fun _ s'=>∃ σ' H',Inv X pins σ' H' s'/\Q σ' H') X.xe s
section
variable{X:Cx}{pos:Pos}
def Zgm(i:Nat):TG:=fun v σ H Q=>Q (σ.set i (some v)) H
theorem Zt{i:Nat}{x:Str}(hN:X.N.Nodup)(hi:X.N[i]?= some x)(hx:Loc X.env.scope x)(hf:X.fn x=true\/X.env.scope.names.lookup x=some .local:=by first|exact .inl rfl|exact .inr rfl|assumption):PG X (.Name x pos) (Zgm i):=by
 intro pins s σ H v u Q I r h;exact wpAny_assign_Name (ZdX I hN hi hx r (fun s' I'=>⟨_,H,I',h⟩) hf)
def Zmt:TGs:=fun vs σ H Q=>vs=[]/\Q σ H
def ZlI(t:TG)(u:TGs):TGs:=fun vs σ H Q=>∃v r,vs=v::r/\t v σ H fun σ' H'=>u r σ' H' Q
theorem Zbl:PGs X [] Zmt:=by
 intro pins s σ H vs us Q I r h;obtain⟨e,h⟩:=h;subst e;cases r;exact assignInOrder_nil ⟨σ,H,I,h⟩
theorem ZC{e:Expr}{es:List Expr}{t:TG}{u:TGs}(h1:PG X e t)(h2:PGs X es u)
  (hs:(assignEach (e::es) X.env).map (·.2)=assign e X.env::(assignEach es X.env).map (·.2):=by rfl):PGs X (e::es) (ZlI t u):=by
 intro pins s σ H vs us Q I r h;obtain⟨v,vr,e1,h⟩:=h;subst e1;cases r with
 | cons r rr =>
  rw[hs];refine assignInOrder_cons (thn (h1 pins s σ H _ _ _ I r h) fun _ s1 ⟨σ1,H1,I1,q1⟩=>?_);exact h2 pins s1 σ1 H1 _ _ Q I1 rr q1
def ZlT(K:PySem.W.Frag)(n:Nat)(t:TGs):TG:=fun v σ H Q=>∃a xs,v=.ref a/\SqT K H a xs/\xs.length=n/\t xs σ H Q
theorem Zf9{es:List Expr}{k:Nat}{t:TGs}{n:Nat}(hc:X.calm=true)(h:PGs X es t)
  (hn:(assignEach es X.env).length=n:=by rfl) (hst:(assignEach es X.env).findIdx? (·.1)=none:=by rfl):PG X (.Tuple es k pos) (ZlT X.K n t):=by
 intro pins s σ H v u Q I r hw;obtain⟨a,xs,e1,hq,hl,hw⟩:=hw;subst e1;cases r;obtain⟨its,rv,ht,hz⟩:=I.tuple hq;refine assign_Tuple_tuple (I.ok.hd hc) ht (by simp[hn,<- hl,rv.length]) hst fun h' hx=>?_;have I1:Inv X pins σ H { s with heap:=h' }:=I.kept (t':=s.toks) fun b o e=>hx b o (Nat.ne_of_lt (Heap.lt_size e)) e;exact h pins _ σ H xs _ Q I1 (by simpa using rv) hw
def Zls(te:TE)(g:TG):TS:=fun D σ H=>te σ H fun x H1=>g x σ H1 D.nx
theorem Zm{i:Nat}{x:Str}{e:Expr}{te:TE}{pos':Pos}(hN:X.N.Nodup)(hi:X.N[i]?= some x)(hx:Loc X.env.scope x)(he:PE X e te)(hs:swapsWith e (some (.Name x pos')) pos.line X.env=pure false:=by rfl)(hf:X.fn x=true\/X.env.scope.names.lookup x=some .local:=by first|exact .inl rfl|exact .inr rfl|assumption) :
  PS X (.Assign [.Name x pos'] e pos) (Zls te (Zgm i)):=by
 intro pins s σ H D I h;refine wpAny_Assign_Name (thn (he pins s σ H _ I h) fun v s1 ⟨y,H1,I1,r1,q1⟩=>?_) hs;exact ZdX I1 hN hi hx r1 (fun s2 I2=>⟨_,H1,I2,q1⟩) hf
end
structure It where
 go:Nat->Hp->Prop
 yld:Nat->Hp->V->Hp->Prop
 stop:Nat->Hp->Prop
def Zb9(X:Cx)(pins:List (Addr×Obj))(H:Hp)(b:Addr):Prop :=
 H b=none/\b≠X.env.locals/\b∉X.fs/\(b∈X.ex\/X.s₀.heap.objs.size<=b)/\(∀x c,X.env.cells.lookup x=some c->c≠b)/\∀p∈X.pn++pins,p.1≠b
theorem Inv.fpOk{X:Cx}{pins:List (Addr×Obj)}{σ : St}{H H':Hp}{s:Shared}{b:Addr}(I:Inv X pins σ H s)(hb:s.heap.objs.size<=b)(hn:H' b=none):Zb9 X pins H' b:=by
 refine⟨hn,Nat.ne_of_gt (Nat.lt_of_lt_of_le I.lt hb),I.nofs hb,.inr (Nat.le_trans I.sz hb),fun x c e z=>?_,fun p hp z=>?_⟩
 ·obtain⟨v,q⟩:=I.cell x c e;exact absurd (Nat.lt_of_lt_of_le q.lt (by rw[z];exact hb)) (Nat.lt_irrefl _)
 ·exact absurd (Nat.lt_of_lt_of_le (Heap.lt_size (I.pin p hp).1) (by rw[z];exact hb)) (Nat.lt_irrefl _)
structure Turn(P:Program)(w:World)(K:PySem.W.Frag)(tg:Expr)(J:It)(fp:List Addr)(it:Addr)(tn:Nat->Heap->Prop):Prop where
 mem:it∈fp
 obj:∀i h,tn i h->∀b∈fp,∃o,h.get? b=some o/\∀v,o.data ≠ .cell v
 keep:∀i h h',tn i h->(∀b∈fp,∀o,h.get? b=some o->h'.get? b=some o)->tn i h'
 item:∀(X:Cx),X.prog=P->X.w=w->X.K=K->X.calm=true->∀(i:Nat)(pins:List (Addr×Obj))(s:Shared)(σ : St)(H:Hp)(E:Value->Shared->Prop),Inv X pins σ H s->(∀b∈fp,Zb9 X pins H b)->tn i s.heap->J.go i H ->
  wpAny (model P w) X.A (pyNext (.ref it)) (fun r s1=>∃u,r=some u /\
   wpAny (model P w) X.A (letOwnedTupleGo tg (.ref it) u) (fun _ s2=>∃x H',Inv X pins σ H' s2/\RelV x u/\J.yld i H x H'/\tn (i+1) s2.heap/\∀b∈fp,H' b=none) E s1) E s
 done:∀(X:Cx),X.prog=P->X.w=w->X.K=K->X.calm=true->∀(i:Nat)(pins:List (Addr×Obj))(s:Shared)(σ : St)(H:Hp)(E:Value->Shared->Prop),Inv X pins σ H s->(∀b∈fp,Zb9 X pins H b)->tn i s.heap->J.stop i H ->
  wpAny (model P w) X.A (pyNext (.ref it)) (fun r s1=>r=none/\Inv X pins σ H s1) E s
 self:∀(A:Around)(i:Nat)(s:Shared)(Q:Value->Shared->Prop)(E:Value->Shared->Prop),tn i s.heap->Q (.ref it) s->wpAny (model P w) A (pyIter (.ref it)) Q E s
abbrev TI:=St->Hp->(It->Hp->Prop)->Prop
def PIE(X:Cx)(pins:List (Addr×Obj))(σ : St)(tg:Expr)(R:It->Hp->Prop)(itv:Value)(s2:Shared):Prop :=
 ∃(it:Addr)(fp:List Addr)(tn:Nat->Heap->Prop)(J:It)(H':Hp),itv=.ref it/\Inv X pins σ H' s2/\Turn X.prog X.w X.K tg J fp it tn/\tn 0 s2.heap/\(∀b∈fp,Zb9 X pins H' b)/\R J H'
def PI(X:Cx)(tg iter:Expr)(wi:TI):Prop :=
 ∀(pins:List (Addr×Obj))(s:Shared)(σ : St)(H:Hp)(R:It->Hp->Prop),Inv X pins σ H s->wi σ H R ->
  wpAny (model X.prog X.w) X.A (eval iter X.env) (fun v s1=>wpAny (model X.prog X.w) X.A (pyIter v) (PIE X pins σ tg R) X.xe s1) X.xe s
theorem ZjR{M:Model}{A:Around}{E:Value->Shared->Prop}{s:Shared}{tg:Expr}{it:Addr}{u:Value}{o:Obj}{n:String}{vs:Array Value}{Q:Unit->Shared->Prop}(ho:s.heap.get? it=some o)(hc:o.cls=.type n)(hd:o.data=.fields vs)
    (hn:["enumerate","zip","dict_itemiterator","dict_reverseitemiterator","odict_iterator","itertools.zip_longest","itertools.pairwise"].contains n=false) (hQ:Q () s):wpAny M A (letOwnedTupleGo tg (.ref it) u) Q E s:=by
  unfold letOwnedTupleGo;cases tg <;> first
    | exact wpAny_pure hQ
    | (cases u <;> first
        | exact wpAny_pure hQ
        | (refine wpAny_bind (wpAny_load ho ?_)
           rw[hc,hd];show wpAny M A (if(["enumerate","zip","dict_itemiterator","dict_reverseitemiterator","odict_iterator","itertools.zip_longest","itertools.pairwise"].contains n&&vs[0]? == some (rawInt _))=true then _ else _) Q E s
           rw[if_neg (by intro h;rw[hn,Bool.false_and] at h;cases h)];exact wpAny_pure hQ))
def Itl(K:PySem.W.Frag)(a:Addr):It :=
 ⟨fun i H=>∃xs x,SqL K H a xs/\xs[i]?= some x,fun i H x H'=>H'=H/\∀xs,SqL K H a xs->xs[i]?= some x,fun i H=>∃xs,SqL K H a xs/\xs.length<=i⟩
def Itt(K:PySem.W.Frag)(a:Addr):It :=
 ⟨fun i H=>∃xs x,SqT K H a xs/\xs[i]?= some x,fun i H x H'=>H'=H/\∀xs,SqT K H a xs->xs[i]?= some x,fun i H=>∃xs,SqT K H a xs/\xs.length<=i⟩
def Itr(lo:Int)(n:Nat):It:=⟨fun i _=>i<n,fun i H x H'=>H'=H/\x=.int (lo+i),fun i _=>n<=i⟩
theorem Zhu{P:Program}{w:World}{K:PySem.W.Frag}{tg:Expr}(a it:Addr):Turn P w K tg (Itl K a) [it] it (fun i h=>h.IsListIter it a i) where
 mem:=by simp
 obj:=fun i h st b hb=>by
  have e:b=it:=by simpa using hb
  subst e;obtain⟨o,e,c,d⟩:=st;exact⟨o,e,fun v z=>by rw[d] at z;cases z⟩
 keep:=fun i h h' st k=>st.at fun o e=>k it (by simp) o e
 item:=by
  intro X hP hw hK hc i pins s σ H E I hf st hg;subst hP hw hK;obtain⟨xs,x,hq,hx⟩:=hg;obtain⟨its,rv,p,hz⟩:=I.list hq;obtain⟨u,hu,ru⟩:=rv.get hx;obtain⟨f0,f1,f2,f3,f4,f5⟩:=hf it (by simp);refine wpAny_pyNext_list_item st p.isList (x:=u) (by simpa using hu) fun h' st' sb=>?_;have I1:Inv X pins σ H { s with heap:=h' }:=I.turned (t':=s.toks) (fun b o hb e=>(sb.2 b hb).trans e) f0 f1 f3 f4 f5;obtain⟨o,e,c,d⟩:=id st';exact⟨u,rfl,ZjR (s:={ s with heap:=h' }) e c d (by decide) ⟨x,H,I1,ru,⟨rfl,fun ys hy=>by rw[I.list_inj hy hq];exact hx⟩,st',fun b hb=>(hf b hb).1⟩⟩
 done:=by
  intro X hP hw hK hc i pins s σ H E I hf st hg;subst hP hw hK;obtain⟨xs,hq,hx⟩:=hg;obtain⟨its,rv,p,hz⟩:=I.list hq;obtain⟨f0,f1,f2,f3,f4,f5⟩:=hf it (by simp);have hl:=rv.length;exact wpAny_pyNext_list_end (I.ok.hd hc) st p.isList (by simp;lia) fun h' eb=>⟨rfl,I.turned (t':=s.toks) (fun b o hb e=>eb b o hb e) f0 f1 f3 f4 f5⟩
 self:=fun _ _ _ _ _ st h=>wpAny_pyIter_listiter st h
theorem Zgu{P:Program}{w:World}{K:PySem.W.Frag}{tg:Expr}(a it:Addr):Turn P w K tg (Itt K a) [it] it (fun i h=>h.IsTupleIter it a i) where
 mem:=by simp
 obj:=fun i h st b hb=>by
  have e:b=it:=by simpa using hb
  subst e;obtain⟨o,e,c,d⟩:=st;exact⟨o,e,fun v z=>by rw[d] at z;cases z⟩
 keep:=fun i h h' st k=>st.at fun o e=>k it (by simp) o e
 item:=by
  intro X hP hw hK hc i pins s σ H E I hf st hg;subst hP hw hK;obtain⟨xs,x,hq,hx⟩:=hg;obtain⟨its,rv,p,hz⟩:=I.tuple hq;obtain⟨u,hu,ru⟩:=rv.get hx;obtain⟨f0,f1,f2,f3,f4,f5⟩:=hf it (by simp);refine wpAny_pyNext_tuple_item st (show s.heap.IsTuple a its.toArray from p) (x:=u) (by simpa using hu) fun h' st' sb=>?_;have I1:Inv X pins σ H { s with heap:=h' }:=I.turned (t':=s.toks) (fun b o hb e=>(sb.2 b hb).trans e) f0 f1 f3 f4 f5;obtain⟨o,e,c,d⟩:=id st';exact⟨u,rfl,ZjR (s:={ s with heap:=h' }) e c d (by decide) ⟨x,H,I1,ru,⟨rfl,fun ys hy=>by rw[I.tuple_inj hy hq];exact hx⟩,st',fun b hb=>(hf b hb).1⟩⟩
 done:=by
  intro X hP hw hK hc i pins s σ H E I hf st hg;subst hP hw hK;obtain⟨xs,hq,hx⟩:=hg;obtain⟨its,rv,p,hz⟩:=I.tuple hq;obtain⟨f0,f1,f2,f3,f4,f5⟩:=hf it (by simp);have hl:=rv.length;exact wpAny_pyNext_tuple_end (I.ok.hd hc) st (show s.heap.IsTuple a its.toArray from p) (by simp;lia) fun h' eb=>⟨rfl,I.turned (t':=s.toks) (fun b o hb e=>eb b o hb e) f0 f1 f3 f4 f5⟩
 self:=fun _ _ _ _ _ st h=>wpAny_pyIter_tupleiter st h
theorem Zgk{P:Program}{w:World}{K:PySem.W.Frag}{tg:Expr}(it:Addr)(lo:Int)(n:Nat):Turn P w K tg (Itr lo n) [it] it (fun i h=>IsRangeIter h it (lo+(i:Nat)*1) ((n:Int)-(i:Nat)) 1) where
 mem:=by simp
 obj:=fun i h st b hb=>by
  have e:b=it:=by simpa using hb
  subst e;exact⟨_,st,fun v z=>by
   have z':Data.fields _=Data.cell v:=z;cases z'⟩
 keep:=fun i h h' st k=>k it (by simp) _ st
 item:=by
  intro X hP hw hK hc i pins s σ H E I hf st hg;subst hP hw hK;obtain⟨f0,f1,f2,f3,f4,f5⟩:=hf it (by simp);have W:=Walks.range (prog:=X.prog) (w:=X.w) (I.ok.hd hc) it lo 1 n;refine W.item i s _ _ hg st fun v h' tk hv st' kk=>?_;obtain⟨t,rfl⟩:=hv;have I1:Inv X pins σ H { s with heap:=h',toks:=tk }:=I.turned (fun b o hb e=>kk b o (by simpa using hb) e) f0 f1 f3 f4 f5;refine⟨_,rfl,ZjR (s:={ s with heap:=h',toks:=tk }) (n := "range_iterator") st' rfl rfl (by decide) ⟨.int (lo+i),H,I1,⟨t,?_⟩,⟨rfl,rfl⟩,st',fun b hb=>(hf b hb).1⟩⟩;rw[Int.mul_one]
 done:=by
  intro X hP hw hK hc i pins s σ H E I hf st hg;subst hP hw hK;obtain⟨f0,f1,f2,f3,f4,f5⟩:=hf it (by simp);exact wpAny_pyNext_range_end (I.ok.hd hc) st (by have:n<=i:=hg;lia) fun h' eb=>⟨rfl,I.turned (t':=s.toks) (fun b o hb e=>eb b o hb e) f0 f1 f3 f4 f5⟩
 self:=fun _ _ _ _ _ st h=>wpAny_pyIter_rangeiter st h
section
variable{X:Cx}{tg:Expr}
def Zlu(K:PySem.W.Frag)(tl:TE):TI:=fun σ H R=>tl σ H fun x H1=>∃a,x=.ref a/\(∃xs,SqL K H1 a xs)/\R (Itl K a) H1
def Zl2(K:PySem.W.Frag)(tl:TE):TI:=fun σ H R=>tl σ H fun x H1=>∃a,x=.ref a/\(∃xs,SqT K H1 a xs)/\R (Itt K a) H1
theorem Zcr{l:Expr}{tl:TE}(hl:PE X l tl):PI X tg l (Zlu X.K tl):=by
 intro pins s σ H R I h;refine thn (hl pins s σ H _ I h) fun v s1 ⟨x,H1,I1,r1,q1⟩=>?_;obtain⟨a,e,⟨xs,hq⟩,q⟩:=q1;subst e;cases r1;obtain⟨its,rv,p,hz⟩:=I1.list hq;refine wpAny_pyIter_list p.isList ?_;refine⟨s1.heap.objs.size,[s1.heap.objs.size],_,_,H1,rfl,I1.kept (t':=s1.toks) fun b o e=>Heap.get?_push_of_some _ e,Zhu a _,⟨_,Heap.get?_push_size _ rfl,rfl,rfl⟩,fun b hb=>?_,q⟩;have e:b=s1.heap.objs.size:=by simpa using hb
 subst e;exact I1.fpOk (Nat.le_refl _) (I1.hok.fresh (Nat.le_refl _))
theorem Za8{l:Expr}{tl:TE}(hl:PE X l tl):PI X tg l (Zl2 X.K tl):=by
 intro pins s σ H R I h;refine thn (hl pins s σ H _ I h) fun v s1 ⟨x,H1,I1,r1,q1⟩=>?_;obtain⟨a,e,⟨xs,hq⟩,q⟩:=q1;subst e;cases r1;obtain⟨its,rv,p,hz⟩:=I1.tuple hq;refine wpAny_pyIter_tuple (show s1.heap.IsTuple a its.toArray from p) ?_;refine⟨s1.heap.objs.size,[s1.heap.objs.size],_,_,H1,rfl,I1.kept (t':=s1.toks) fun b o e=>Heap.get?_push_of_some _ e,Zgu a _,⟨_,Heap.get?_push_size _ rfl,rfl,rfl⟩,fun b hb=>?_,q⟩;have e:b=s1.heap.objs.size:=by simpa using hb
 subst e;exact I1.fpOk (Nat.le_refl _) (I1.hok.fresh (Nat.le_refl _))
theorem Zf8{pins:List (Addr×Obj)}{σ : St}{H:Hp}{s:Shared}{R:It->Hp->Prop}{E:Value->Shared->Prop}{lo hi:Int}{t u v:Tok}{tk:Nat}(I:Inv X pins σ H s)(h1 : -(2 ^ 62)<=lo)(h2:lo<2 ^ 62)(h3 : -(2 ^ 62)<=hi)(h4:hi<2 ^ 62)
  (q:R (Itr lo (hi-lo).toNat) H):wpAny (model X.prog X.w) X.A (pyIter (.ref s.heap.objs.size)) (PIE X pins σ tg R) E { s with heap:=s.heap.push { cls:=.type "range",data:=.fields #[.int lo t,.int hi u,.int 1 v] },toks:=tk }:=by
 refine wpAny_pyIter_range (IsRange.new ..) (small_one h1 h2 h3 h4) ?_;have I1:Inv X pins σ H { s with heap:=s.heap.push { cls:=.type "range",data:=.fields #[.int lo t,.int hi u,.int 1 v] },toks:=tk }:=I.kept fun b o e=>Heap.get?_push_of_some _ e;refine⟨(s.heap.push { cls:=.type "range",data:=.fields #[.int lo t,.int hi u,.int 1 v] }).objs.size,[(s.heap.push { cls:=.type "range",data:=.fields #[.int lo t,.int hi u,.int 1 v] }).objs.size],_,_,H,rfl,
  I1.kept (t':=tk) fun b o e=>Heap.get?_push_of_some _ e,Zgk _ lo (hi-lo).toNat,?_,fun b hb=>?_,q⟩
 ·have e1:lo+((0:Nat):Int)*1=lo:=by simp
  have e2:(((hi-lo).toNat:Nat):Int)-((0:Nat):Int)=Builtin.Range.rangeSize lo hi 1:=by rw[rangeSize_one];split <;> lia
  show IsRangeIter _ _ (lo+((0:Nat):Int)*1) ((((hi-lo).toNat:Nat):Int)-((0:Nat):Int)) 1;rw[e1,e2];exact Heap.get?_push_size _ rfl
 ·have e:b=(s.heap.push { cls:=.type "range",data:=.fields #[.int lo t,.int hi u,.int 1 v] }).objs.size:=by simpa using hb
  subst e;exact I1.fpOk (Nat.le_refl _) (I1.hok.fresh (Nat.le_refl _))
def ZlM(ta:TA):TI:=fun σ H R=>ta σ H fun vs H1=>∃j:Int,vs=[.int j] /\ -(2 ^ 62)<=j/\j<2 ^ 62/\R (Itr 0 j.toNat) H1
def ZlB(ta:TA):TI:=fun σ H R=>ta σ H fun vs H1=>∃i j:Int,vs=[.int i,.int j]/\(-(2 ^ 62)<=i/\i<2 ^ 62 /\ -(2 ^ 62)<=j/\j<2 ^ 62)/\R (Itr i (j-i).toNat) H1
theorem ZaI{a:Expr}{ta:TA}{p pos:Pos}(hg:Gl X "range") (hm:X.mg "range" = none) (ha:PA X [a] ta) (hs:starEach [a] X.env=[(false,eval a X.env)]:=by rfl):PI X tg (.Call (.Name "range" p) [a] [] pos) (ZlM ta):=by
 intro pins s σ H R I h;refine Call_ (ZbD I hg hm boot_range (PyProof.Rows.callWith_type1 (thn (ha pos pins s σ H _ I h) fun us s1 ⟨vs,H1,I1,r1,q1⟩=>?_) hs rfl));obtain⟨j,e,q1,q2,q⟩:=q1;subst e;cases r1 with
 | cons r rr =>
  cases rr;obtain⟨t,rfl⟩:=r;exact call_range_1 (Zf8 I1 (by lia) (by lia) q1 q2 (by simpa using q))
theorem Zig{a b:Expr}{ta:TA}{p pos:Pos}(hg:Gl X "range") (hm:X.mg "range" = none) (ha:PA X [a,b] ta) (hs:starEach [a,b] X.env=[(false,eval a X.env),(false,eval b X.env)]:=by rfl) (hs2:starEach [b] X.env=[(false,eval b X.env)]:=by rfl) :
  PI X tg (.Call (.Name "range" p) [a,b] [] pos) (ZlB ta):=by
 intro pins s σ H R I h;refine Call_ (ZbD I hg hm boot_range (PyProof.Rows.callWith_type1 (thn (ha pos pins s σ H _ I h) fun us s1 ⟨vs,H1,I1,r1,q1⟩=>?_) (by rw[hs,hs2]) (by rw[hs2];rfl)));obtain⟨i,j,e,⟨q1,q2,q3,q4⟩,q⟩:=q1;subst e;cases r1 with
 | cons r rr =>
  cases rr with
  | cons r' rr =>
   cases rr;obtain⟨t,rfl⟩:=r;obtain⟨t',rfl⟩:=r';exact call_range_2 (Zf8 I1 q1 q2 q3 q4 q)
def Zmp(wi:TI)(g:TG)(tb:TS):TS:=fun D σ H=>wi σ H fun J H1=>∃W:Nat->Nat->St->Hp->Prop,(∃m,W 0 m σ H1)/\∀i m σ H,W i m σ H ->
 (J.stop i H/\D.nx σ H)\/(J.go i H/\∃N:St->Hp->Prop,(∀ σ' H',N σ' H'->∃m',m'<m/\W (i+1) m' σ' H')/\∀x H',J.yld i H x H'->g x σ H' fun σ2 H2=>tb { D with nx:=N,ct:=N,bk:=D.nx } σ2 H2)
def Zf2(fp:List Addr)(h:Heap):List (Addr×Obj):=fp.filterMap fun b=>(h.get? b).map fun o=>(b,o)
theorem ZaA{fp:List Addr}{h:Heap}{b:Addr}{o:Obj}(hb:b∈fp)(e:h.get? b=some o):(b,o)∈Zf2 fp h:=List.mem_filterMap.mpr ⟨b,hb,by rw[e];rfl⟩
theorem ZhY{fp:List Addr}{h:Heap}{p:Addr×Obj}(hp:p∈Zf2 fp h):p.1∈fp/\h.get? p.1=some p.2:=by
 obtain⟨b,hb,e⟩:=List.mem_filterMap.mp hp;cases q:h.get? b with
 | none=>rw[q] at e;cases e
 | some o =>
  rw[q] at e;have e':(b,o)=p:=Option.some.inj e;subst e';exact⟨hb,q⟩
theorem Inv.pinned{pins:List (Addr×Obj)}{σ : St}{H:Hp}{s:Shared}{fp:List Addr}(I:Inv X pins σ H s)(hf:∀b∈fp,Zb9 X pins H b)(ho:∀b∈fp,∃o,s.heap.get? b=some o/\∀v,o.data ≠ .cell v):Inv X (pins++Zf2 fp s.heap) σ H s :=
 I.pins_of fun p hp=>(List.mem_append.mp hp).elim (fun z=>I.pin p (List.mem_append_right _ z)) fun z=>by
  obtain⟨hb,e⟩:=ZhY z;obtain⟨f0,f1,f2,_⟩:=hf p.1 hb;obtain⟨o,e',d⟩:=ho p.1 hb;rw[e] at e';cases e';exact⟨e,f0,f1,f2,d⟩
theorem Inv.unpinned{pins pl:List (Addr×Obj)}{σ : St}{H:Hp}{s:Shared}(I:Inv X (pins++pl) σ H s):Inv X pins σ H s:=I.pins_of fun p hp=>I.pin p (List.mem_append_right _ (List.mem_append_left _ hp))
theorem ZbX{iter:Expr}{body:List Stmt}{wi:TI}{g:TG}{tb:TS}{pos:Pos}(hp:PassesOwn (model X.prog X.w) X.A X.env X.xe)(hc:X.calm=true)(hi:PI X tg iter wi)(hg:PG X tg g)(hb:PSs X body tb)
  (hs:∀x,foldedSetIterable iter X.env x=pure x:=by intro _;rfl):PS X (.For tg iter body [] pos) (Zmp wi g tb):=by
 intro pins s σ H D I h;refine wpAny_For (thn (hi pins s σ H _ I h) fun v s1 h1=>thn h1 fun itv s2 h2=>?_) hs;obtain⟨it,fp,tn,J,H2,e,I2,T,st2,f2,W,⟨m0,w0⟩,turn⟩:=h2;subst e;have stat:∀{H':Hp},(∀b∈fp,H' b=none)->∀b∈fp,Zb9 X pins H' b:=fun hn b hb=>⟨hn b hb,(f2 b hb).2⟩;refine codeAny_forLoop_any (fun n s'=>∃i σ' H',Inv X pins σ' H' s'/\tn i s'.heap/\(∀b∈fp,H' b=none)/\W i n σ' H') ?_ m0 ⟨0,σ,H2,I2,st2,fun b hb=>(f2 b hb).1,w0⟩;rintro n s3 ⟨i,σ3,H3,I3,st3,fr3,w3⟩;rcases turn i n σ3 H3 w3 with⟨stop,qn⟩|⟨go,N,hN,step⟩
 ·refine wpAny_passesOwn hp (thn (T.done X rfl rfl rfl hc i pins s3 σ3 H3 X.xe I3 (stat fr3) st3 stop) fun r s4 ⟨hr,I4⟩=>?_);subst hr;exact wpAny_execs_nil ⟨σ3,H3,I4,qn⟩
 ·refine wpAny_passesOwn hp (thn (T.item X rfl rfl rfl hc i pins s3 σ3 H3 X.xe I3 (stat fr3) st3 go) fun r s4 ⟨u,hr,h4⟩=>?_);subst hr;refine wpAny_passesOwn hp (thn h4 fun _ s5 ⟨x,H5,I5,r5,y5,st5,fr5⟩=>?_);have I5':=I5.pinned (stat fr5) (T.obj _ _ st5);refine wpAny_passesOwn hp (thn (hg _ s5 σ3 H5 x u _ I5' r5 (step x H5 y5)) fun _ s6 ⟨σ6,H6,I6,q6⟩=>?_);refine wpAny_passesOwn hp (thn (hb _ s6 σ6 H6 _ I6 q6) fun f s7 q7=>?_);have again:∀{σ7:St}{H7:Hp},Inv X (pins++Zf2 fp s5.heap) σ7 H7 s7->N σ7 H7->∃m,m<n/\∃i σ' H',Inv X pins σ' H' s7/\tn i s7.heap/\(∀b∈fp,H' b=none)/\W i m σ' H':=fun{σ7 H7} I7 n7=>by
   obtain⟨m',hm,w7⟩:=hN σ7 H7 n7;refine⟨m',hm,i+1,σ7,H7,I7.unpinned,T.keep _ _ _ st5 fun b hb o e=>(I7.pin (b,o) (List.mem_append_right _ (List.mem_append_right _ (ZaA hb e)))).1,fun b hb=>?_,w7⟩;obtain⟨o,e,d⟩:=T.obj _ _ st5 b hb;exact(I7.pin (b,o) (List.mem_append_right _ (List.mem_append_right _ (ZaA hb e)))).2.1
  cases f with
  | next=>obtain⟨σ7,H7,I7,n7⟩:=q7;exact again I7 n7
  | cont=>obtain⟨σ7,H7,I7,n7⟩:=q7;exact again I7 n7
  | brk=>obtain⟨σ7,H7,I7,q7⟩:=q7;exact⟨σ7,H7,I7.unpinned,q7⟩
  | ret v=>obtain⟨x7,σ7,H7,I7,r7,q7⟩:=q7;exact⟨x7,σ7,H7,I7.unpinned,r7,q7⟩
end
theorem ZdU{K:PySem.W.Frag}{a:Addr}{xs:List V}{g:TG}{tb:TS}{D:Ends}{σ : St}{H:Hp}(Pv:Nat->St->Hp->Prop)(h0:Pv 0 σ H)(hl:∀i σ H,i<=xs.length->Pv i σ H->SqL K H a xs)
  (hs:∀i x σ H,xs[i]?= some x->Pv i σ H->g x σ H fun σ2 H2=>tb { D with nx:=Pv (i+1),ct:=Pv (i+1),bk:=D.nx } σ2 H2) (hd:∀ σ H,Pv xs.length σ H->D.nx σ H) :
  ∃W:Nat->Nat->St->Hp->Prop,(∃m,W 0 m σ H)/\∀i m σ H,W i m σ H ->
   ((Itl K a).stop i H/\D.nx σ H)\/((Itl K a).go i H/\∃N:St->Hp->Prop,(∀ σ' H',N σ' H'->∃m',m'<m/\W (i+1) m' σ' H')/\∀x H',(Itl K a).yld i H x H'->g x σ H' fun σ2 H2=>tb { D with nx:=N,ct:=N,bk:=D.nx } σ2 H2):=by
 refine⟨fun i m σ H=>m=xs.length-i/\i<=xs.length/\Pv i σ H,⟨xs.length,by simp,Nat.zero_le _,h0⟩,?_⟩;rintro i m σ H ⟨rfl,hi,p⟩;have q:=hl i σ H hi p;by_cases hlt:i<xs.length
 ·refine .inr ⟨⟨xs,xs[i],q,by simp[hlt]⟩,Pv (i+1),fun σ' H' p'=>⟨xs.length-(i+1),by lia,rfl,hlt,p'⟩,fun x H' y=>?_⟩;obtain⟨e,y⟩:=y;subst e;exact hs i x σ _ (y xs q) p
 ·have e:i=xs.length:=by lia
  subst e;exact .inl ⟨⟨xs,q,Nat.le_refl _⟩,hd σ H p⟩
theorem Zen{K:PySem.W.Frag}{a:Addr}{xs:List V}{g:TG}{tb:TS}{D:Ends}{σ : St}{H:Hp}(Pv:Nat->St->Hp->Prop)(h0:Pv 0 σ H)(hl:∀i σ H,i<=xs.length->Pv i σ H->SqT K H a xs)
  (hs:∀i x σ H,xs[i]?= some x->Pv i σ H->g x σ H fun σ2 H2=>tb { D with nx:=Pv (i+1),ct:=Pv (i+1),bk:=D.nx } σ2 H2) (hd:∀ σ H,Pv xs.length σ H->D.nx σ H) :
  ∃W:Nat->Nat->St->Hp->Prop,(∃m,W 0 m σ H)/\∀i m σ H,W i m σ H ->
   ((Itt K a).stop i H/\D.nx σ H)\/((Itt K a).go i H/\∃N:St->Hp->Prop,(∀ σ' H',N σ' H'->∃m',m'<m/\W (i+1) m' σ' H')/\∀x H',(Itt K a).yld i H x H'->g x σ H' fun σ2 H2=>tb { D with nx:=N,ct:=N,bk:=D.nx } σ2 H2):=by
 refine⟨fun i m σ H=>m=xs.length-i/\i<=xs.length/\Pv i σ H,⟨xs.length,by simp,Nat.zero_le _,h0⟩,?_⟩;rintro i m σ H ⟨rfl,hi,p⟩;have q:=hl i σ H hi p;by_cases hlt:i<xs.length
 ·refine .inr ⟨⟨xs,xs[i],q,by simp[hlt]⟩,Pv (i+1),fun σ' H' p'=>⟨xs.length-(i+1),by lia,rfl,hlt,p'⟩,fun x H' y=>?_⟩;obtain⟨e,y⟩:=y;subst e;exact hs i x σ _ (y xs q) p
 ·have e:i=xs.length:=by lia
  subst e;exact .inl ⟨⟨xs,q,Nat.le_refl _⟩,hd σ H p⟩
theorem ZeG{lo:Int}{n:Nat}{g:TG}{tb:TS}{D:Ends}{σ : St}{H:Hp}(Pv:Nat->St->Hp->Prop)(h0:Pv 0 σ H)
  (hs:∀i σ H,i<n->Pv i σ H->g (.int (lo+i)) σ H fun σ2 H2=>tb { D with nx:=Pv (i+1),ct:=Pv (i+1),bk:=D.nx } σ2 H2) (hd:∀ σ H,Pv n σ H->D.nx σ H) :
  ∃W:Nat->Nat->St->Hp->Prop,(∃m,W 0 m σ H)/\∀i m σ H,W i m σ H ->
   ((Itr lo n).stop i H/\D.nx σ H)\/((Itr lo n).go i H/\∃N:St->Hp->Prop,(∀ σ' H',N σ' H'->∃m',m'<m/\W (i+1) m' σ' H')/\∀x H',(Itr lo n).yld i H x H'->g x σ H' fun σ2 H2=>tb { D with nx:=N,ct:=N,bk:=D.nx } σ2 H2):=by
 refine⟨fun i m σ H=>m=n-i/\i<=n/\Pv i σ H,⟨n,by simp,Nat.zero_le _,h0⟩,?_⟩;rintro i m σ H ⟨rfl,hi,p⟩;by_cases hlt:i<n
 ·refine .inr ⟨hlt,Pv (i+1),fun σ' H' p'=>⟨n-(i+1),by lia,rfl,hlt,p'⟩,fun x H' y=>?_⟩;obtain⟨e,y⟩:=y;subst e y;exact hs i σ _ hlt p
 ·have e:i=n:=by lia
  subst e;exact .inl ⟨Nat.le_refl _,hd σ H p⟩
abbrev R2:=V->V->Hp->VK->Prop
def OpR(X:Cx)(f:Value->Value->Sem Value)(r:R2):Prop :=
 ∀(pins:List (Addr×Obj))(s:Shared)(σ : St)(H:Hp)(x y:V)(v u:Value)(Q:VK),Inv X pins σ H s->RelV x v->RelV y u->r x y H Q ->
  wpAny (model X.prog X.w) X.A (f v u) (EP X pins σ Q) X.xe s
def Zby(X:Cx)(f:Value)(r:List V->Hp->VK->Prop):Prop :=
 ∀(pins:List (Addr×Obj))(s:Shared)(σ : St)(H:Hp)(xs:List V)(us:List Value)(Q:VK),Inv X pins σ H s->Vals xs us->r xs H Q ->
  wpAny (model X.prog X.w) X.A (call f us) (EP X pins σ Q) X.xe s
def Zma(X:Cx)(r:V->Hp->(Bool->Hp->Prop)->Prop):Prop :=
 ∀(pins:List (Addr×Obj))(s:Shared)(σ : St)(H:Hp)(x:V)(v:Value)(Q:Bool->Hp->Prop),Inv X pins σ H s->RelV x v->r x H Q ->
  wpAny (model X.prog X.w) X.A (truthy v) (TP X pins σ Q) X.xe s
def tOp(r:R2)(ta tb:TE):TE:=fun σ H Q=>ta σ H fun x H1=>tb σ H1 fun y H2=>r x y H2 Q
def rI(C:Int->Int->Prop)(g:Int->Int->V):R2:=fun x y H Q=>∃i j,x=.int i/\y=.int j/\C i j/\Q (g i j) H
def rI0(g:Int->Int->V):R2:=fun x y H Q=>∃i j,x=.int i/\y=.int j/\Q (g i j) H
section
variable{X:Cx}{a b c:Expr}{ta tb tc:TE}{pos:Pos}
theorem Zlh(ha:PE X a ta)(hb:PE X b tb){pins:List (Addr×Obj)}{s:Shared}{σ : St}{H:Hp}{R:V->V->Hp->Prop}(I:Inv X pins σ H s)
  (h:ta σ H fun x H1=>tb σ H1 fun y H2=>R x y H2) {Q:Value->Shared->Prop} {f:Value->Value->Sem Value}
  (hf:∀v u s2 x y H2,Inv X pins σ H2 s2->RelV x v->RelV y u->R x y H2->wpAny (model X.prog X.w) X.A (f v u) Q X.xe s2) :
  wpAny (model X.prog X.w) X.A (eval a X.env) (fun v s₁=>wpAny (model X.prog X.w) X.A (eval b X.env) (fun u s₂=>wpAny (model X.prog X.w) X.A (f v u) Q X.xe s₂) X.xe s₁) X.xe s:=by
 refine thn (ha pins s σ H _ I h) fun v s1 ⟨x,H1,I1,r1,q1⟩=>?_;refine thn (hb pins s1 σ H1 _ I1 q1) fun u s2 ⟨y,H2,I2,r2,q2⟩=>?_;exact hf v u s2 x y H2 I2 r1 r2 q2
theorem Zg{op:Operator}{r:R2}(ho:OpR X (binaryOp op) r)(ha:PE X a ta)(hb:PE X b tb):PE X (.BinOp a op b pos) (tOp r ta tb):=by
 intro pins s σ H Q I h;exact wpAny_BinOp (Zlh ha hb I h fun v u s2 x y H2 I2 rx ry q=>ho pins s2 σ H2 x y v u Q I2 rx ry q)
theorem opI{f:Value->Value->Sem Value}{C:Int->Int->Prop}{g:Int->Int->Int}
  (rule:∀(i j:Int)(t u:Tok)(s:Shared)(Q:Value->Shared->Prop)(E:Value->Shared->Prop),C i j->Q (.int (g i j) s.toks) { s with toks:=s.toks+1 }->wpAny (model X.prog X.w) X.A (f (.int i t) (.int j u)) Q E s) :
  OpR X f (rI C fun i j=>.int (g i j)):=by
 intro pins s σ H x y v u Q I rx ry h;obtain⟨i,j,rfl,rfl,hc,q⟩:=h;obtain⟨t,rfl⟩:=rx;obtain⟨t',rfl⟩:=ry;exact rule i j t t' s _ _ hc ⟨.int (g i j),H,I.tok _,⟨_,rfl⟩,q⟩
theorem ZlS{f:Value->Value->Sem Value}{g:Int->Int->Int}
  (rule:∀(i j:Int)(t u:Tok)(s:Shared)(Q:Value->Shared->Prop)(E:Value->Shared->Prop),Q (.int (g i j) s.toks) { s with toks:=s.toks+1 }->wpAny (model X.prog X.w) X.A (f (.int i t) (.int j u)) Q E s) :
  OpR X f (rI0 fun i j=>.int (g i j)):=by
 intro pins s σ H x y v u Q I rx ry h;obtain⟨i,j,rfl,rfl,q⟩:=h;obtain⟨t,rfl⟩:=rx;obtain⟨t',rfl⟩:=ry;exact rule i j t t' s _ _ ⟨.int (g i j),H,I.tok _,⟨_,rfl⟩,q⟩
theorem Zlo{f:Value->Value->Sem Value}{g:Int->Int->Bool}
  (rule:∀(i j:Int)(t u:Tok)(s:Shared)(Q:Value->Shared->Prop)(E:Value->Shared->Prop),Q (.bool (g i j)) s->wpAny (model X.prog X.w) X.A (f (.int i t) (.int j u)) Q E s) :
  OpR X f (rI0 fun i j=>.bl (g i j)):=by
 intro pins s σ H x y v u Q I rx ry h;obtain⟨i,j,rfl,rfl,q⟩:=h;obtain⟨t,rfl⟩:=rx;obtain⟨t',rfl⟩:=ry;exact rule i j t t' s _ _ ⟨.bl (g i j),H,I,rfl,q⟩
def Zme(i j:Int):Prop:=0<j/\j<1073741824
def Zka(i j:Int):Prop:=(-(2 ^ 64)<i/\i<2 ^ 64)\/(-(2 ^ 64)<j/\j<2 ^ 64)
theorem Zka.ok{i j:Int}(h:Zka i j):IntMulOk i j:=by
 rcases h with⟨h1,h2⟩|⟨h1,h2⟩
 ·exact .of_left (intBits_le_64 h1 h2)
 ·exact .of_right (intBits_le_64 h1 h2)
theorem ZJ:OpR X (binaryOp .Add) (rI0 fun i j=>.int (i+j)):=ZlS fun _ _ _ _ _ _ _ q=>add_int q
theorem ZbE:OpR X (binaryOp .Sub) (rI0 fun i j=>.int (i-j)):=ZlS fun _ _ _ _ _ _ _ q=>sub_int q
theorem Z7:OpR X (binaryOp .Mult) (rI Zka fun i j=>.int (i*j)):=opI fun _ _ _ _ _ _ _ hc q=>mul_int q hc.ok
theorem Z3:OpR X (binaryOp .FloorDiv) (rI Zme fun i j=>.int (i / j)):=opI fun i j _ _ _ _ _ hc q=>by
 have h1:(0:Int)<j:=hc.1;have h2:j<1073741824:=hc.2;exact floordiv_int (by lia) (by rw[Int.fdiv_eq_ediv_of_nonneg i (by lia)];exact q) (.inl (PyProof.noPylong_small (by lia)))
theorem ZM:OpR X (binaryOp .Mod) (rI (fun _ j=>0<j) fun i j=>.int (i % j)):=opI fun i j _ _ _ _ _ hc q=>by
 have h1:(0:Int)<j:=hc;exact mod_int' (by lia) (by rw[Int.fmod_eq_emod_of_nonneg i (by lia)];exact q)
end
def ZlP:V->V->Bool
 | .non,.non=>true | .non,.int _=>true | .int _,.non=>true | .non,.bl _=>true | .bl _,.non=>true | .non,.str _=>true | .str _,.non=>true
 | .int _,.int _=>true | .bl _,.bl _=>true | .str _,.str _=>true | .byt _,.byt _=>true
 | .int _,.str _=>true | .str _,.int _=>true | .bl _,.str _=>true | .str _,.bl _=>true
 | _,_=>false
def rEq:R2:=fun x y H Q=>ZlP x y=true/\Q (.bl (decide (x=y))) H
def rNe:R2:=fun x y H Q=>ZlP x y=true/\Q (.bl (!decide (x=y))) H
theorem ZhM{i j:Int}:decide (V.int i=V.int j)=(i == j):=by
 rw[Bool.eq_iff_iff];simp
theorem Zi6{i j:Bool}:decide (V.bl i=V.bl j)=(i == j):=by
 rw[Bool.eq_iff_iff];simp
theorem ZhH{i j:Str}:decide (V.str i=V.str j)=(i == j):=by
 rw[Bool.eq_iff_iff];simp
theorem Zg8{i j:Array UInt8}:decide (V.byt i=V.byt j)=(i.toList == j.toList):=by
 rw[Bool.eq_iff_iff];cases i;cases j;simp
section
variable{X:Cx}{a b c:Expr}{ta tb tc:TE}{pos:Pos}
theorem Z5{pins:List (Addr×Obj)}{σ : St}{H:Hp}{s:Shared}{Q:VK}{k k':Bool}(I:Inv X pins σ H s)(q:Q (.bl k) H)(e:k=k'):EP X pins σ Q (.bool k') s:=by
 subst e;exact⟨.bl k,H,I,rfl,q⟩
theorem Zbi:OpR X (compareOp .Eq) rEq:=by
 intro pins s σ H x y v u Q I rx ry h;obtain⟨hs,q⟩:=h;cases x with
 | non =>
  cases rx;cases y with
  | non=>cases ry;exact PySem.EqNone.eq_none_none (Z5 I q (by simp))
  | bl j=>cases ry;exact PySem.EqNone.eq_none_bool (Z5 I q (by simp))
  | int j=>obtain⟨t',rfl⟩:=ry;exact PySem.EqNone.eq_none_int (Z5 I q (by simp))
  | str j=>obtain⟨t',rfl⟩:=ry;exact PySem.EqNone.eq_none_str (Z5 I q (by simp))
  | _=>exact absurd (show false=true from hs) Bool.false_ne_true
 | bl i =>
  cases rx;cases y with
  | non=>cases ry;exact PySem.EqNone.eq_bool_none (Z5 I q (by simp))
  | bl j=>cases ry;exact eq_bool (Z5 I q Zi6)
  | str j=>obtain⟨t',rfl⟩:=ry;exact PySem.EqMixed.eq_bool_str (Z5 I q (by simp))
  | _=>exact absurd (show false=true from hs) Bool.false_ne_true
 | int i =>
  obtain⟨t,rfl⟩:=rx;cases y with
  | non=>cases ry;exact PySem.EqNone.eq_int_none (Z5 I q (by simp))
  | int j=>obtain⟨t',rfl⟩:=ry;exact eq_int (Z5 I q ZhM)
  | str j=>obtain⟨t',rfl⟩:=ry;exact PySem.EqMixed.eq_int_str (Z5 I q (by simp))
  | _=>exact absurd (show false=true from hs) Bool.false_ne_true
 | str i =>
  obtain⟨t,rfl⟩:=rx;cases y with
  | non=>cases ry;exact PySem.EqNone.eq_str_none (Z5 I q (by simp))
  | bl j=>cases ry;exact PySem.EqMixed.eq_str_bool (Z5 I q (by simp))
  | int j=>obtain⟨t',rfl⟩:=ry;exact PySem.EqMixed.eq_str_int (Z5 I q (by simp))
  | str j=>obtain⟨t',rfl⟩:=ry;exact eq_str (Z5 I q ZhH)
  | _=>exact absurd (show false=true from hs) Bool.false_ne_true
 | byt i =>
  obtain⟨t,rfl⟩:=rx;cases y with
  | byt j=>obtain⟨t',rfl⟩:=ry;exact PySem.W.eq_bytes (Z5 I q Zg8)
  | _=>exact absurd (show false=true from hs) Bool.false_ne_true
 | _=>cases y <;> exact absurd (show false=true from hs) Bool.false_ne_true
theorem Zki:OpR X (compareOp .NotEq) rNe:=by
 intro pins s σ H x y v u Q I rx ry h;obtain⟨hs,q⟩:=h;cases x with
 | non =>
  cases rx;cases y with
  | non=>cases ry;exact PySem.EqNone.ne_none_none (Z5 I q (by simp))
  | bl j=>cases ry;exact PySem.EqNone.ne_none_bool (Z5 I q (by simp))
  | int j=>obtain⟨t',rfl⟩:=ry;exact PySem.EqNone.ne_none_int (Z5 I q (by simp))
  | str j=>obtain⟨t',rfl⟩:=ry;exact PySem.EqNone.ne_none_str (Z5 I q (by simp))
  | _=>exact absurd (show false=true from hs) Bool.false_ne_true
 | bl i =>
  cases rx;cases y with
  | non=>cases ry;exact PySem.EqNone.ne_bool_none (Z5 I q (by simp))
  | bl j=>cases ry;exact ne_bool (Z5 I q (congrArg not Zi6))
  | str j=>obtain⟨t',rfl⟩:=ry;exact PySem.EqMixed.ne_bool_str (Z5 I q (by simp))
  | _=>exact absurd (show false=true from hs) Bool.false_ne_true
 | int i =>
  obtain⟨t,rfl⟩:=rx;cases y with
  | non=>cases ry;exact PySem.EqNone.ne_int_none (Z5 I q (by simp))
  | int j=>obtain⟨t',rfl⟩:=ry;exact ne_int (Z5 I q (congrArg not ZhM))
  | str j=>obtain⟨t',rfl⟩:=ry;exact PySem.EqMixed.ne_int_str (Z5 I q (by simp))
  | _=>exact absurd (show false=true from hs) Bool.false_ne_true
 | str i =>
  obtain⟨t,rfl⟩:=rx;cases y with
  | non=>cases ry;exact PySem.EqNone.ne_str_none (Z5 I q (by simp))
  | bl j=>cases ry;exact PySem.EqMixed.ne_str_bool (Z5 I q (by simp))
  | int j=>obtain⟨t',rfl⟩:=ry;exact PySem.EqMixed.ne_str_int (Z5 I q (by simp))
  | str j=>obtain⟨t',rfl⟩:=ry;exact ne_str (Z5 I q (congrArg not ZhH))
  | _=>exact absurd (show false=true from hs) Bool.false_ne_true
 | byt i =>
  obtain⟨t,rfl⟩:=rx;cases y with
  | byt j=>obtain⟨t',rfl⟩:=ry;exact PySem.W.ne_bytes (Z5 I q (congrArg not Zg8))
  | _=>exact absurd (show false=true from hs) Bool.false_ne_true
 | _=>cases y <;> exact absurd (show false=true from hs) Bool.false_ne_true
theorem ZlJ:OpR X (compareOp .Lt) (rI0 fun i j=>.bl (decide (i<j))):=Zlo fun _ _ _ _ _ _ _ q=>lt_int q
theorem Zkc:OpR X (compareOp .LtE) (rI0 fun i j=>.bl (decide (i<=j))):=Zlo fun _ _ _ _ _ _ _ q=>le_int q
theorem ZhZ:OpR X (compareOp .Gt) (rI0 fun i j=>.bl (decide (j<i))):=Zlo fun _ _ _ _ _ _ _ q=>gt_int q
theorem ZkE:OpR X (compareOp .Is) (fun x y H Q=>y=.non/\Q (.bl (decide (x=.non))) H):=by
 intro pins s σ H x y v u Q I rx ry h;obtain⟨rfl,q⟩:=h;cases ry;refine is_none_gen (Z5 I q ?_);cases x <;> first
  | (cases rx;rfl)
  | (obtain⟨t,rfl⟩:=rx;rfl)
theorem OpR.or{f:Value->Value->Sem Value}{r r':R2}(h:OpR X f r)(h':OpR X f r'):OpR X f (fun x y H Q=>r x y H Q\/r' x y H Q):=by
 intro pins s σ H x y v u Q I rx ry q;rcases q with q|q
 ·exact h pins s σ H x y v u Q I rx ry q
 ·exact h' pins s σ H x y v u Q I rx ry q
theorem Z4(b:Expr){op:CmpOp}(h:op ≠ .In:=by decide)(h2:op ≠ .NotIn:=by decide):behindInMarks op b=false:=by
 have e1:(op == CmpOp.In)=false:=by cases op <;> first|rfl|exact absurd rfl h
 have e2:(op == CmpOp.NotIn)=false:=by cases op <;> first|rfl|exact absurd rfl h2
 cases b <;> simp[behindInMarks,e1,e2]
theorem ZbH{op:CmpOp}{r:R2}(ho:OpR X (compareOp op) r)(ha:PE X a ta)(hb:PE X b tb)(hm:behindInMarks op b=false):PE X (.Compare a [op] [b] pos) (tOp r ta tb):=by
 intro pins s σ H Q I h;exact wpAny_Compare1 (Zlh ha hb I h fun v u s2 x y H2 I2 rx ry q=>ho pins s2 σ H2 x y v u Q I2 rx ry q) hm
def ZlC(t:TE):TT:=fun σ H Q=>t σ H fun x H'=>∃k,x=.bl k/\Q k H'
theorem Z0{op:CmpOp}{r:R2}(ho:OpR X (compareOp op) r)(ha:PE X a ta)(hb:PE X b tb)(hm:behindInMarks op b=false):PT X (.Compare a [op] [b] pos) (ZlC (tOp r ta tb)):=by
 intro pins s σ H Q I h;refine wpAny_isTrue_Compare1 (thn (ha pins s σ H _ I h) fun v s1 ⟨x,H1,I1,r1,q1⟩=>thn (hb pins s1 σ H1 _ I1 q1) fun u s2 ⟨y,H2,I2,r2,q2⟩ =>
  thn (ho pins s2 σ H2 x y v u _ I2 r1 r2 q2) fun c s3 ⟨z,H3,I3,r3,k,e,q3⟩=>?_) hm
 subst e;cases r3;exact wpAny_truthy_bool ⟨H3,I3,q3⟩
def ZkF(r r':R2)(ta tb tc:TE):TE:=fun σ H Q=>ta σ H fun x H1=>tb σ H1 fun y H2=>r x y H2 fun z H3=>∃k,z=.bl k /\
 (if k=true then tc σ H3 fun w' H4=>r' y w' H4 Q else Q (.bl false) H3)
theorem ZiX{op op':CmpOp}{r r':R2}(ho:OpR X (compareOp op) r)(ho':OpR X (compareOp op') r')(ha:PE X a ta)(hb:PE X b tb)(hc:PE X c tc)
  (hm:lastMarks [op,op'] [b,c]=false:=by with_unfolding_all rfl):PE X (.Compare a [op,op'] [b,c] pos) (ZkF r r' ta tb tc):=by
 intro pins s σ H Q I h;refine Compare_chain (thn (ha pins s σ H _ I h) fun v s1 ⟨x,H1,I1,r1,q1⟩=>chain_link (thn (hb pins s1 σ H1 _ I1 q1) fun u s2 ⟨y,H2,I2,r2,q2⟩ =>
  thn (ho pins s2 σ H2 x y v u _ I2 r1 r2 q2) fun d s3 ⟨z,H3,I3,r3,k,e,q3⟩=>?_)) hm
 subst e;cases r3;refine wpAny_truthy_bool ?_;cases k with
 | false=>exact ite_ff ⟨.bl false,H3,I3,rfl,q3⟩
 | true=>exact ite_tt (chain_last (thn (hc pins s3 σ H3 _ I3 q3) fun w' s4 ⟨z',H4,I4,r4,q4⟩=>ho' pins s4 σ H4 y z' u w' Q I4 r2 r4 q4))
def ZlO(K:PySem.W.Frag)(x:V)(H:Hp)(k:Bool):Prop :=
 match x with
 | .non=>k=false
 | .bl b=>k=b
 | .int i=>k=(i != 0)
 | .str y=>y.length<=sizeLine/\k=((y.length:Int) != 0)
 | .byt y=>y.size<=sizeLine/\k=((y.size:Int) != 0)
 | .ref p=>(∃xs,SqL K H p xs/\k= !xs.isEmpty)\/(∃xs,SqT K H p xs/\k= !xs.isEmpty)\/∃kvs,H p=some (.dK kvs)/\k= !kvs.isEmpty
 | _=>False
theorem ZgO{κ : Type}{kvs:List (κ × V)}{vs:List (κ × Value)}(r:KV kvs vs):(!vs.isEmpty)= !kvs.isEmpty:=by
 cases r <;> rfl
theorem ZdH{xs:List V}{its:List Value}(r:Vals xs its):(!its.toArray.isEmpty)= !xs.isEmpty:=by
 cases r <;> simp
theorem ZdA:(sizeLine:Nat)<2 ^ 63:=by rw[sizeLine_eq];decide
theorem ZkO:Zma X (fun x H Q=>∃k,ZlO X.K x H k/\Q k H):=by
 intro pins s σ H x v Q I rx h;obtain⟨k,e,q⟩:=h;have hl:=ZdA;have hs:sizeLine=16777216:=sizeLine_eq;cases x with
 | non =>
  cases rx;have e':k=false:=e;subst e';exact truthy_none ⟨H,I,q⟩
 | bl b =>
  cases rx;have e':k=b:=e;subst e';exact wpAny_truthy_bool ⟨H,I,q⟩
 | int i =>
  obtain⟨t,rfl⟩:=rx;have e':k=(i != 0):=e;subst e';exact PySem.P.truthy_int ⟨H,I,q⟩
 | str y =>
  obtain⟨t,rfl⟩:=rx;obtain⟨hy,e'⟩:y.length<=sizeLine/\k=((y.length:Int) != 0):=e;subst e';exact PySem.P.truthy_str (by lia) ⟨H,I.tok _,q⟩
 | byt y =>
  obtain⟨t,rfl⟩:=rx;obtain⟨hy,e'⟩:y.size<=sizeLine/\k=((y.size:Int) != 0):=e;subst e';exact PySem.W.truthy_bytes (by lia) ⟨H,I.tok _,q⟩
 | ref p =>
  cases rx;have e':(∃xs,SqL X.K H p xs/\k= !xs.isEmpty)\/(∃xs,SqT X.K H p xs/\k= !xs.isEmpty)\/∃kvs,H p=some (.dK kvs)/\k= !kvs.isEmpty:=e;rcases e' with⟨xs,hx,e'⟩|⟨xs,hx,e'⟩|⟨kvs,hx,e'⟩
  ·subst e';obtain⟨its,r,pl,hz⟩:=I.list hx;have hlen:=r.length;exact wpAny_truthy_list pl.isList (by simp only[List.size_toArray];lia) ⟨H,I.tok _,by rw[ZdH r];exact q⟩
  ·subst e';obtain⟨its,r,pl,hz⟩:=I.tuple hx;have hlen:=r.length;exact truthy_tuple pl (by simp only[List.size_toArray];lia) ⟨H,I.tok _,by rw[ZdH r];exact q⟩
  ·subst e';obtain⟨hz,hS,vs,r,m⟩:kvs.length<=sizeLine/\(p == sysModules)=false/\∃vs,KV kvs vs/\s.heap.DictOf (Zaj X.prog X.w) p vs:=I.hok p _ hx;have hlen:kvs.length=vs.length:=Paired.length r;exact wpAny_truthy_dict hS m (by lia) ⟨H,I.tok _,by rw[ZgO r];exact q⟩
 | _=>exact(show False from e).elim
theorem Za7(ha:PE X a ta)(he:∀whole,isTrue a X.env whole=(do let v <- whole;standAt a.pos;holding [v] (truthy v))) :
  PT X a (fun σ H Q=>ta σ H fun x H'=>∃k,ZlO X.K x H' k/\Q k H'):=by
 intro pins s σ H Q I h;exact isTrue_plain (thn (ha pins s σ H _ I h) fun v s1 ⟨x,H1,I1,r1,q1⟩=>ZkO pins s1 σ H1 x v Q I1 r1 q1) (he _)
theorem Zbs:OpR X (binaryOp .Add) (fun x y H Q=>∃i j,x=.str i/\y=.str j/\i.length+j.length<=sizeLine/\Q (.str (i++j)) H):=by
 intro pins s σ H x y v u Q I rx ry h;obtain⟨i,j,rfl,rfl,hz,q⟩:=h;obtain⟨t,rfl⟩:=rx;obtain⟨t',rfl⟩:=ry;exact add_str (fun t' tk=>⟨.str (i++j),H,I.tok _,⟨_,rfl⟩,q⟩) hz
theorem vals1{x:V}{us:List Value}(r:Vals [x] us):∃u,us=[u]/\RelV x u:=by
 cases r with
 | cons r1 r2=>cases r2;exact⟨_,rfl,r1⟩
theorem vals2{x y:V}{us:List Value}(r:Vals [x,y] us):∃u w',us=[u,w']/\RelV x u/\RelV y w':=by
 cases r with
 | cons r1 r2 =>
  cases r2 with
  | cons r3 r4=>cases r4;exact⟨_,_,rfl,r1,r3⟩
theorem ZeV(hc:X.calm=true):Zby X (.builtin "max") (fun xs H Q=>∃i j,xs=[.int i,.int j]/\Q (.int (if j > i then j else i)) H):=by
 intro pins s σ H xs us Q I r h;obtain⟨i,j,rfl,q⟩:=h;obtain⟨u,w',rfl,⟨t,rfl⟩,⟨t',rfl⟩⟩:=vals2 r;refine max_two_ints (I.ok.hd hc) fun h' tk k=>⟨_,H,I.kept k,?_,q⟩;by_cases hj:j > i
 ·rw[if_pos hj,if_pos hj];exact⟨_,rfl⟩
 ·rw[if_neg hj,if_neg hj];exact⟨_,rfl⟩
theorem ZeM(hc:X.calm=true):Zby X (.builtin "min") (fun xs H Q=>∃i j,xs=[.int i,.int j]/\Q (.int (if j<i then j else i)) H):=by
 intro pins s σ H xs us Q I r h;obtain⟨i,j,rfl,q⟩:=h;obtain⟨u,w',rfl,⟨t,rfl⟩,⟨t',rfl⟩⟩:=vals2 r;refine min_two_ints (I.ok.hd hc) fun h' tk k=>⟨_,H,I.kept k,?_,q⟩;by_cases hj:j<i
 ·rw[if_pos hj,if_pos hj];exact⟨_,rfl⟩
 ·rw[if_neg hj,if_neg hj];exact⟨_,rfl⟩
end
theorem ZgU{h:Heap}{dx:Addr}{mA:Str->Option Value}(n:h.Ns1 dx mA):∃od,h.get? dx=some od/\∀name,PySem.W.lookIn name od=some (mA name):=by
 obtain⟨o,es,ep,ho,hd,hk,_,hm⟩:=n;refine⟨o,ho,fun name=>?_⟩;have e:=hm name;unfold nsFind findBy at e;rw[<- Array.find?_toList] at e;unfold PySem.W.lookIn;rw[hd];dsimp only
 split
 ·rename_i y q
  rw[q] at e;exact congrArg some e
 ·rename_i q
  rw[q] at e;have a:es.toList.any (·.refKey)=false:=by
   rw[List.any_eq_false];intro y hy;obtain⟨z,t,hkey⟩:=hk y (Array.mem_toList_iff.mp hy);simp[DictEntry.refKey,hkey]
  have a' : ¬ es.toList.any (·.refKey)=true:=by rw[a];exact Bool.false_ne_true
  rw[if_neg a'];exact congrArg some e
structure Room(k:Nat)(A:Around):Prop where
 hd:A.handled=none
 dp:A.depth+2*k+5<recursionLimit
 un:A.units+16*k+200<cLine
 gd:A.guards=some []
theorem Room.mono{j k:Nat}{A:Around}(r:Room k A)(h:j<=k):Room j A:=⟨r.hd,by have:=r.dp;lia,by have:=r.un;lia,r.gd⟩
theorem Room.deeper{k:Nat}{A:Around}(r:Room (k+1) A)(env:Env):Room k (A.deeper env) :=
 ⟨r.hd,by have:=r.dp;show A.depth+1+2*k+5<_;lia,by have:=r.un;show A.units+3+16*k+200<_;lia,r.gd⟩
theorem Room.depth{k:Nat}{A:Around}(r:Room k A):A.depth<recursionLimit:=by have:=r.dp;lia
def ZlK:TA:=fun _ H Q=>Q [] H
def Zjt(ta:TE)(tr:TA):TA:=fun σ H Q=>ta σ H fun x H1=>tr σ H1 fun xs H2=>Q (x::xs) H2
section
variable{X:Cx}{e:Expr}{es:List Expr}{te:TE}{t:TA}{pos:Pos}
theorem Zd:PA X [] ZlK:=fun _ _ _ _ H Q I h=>Calls.spliced_nil ⟨[],H,I,.nil,h⟩
theorem Za(ha:PE X e te)(hr:PA X es t)(hs:starEach (e::es) X.env=(false,eval e X.env)::starEach es X.env:=by rfl):PA X (e::es) (Zjt te t):=by
 intro pos pins s σ H Q I h;rw[hs];show wpAny _ _ (spliced ((false,eval e X.env)::backTo pos (starEach es X.env))) _ _ s;refine Calls.spliced_cons (thn (ha pins s σ H _ I h) fun u s1 ⟨x,H1,I1,r1,q1⟩=>?_);exact thn (hr pos pins s1 σ H1 _ I1 q1) fun us s2 ⟨xs,H2,I2,r2,q2⟩=>⟨x::xs,H2,I2,.cons r1 r2,q2⟩
def Zl8(t:TA):TE:=fun σ H Q=>t σ H fun xs H1=>xs.length<=sizeLine/\∀p,H1 p=none->Q (.ref p) (upd H1 p (.tup xs))
def Zmk(t:TA):TE:=fun σ H Q=>t σ H fun xs H1=>xs.length<=sizeLine/\∀p,H1 p=none->Q (.ref p) (upd H1 p (.lst xs))
theorem Zad{x1}(h:PA X es t):PE X (.Tuple es x1 pos) (Zl8 t):=by
 intro pins s σ H Q I hq;refine wpAny_Tuple_spliced (thn (h pos pins s σ H _ I hq) fun us s1 ⟨xs,H1,I1,r,z,q⟩=>⟨by rw[<- r.length];exact z,?_⟩);have hf:H1 s1.heap.objs.size=none:=I1.hok.fresh (Nat.le_refl _);refine⟨.ref s1.heap.objs.size,upd H1 s1.heap.objs.size (.tup xs),I1.laid (t':=s1.toks) (fun b u e=>Heap.get?_push_of_some _ e) (Nat.le_refl _) ?_,rfl,q _ hf⟩;exact⟨z,us,r,⟨_,Heap.get?_push_size _ rfl,rfl,_,rfl⟩⟩
theorem Zas(h:PA X es t):PE X (.List es pos) (Zmk t):=by
 intro pins s σ H Q I hq;refine wpAny_List_spliced (thn (h pos pins s σ H _ I hq) fun us s1 ⟨xs,H1,I1,r,z,q⟩=>⟨by rw[<- r.length];exact z,?_⟩);have hf:H1 s1.heap.objs.size=none:=I1.hok.fresh (Nat.le_refl _);refine⟨.ref s1.heap.objs.size,upd H1 s1.heap.objs.size (.lst xs),I1.laid (t':=s1.toks) (fun b u e=>Heap.get?_push_of_some _ e) (Nat.le_refl _) ?_,rfl,q _ hf⟩;exact⟨z,us,0,r,Heap.get?_push_size _ rfl⟩
end
abbrev Sp:=List V->Hp->VK->XK->Prop
abbrev CXT:=List Env->Hp->Shared->XK->Value->Shared->Prop
structure Env0(P:Program)(w:World)(K:PySem.W.Frag)(mg:Str->Option Value)(base:Heap)(A:Around)(outer:List Env)(s:Shared)(H:Hp):Prop where
 frames:A.frames=some outer
 mod:Mod K mg base
 bs:∀b o,base.get? b=some o->s.heap.get? b=some o/\H b=none
 bsz:base.objs.size<=s.heap.objs.size
 funs:s.heap.FunFrames base outer
 frf:∀b∈frs outer,H b=none
 hok:HOk P w H s.heap
 bare:AllBare s.gens
def CE(outer:List Env)(P:Program)(w:World)(H:Hp)(s:Shared)(Q:VK)(u:Value)(s':Shared):Prop :=
 ∃v H',s'.os=s.os/\AllBare s'.gens/\Un (frs outer) [] H H' s.heap s'.heap/\HOk P w H' s'.heap/\RelV v u/\Q v H'
def CR(CX:CXT)(outer:List Env)(P:Program)(w:World)(H:Hp)(s:Shared)(Q:VK)(E:XK)(r:Result)(s':Shared):Prop :=
 match r with
 | .ok (.ret u)=>CE outer P w H s Q u s'
 | .ok _=>False
 | .error e=>CX outer H s E e s'
structure FnOk(P:Program)(w:World)(K:PySem.W.Frag)(mg:Str->Option Value)(base:Heap)(CX:CXT)(k:Nat)(f:Addr)(fd:FuncData)(ps:List Str)(sp:Sp):Prop where
 len:∀vs H Q E,sp vs H Q E->vs.length=ps.length
 run:∀(A:Around)(outer:List Env)(s:Shared)(H:Hp)(args:Args)(us:List Value)(vs:List V)(Q:VK)(E:XK),Room k A->Env0 P w K mg base A outer s H->BindsTo s fd args (ps.zip us)->Vals vs us->sp vs H Q E ->
  codeAny (model P w) A (.call (.ref f) args) (CR CX outer P w H s Q E) s
section
variable{X:Cx}{pins:List (Addr×Obj)}{σ : St}{H:Hp}{s s':Shared}
theorem Inv.env0(I:Inv X pins σ H s):Env0 X.prog X.w X.K X.mg X.base X.A X.stack s H :=
 ⟨I.ok.frames,I.ok.mod,I.bs,Nat.le_trans I.ok.bsz I.sz,I.stack,I.stkFree,I.hok,I.bare⟩
theorem Inv.after{Q:VK}{u:Value}(I:Inv X pins σ H s)(h:CE X.stack X.prog X.w H s Q u s'):EP X pins σ Q u s':=by
 obtain⟨v,H',os,bare,un,hok,r,q⟩:=h;obtain⟨hh,g,d,t,os'⟩:=s';obtain rfl:os'=s.os:=os;exact⟨v,H',I.call (h':=hh) (g':=g) (d':=d) (t':=t) (ch:=[]) un hok bare (fun b z=>absurd z (by simp)),r,q⟩
end
def Zkp(sp:Sp)(dvs:List V)(E:XK)(t:TA):TE:=fun σ H Q=>t σ H fun vs H1=>sp (vs++dvs) H1 Q E
def Binds(K:PySem.W.Frag)(fd:FuncData)(ps:List Str)(ds:List Value):Prop :=
 ∀(s:Shared)(us:List Value),K.In s.heap->(us++ds).length=ps.length->BindsTo s fd ⟨us,[]⟩ (ps.zip (us++ds))
theorem Binds.all{K:PySem.W.Frag}{fd:FuncData}{ps:List Str}(h:∀us:List Value,us.length=ps.length->bindArgs fd ⟨us,[]⟩=pure (ps.zip us)):Binds K fd ps []:=fun s us _ hl=>by
 rw[List.append_nil] at hl ⊢;exact .of_eq (h us hl)
def Zg7(CX:CXT)(X:Cx)(E:XK):Prop := ∀(pins:List (Addr×Obj))(σ : St)(H:Hp)(s:Shared)(e:Value)(s':Shared),Inv X pins σ H s->CX X.stack H s E e s'->X.xe e s'
section
variable{X:Cx}{CX:CXT}{k:Nat}{f C:Addr}{fd:FuncData}{ps:List Str}{sp:Sp}{dvs:List V}{ds:List Value}{E:XK}{x m:Str}{p pos apos:Pos}{e o:Expr}{es:List Expr}{ta:TE}{t:TA}
theorem Zkg{pins:List (Addr×Obj)}{σ : St}{H:Hp}{s:Shared}{Q:VK}{us:List Value}{vs:List V}(F:FnOk X.prog X.w X.K X.mg X.base CX k f fd ps sp)(hr:Room k X.A)(hb:Binds X.K fd ps ds)(hd:Vals dvs ds)(hx:Zg7 CX X E)
  (I:Inv X pins σ H s) (r:Vals vs us) (h:sp (vs++dvs) H Q E):wpAny (model X.prog X.w) X.A (call (.ref f) us) (EP X pins σ Q) X.xe s:=by
 have r2:Vals (vs++dvs) (us++ds):=r.append hd;have hl:(us++ds).length=ps.length:=by rw[<- r2.length];exact F.len _ _ _ _ h
 refine wpAny_call (codeAny_mono (F.run X.A X.stack s H ⟨us,[]⟩ (us++ds) (vs++dvs) Q E hr I.env0 (hb s us I.kIn hl) r2 h) fun r s' hq=>?_);cases r with
 | error e=>exact hx pins σ H s e s' I hq
 | ok fl =>
  cases fl with
  | ret u=>exact I.after hq
  | next=>exact False.elim hq
  | brk=>exact False.elim hq
  | cont=>exact False.elim hq
theorem Zjy(F:FnOk X.prog X.w X.K X.mg X.base CX k f fd ps sp)(hr:Room k X.A)(hg:Gl X x)(hm:X.mg x=some (.ref f))(hk:PySem.W.keepIn X.K (.ref f)=true)(hb:Binds X.K fd ps ds)(hd:Vals dvs ds)(hx:Zg7 CX X E)
  (ha:PA X (e::es) t) (hdb:(x == ("__debug__" : Str))=false:=by decide) (he:starEach (e::es) X.env=(false,eval e X.env)::starEach es X.env:=by rfl) (hpl:(backTo pos (starEach es X.env)).any (·.1)=false:=by rfl) :
  PE X (.Call (.Name x p) (e::es) [] pos) (Zkp sp dvs E t):=by
 intro pins s σ H Q I h;refine wpAny_Call_Name_kw (Zeb I hg hm ?_ hdb);refine PySem.W.callWith_K (h₀ := X.base) I.ok.mod.kin hk (thn (ha pos pins s σ H _ I h) fun us s1 ⟨vs,H1,I1,r,q⟩=>⟨I1.kIn,?_⟩) he hpl;exact Zkg F hr hb hd hx I1 r q
end
structure FnScope(N P:List Str)(sc:Scope):Prop where
 kind:sc.kind=.function
 co:sc.isCoroutine=false
 gen:sc.isGenerator=false
 nd:N.Nodup
 pre:N.take P.length=P
 par:∀x∈P,sc.names.lookup x=some .local\/sc.names.lookup x=some .cell
 Zcy:∀y∈sc.names,y.2 ≠ .free
theorem Ze4{kindOf:Str->Option NameKind}{x:Str}:∀{binds:List (Str×Value)}{m:Str->Option Value},(∀v,(x,v)∉binds)->bindL kindOf binds m x=m x
 | [],_,_=>rfl
 | (n,v)::r,m,h=>by
  unfold bindL;rw[Ze4 fun w hw=>h w (List.mem_cons_of_mem _ hw)]
  split
  ·have:x≠n:=by rintro rfl;exact h v List.mem_cons_self
   simp[this]
  ·rfl
theorem ZeI{kindOf:Str->Option NameKind}{x:Str}:∀{binds:List (Str×Value)}{m:Str->Option Value},(∀v,(x,v)∉binds)->bindC kindOf binds m x=m x
 | [],_,_=>rfl
 | (n,v)::r,m,h=>by
  unfold bindC;rw[ZeI fun w hw=>h w (List.mem_cons_of_mem _ hw)]
  split
  ·rfl
  ·have:x≠n:=by rintro rfl;exact h v List.mem_cons_self
   simp[this]
theorem ZeJ{kindOf:Str->Option NameKind}{x:Str}{v:Value}:∀{P:List Str}{vs:List Value}{i:Nat}{m:Str->Option Value},P.Nodup->P[i]?= some x->vs[i]?= some v->kindOf x=some .local ->
  bindL kindOf (P.zip vs) m x=some v
 | [],_,_,_,_,h,_,_=>by simp at h
 | _::_,[],_,_,_,_,h,_=>by simp at h
 | p::P,w::vs,0,m,nd,h1,h2,hk=>by
  simp at h1 h2;subst h1;subst h2;show bindL kindOf ((p,w)::P.zip vs) m p=_;unfold bindL;rw[Ze4 fun v hv=>(List.nodup_cons.mp nd).1 (List.of_mem_zip hv).1,if_pos hk];simp
 | p::P,w::vs,i+1,m,nd,h1,h2,hk=>by
  show bindL kindOf ((p,w)::P.zip vs) m x=_;unfold bindL;exact ZeJ (i:=i) (List.nodup_cons.mp nd).2 (by simpa using h1) (by simpa using h2) hk
theorem ZeE{kindOf:Str->Option NameKind}{x:Str}{v:Value}:∀{P:List Str}{vs:List Value}{i:Nat}{m:Str->Option Value},P.Nodup->P[i]?= some x->vs[i]?= some v->kindOf x≠some .local ->
  bindC kindOf (P.zip vs) m x=some v
 | [],_,_,_,_,h,_,_=>by simp at h
 | _::_,[],_,_,_,_,h,_=>by simp at h
 | p::P,w::vs,0,m,nd,h1,h2,hk=>by
  simp at h1 h2;subst h1;subst h2;show bindC kindOf ((p,w)::P.zip vs) m p=_;unfold bindC;rw[ZeI fun v hv=>(List.nodup_cons.mp nd).1 (List.of_mem_zip hv).1,if_neg hk];simp
 | p::P,w::vs,i+1,m,nd,h1,h2,hk=>by
  show bindC kindOf ((p,w)::P.zip vs) m x=_;unfold bindC;exact ZeE (i:=i) (List.nodup_cons.mp nd).2 (by simpa using h1) (by simpa using h2) hk
def start(N:List Str)(vs:List V):St:=vs.map some++List.replicate (N.length-vs.length) none
def ZiY(CX:CXT)(P:Program)(w:World)(K:PySem.W.Frag)(mg:Str->Option Value)(base:Heap)(N:List Str)(qual:Str)(scope:Scope)(f:Addr)(cd:Value)(A:Around)(outer:List Env)(s:Shared)(H:Hp)(E:XK):Cx where
 prog:=P
 w:=w
 K:=K
 mg:=mg
 base:=base
 A:=A.deeper (envOfC qual scope s.heap.objs.size f cd)
 N:=N
 s₀ := s
 H₀ := H
 env:=envOfC qual scope s.heap.objs.size f cd
 outer:=outer
 stack:=envOfC qual scope s.heap.objs.size f cd::outer
 ex:=[]
 calm:=true
 fn:=fun _=>true
 pn:=[]
 xe:=fun e s'=>wpAny (model P w) (A.deeper (envOfC qual scope s.heap.objs.size f cd)) (leaving (envOfC qual scope s.heap.objs.size f cd) e) (fun _ s''=>CX outer H s E e s'') (fun e' s''=>CX outer H s E e' s'') s'
theorem ZfP{sc:Scope}{n:Nat}{x:Str}(h:sc.names.lookup x=some .cell):∃c,(cellsFrom n sc.names []).lookup x=some c:=by
 have q:=PySem.W.cellsFrom_some sc.names n [] (.inl h);exact Option.isSome_iff_exists.mp q
theorem Zie{CX:CXT}{P:Program}{w:World}{K:PySem.W.Frag}{mg:Str->Option Value}{base:Heap}{N ps:List Str}{qual:Str}{scope:Scope}{f:Addr}{cd:Value}{A:Around}{outer:List Env}{s s1:Shared}{H:Hp}{E:XK}{us:List Value}{vs:List V}
  (S:FnScope N ps scope) (hd:A.handled=none) (e0:Env0 P w K mg base A outer s H) (hl:vs.length=ps.length) (r:Vals vs us)
  (x:InCallC s s.heap.objs.size (bindL (envOfC qual scope s.heap.objs.size f cd).kindOf (ps.zip us) fun _=>none) (cellsFrom (s.heap.objs.size+1) scope.names []) (bindC (envOfC qual scope s.heap.objs.size f cd).kindOf (ps.zip us) fun _=>none) s1) :
  Inv (ZiY CX P w K mg base N qual scope f cd A outer s H E) [] (start N vs) H s1:=by
 have hpl:ps.length<=N.length:=by have:=congrArg List.length S.pre;rw[List.length_take] at this;lia
 obtain⟨h1,tk,rfl,hk⟩:=x.done;have noA:∀b:Addr,b∉(ZiY CX P w K mg base N qual scope f cd A outer s H E).ex:=fun b z=>absurd (show b∈([]:List Addr) from z) (by simp);refine⟨⟨e0.mod,S.kind,rfl,rfl,Nat.le_refl _,fun y z c h1 h2=>?_,fun y hy=>?_,fun y c _ h=>?_,fun _=>hd,Around.frames_deeper e0.frames,.inr ⟨rfl,rfl⟩,fun b z=>absurd z (noA b),e0.bs,e0.bsz,fun b _ _=>noA b,fun b z=>absurd z (noA b),e0.funs,e0.frf⟩,
  rfl,e0.bare,Un.kept hk,⟨_,x.toInCall.ns,fun i y v h1 h2 h3=>?_⟩,fun y c h=>⟨_,x.cell y c h⟩,e0.hok.fresh (Nat.le_refl _),fun y c h=>?_,fun p hp=>absurd (show p∈([]:List (Addr×Obj)) from hp) (by simp),e0.hok.kept hk,?_⟩
 ·exact name_of_addr x.apart (PySem.mem_of_lookup h1) (PySem.mem_of_lookup h2)
 ·have hy:scope.names.lookup y=some .cell\/scope.names.lookup y=some .free:=hy;rcases hy with hy|hy
  ·exact ZfP hy
  ·exact absurd rfl (S.Zcy _ (PySem.mem_of_lookup hy))
 ·exact Nat.le_of_lt (x.above y c (PySem.mem_of_lookup h))
 ·have hi:i<vs.length:=by
   unfold start at h2;by_cases hi:i<vs.length
   ·exact hi
   ·rw[List.getElem?_append_right (by simpa using hi)] at h2;rw[List.getElem?_replicate] at h2
    split at h2 <;> cases h2
  have ha:vs[i]?= some v:=by
   unfold start at h2;rw[List.getElem?_append_left (by simpa using hi),List.getElem?_map] at h2;cases e:vs[i]? with
   | none=>rw[e] at h2;cases h2
   | some a=>rw[e] at h2;cases h2;rfl
  obtain⟨u,hu,rv⟩:=r.get ha;have hp:ps[i]?= some y:=by
   rw[<- S.pre,List.getElem?_take_of_lt (by lia)];exact h1
  have ndP:ps.Nodup:=by rw[<- S.pre];exact S.nd.sublist (List.take_sublist _ _)
  refine⟨u,rv,?_⟩;rcases S.par y (List.mem_of_getElem? hp) with k|k
  ·exact .inl ⟨k,ZeJ ndP hp hu k⟩
  ·obtain⟨c,e⟩:=ZfP (n:=s.heap.objs.size+1) k;refine .inr ⟨.inl k,c,e,?_⟩;have q:=x.cell y c e;rw[ZeE ndP hp hu (by show scope.names.lookup y≠_;rw[k];decide)] at q;exact q
 ·exact e0.hok.fresh (Nat.le_of_lt (x.above y c (PySem.mem_of_lookup h)))
 ·unfold start;show _=N.length;rw[List.length_append,List.length_map,List.length_replicate];lia
theorem ZkI{CX:CXT}{P:Program}{w:World}{K:PySem.W.Frag}{mg:Str->Option Value}{base:Heap}{k:Nat}{f:Addr}{name qual:Str}{params:Arguments}{body:List Stmt}{scope:Scope}{dV kV doc pm cdv ct oc:Value}{an od:Option Addr}
  {osl:Array (Option Value)} {N ps:List Str} {sp:Sp} (lk:K.lookup f=some ⟨oc,od,.func (PySem.W.fnOf name qual params body scope dV kV doc pm an cdv ct),osl⟩) (hcd:PySem.W.codeIn K cdv qual=true) (S:FnScope N ps scope)
  (len:∀vs H Q E,sp vs H Q E->vs.length=ps.length)
  (hbody:∀(A:Around)(outer:List Env)(s:Shared)(H:Hp)(vs:List V)(Q:VK)(E:XK),Room k (A.deeper (envOfC qual scope s.heap.objs.size f cdv))->sp vs H Q E ->
   ∃t,PSs (ZiY CX P w K mg base N qual scope f cdv A outer s H E) body t/\t { nx:=fun _ H'=>Q .non H',rt:=Q } (start N vs) H) :
  FnOk P w K mg base CX (k+1) f (PySem.W.fnOf name qual params body scope dV kV doc pm an cdv ct) ps sp:=by
 refine⟨len,fun A outer s H args us vs Q E hr e0 hb r hsp=>?_⟩;have hl:=len _ _ _ _ hsp;have KX:K.In s.heap:=e0.mod.kin.keeps fun b o e=>(e0.bs b o e).1;have lim:s.heap.NoLimit:=e0.mod.nolimit.keeps fun b o e=>(e0.bs b o e).1;have hkind:∀y∈ps.zip us,scope.names.lookup y.1=some .local\/(scope.names.lookup y.1=some .cell/\((cellsFrom (s.heap.objs.size+1) scope.names []).lookup y.1).isSome=true):=fun⟨n,v⟩ hy=>by
  rcases S.par n (List.of_mem_zip hy).1 with q|q
  ·exact .inl q
  ·exact .inr ⟨q,PySem.W.cellsFrom_some _ _ _ (.inl q)⟩
 refine codeAny_call_function hr.depth (KX _ _ lk) rfl S.co S.gen rfl (PySem.W.codeRec_of KX hcd) (hb _ _ _ _ ?_);refine wpAny_newFunctionEnv_cells S.kind hkind fun env he s1 x=>?_;subst he;refine⟨lim.keeps x.toInCall.keep,codeAny_func ?_⟩;obtain⟨t,ht,hq⟩:=hbody A outer s H vs Q E (hr.deeper _) hsp;have I:Inv (ZiY CX P w K mg base N qual scope f cdv A outer s H E) [] (start N vs) H s1:=Zie S hr.hd e0 hl r x;refine wpAny_mono (ht [] s1 (start N vs) H _ I hq) (fun fl s' hs=>?_) fun e s' hs=>hs;have fin:∀{σ':St}{H':Hp}{v:V}{u:Value},Inv (ZiY CX P w K mg base N qual scope f cdv A outer s H E) [] σ' H' s'->RelV v u->Q v H'->CE outer P w H s Q u s' :=
  fun{σ' H' v u} J rv q=>⟨v,H',J.os,J.bare,J.base,J.hok,rv,q⟩
 cases fl with
 | ret u =>
  obtain⟨v,σ',H',J,rv,q⟩:=hs;exact fin J rv q
 | next =>
  obtain⟨σ',H',J,q⟩:=hs;exact fin (v:=V.non) (u:=Value.none) J rfl q
 | brk =>
  obtain⟨_,_,_,q⟩:=hs;exact False.elim q
 | cont =>
  obtain⟨_,_,_,q⟩:=hs;exact False.elim q
section
variable{X:Cx}{x:Str}{p pos:Pos}{e:Expr}{es:List Expr}{t:TA}{id T:String}{r:List V->Hp->VK->Prop}
def tCB(r:List V->Hp->VK->Prop)(t:TA):TE:=fun σ H Q=>t σ H fun vs H1=>r vs H1 Q
theorem ZV(hc:Zby X (.builtin id) r)(hg:Gl X x)(hm:X.mg x=none)(hv:bootBuiltins x=some (.builtin id))(ha:PA X (e::es) t)(hn:x ≠ "__name__" := by decide) (hdb:(x == ("__debug__" : Str))=false:=by decide)
  (he:starEach (e::es) X.env=(false,eval e X.env)::starEach es X.env:=by rfl) (hpl:(backTo pos (starEach es X.env)).any (·.1)=false:=by rfl):PE X (.Call (.Name x p) (e::es) [] pos) (tCB r t):=by
 intro pins s σ H Q I h;refine wpAny_Call_Name_kw (ZbD I hg hm hv ?_ hn hdb);exact PyProof.Rows.callWith_builtin1 (thn (ha pos pins s σ H _ I h) fun us s1 ⟨vs,H1,I1,r1,q1⟩=>hc pins s1 σ H1 vs us Q I1 r1 q1) he hpl
theorem ZL(hc:Zby X (.type T) r)(hg:Gl X x)(hm:X.mg x=none)(hv:bootBuiltins x=some (.type T))(ha:PA X (e::es) t)(hn:x ≠ "__name__" := by decide) (hdb:(x == ("__debug__" : Str))=false:=by decide)
  (he:starEach (e::es) X.env=(false,eval e X.env)::starEach es X.env:=by rfl) (hpl:(backTo pos (starEach es X.env)).any (·.1)=false:=by rfl):PE X (.Call (.Name x p) (e::es) [] pos) (tCB r t):=by
 intro pins s σ H Q I h;refine wpAny_Call_Name_kw (ZbD I hg hm hv ?_ hn hdb);exact PyProof.Rows.callWith_type1 (thn (ha pos pins s σ H _ I h) fun us s1 ⟨vs,H1,I1,r1,q1⟩=>hc pins s1 σ H1 vs us Q I1 r1 q1) he hpl
end
end L2
namespace HT
open PySem PyProof.Rows
section
variable{prog:Program}{w:World}{A:Around}{E:Value->Shared->Prop}{s:Shared}
def sIx(n d:Nat):Option Int->Nat
 | none=>d
 | some v=>if v<0 then(v+(n:Int)).toNat else min v.toNat n
theorem Zhc(n d k:Nat):sIx n d (some (k:Int))=min k n:=by
 show(if(k:Int)<0 then((k:Int)+(n:Int)).toNat else min (k:Int).toNat n)=min k n
 rw[if_neg (by lia),Int.toNat_natCast]
end
end HT
namespace L2
open PySem PySem.Spec PyProof.Rows
abbrev TO:=St->Hp->(Option Int->Hp->Prop)->Prop
def PO(X:Cx)(e:Option Expr)(t:TO):Prop :=
 ∀(pins:List (Addr×Obj))(s:Shared)(σ : St)(H:Hp)(Q:Option Int->Hp->Prop),Inv X pins σ H s->t σ H Q ->
  wpAny (model X.prog X.w) X.A (evalPart e X.env) (fun u s'=>∃o H',Inv X pins σ H' s'/\IsPart u o/\Q o H') X.xe s
def Zj9:TO:=fun _ H Q=>Q none H
def ZlH(t:TE):TO:=fun σ H Q=>t σ H fun x H1=>∃i,x=.int i/\Q (some i) H1
section
variable{X:Cx}{e:Expr}{te:TE}{lo hi:Option Expr}{tl th:TO}{pos p2:Pos}
theorem ZdL:PO X none Zj9:=by
 intro pins s σ H Q I h;rw[evalPart_none];exact wpAny_pure ⟨none,H,I,.none,h⟩
theorem Zck(h:PE X e te):PO X (some e) (ZlH te):=by
 intro pins s σ H Q I hw;rw[evalPart_some];refine thn (h pins s σ H _ I hw) fun u s1 ⟨x,H1,I1,r1,q1⟩=>?_;obtain⟨i,rfl,q⟩:=q1;obtain⟨t,rfl⟩:=r1;exact⟨some i,H1,I1,.int i t,q⟩
def SlR(X:Cx)(r:V->Option Int->Option Int->Hp->VK->Prop):Prop :=
 ∀(pins:List (Addr×Obj))(s:Shared)(σ : St)(H:Hp)(x:V)(v vl vu:Value)(lo hi:Option Int)(sl:Addr)(Q:VK),Inv X pins σ H s->RelV x v->s.heap.IsSliceOf sl vl vu .none->IsPart vl lo->IsPart vu hi->r x lo hi H Q ->
  ∃T id,typeLookup (.type T) "__getitem__" = pure (some (.builtin id))/\s.TypeIs v T/\wpAny (model X.prog X.w) X.A (getItem v (.ref sl)) (EP X pins σ Q) X.xe s
def tSl(r:V->Option Int->Option Int->Hp->VK->Prop)(te:TE)(tl th:TO):TE:=fun σ H Q=>te σ H fun x H1=>tl σ H1 fun l H2=>th σ H2 fun u H3=>r x l u H3 Q
theorem Zb7{r:V->Option Int->Option Int->Hp->VK->Prop}(hr:SlR X r)(he:PE X e te)(hl:PO X lo tl)(hu:PO X hi th):PE X (.Subscript e (.Slice lo hi none p2) pos) (tSl r te tl th):=by
 intro pins s σ H Q I h;refine Subscript_ (thn (he pins s σ H _ I h) fun v s1 ⟨x,H1,I1,r1,q1⟩=>?_);refine wpAny_Slice (thn (hl pins s1 σ H1 _ I1 q1) fun vl s2 ⟨l,H2,I2,pl,q2⟩=>thn (hu pins s2 σ H2 _ I2 q2) fun vu s3 ⟨u,H3,I3,pu,q3⟩=>?_);rw[evalPart_none];refine wpAny_pure ?_;have I4:Inv X pins σ H3 { s3 with heap:=s3.heap.push { cls:=.type "slice",data:=.fields #[vl,vu,.none] } }:=I3.kept (t':=s3.toks) fun b ob q=>Heap.get?_push_of_some _ q;obtain⟨T,id,hT,ht,hg⟩:=hr pins { s3 with heap:=s3.heap.push { cls:=.type "slice",data:=.fields #[vl,vu,.none] } } σ H3 x v vl vu l u s3.heap.objs.size Q I4 r1 (Heap.IsSliceOf.new ..) pl pu q3;show wpAny (model X.prog X.w) X.A (subscriptTail e (.Slice lo hi none p2) v (.ref s3.heap.objs.size)) (EP X pins σ Q) X.xe { s3 with heap:=s3.heap.push { cls:=.type "slice",data:=.fields #[vl,vu,.none] } };exact tail_any (ops:=[.ref s3.heap.objs.size,v]) ht hT hg (by with_unfolding_all rfl)
def ZdI(xs:List V)(lo hi:Option Int):List V:=(xs.drop (HT.sIx xs.length 0 lo)).take (HT.sIx xs.length xs.length hi-HT.sIx xs.length 0 lo)
theorem Zfz(xs:List V)(lo hi:Option Int):(ZdI xs lo hi).length<=xs.length:=by
 unfold ZdI;rw[List.length_take,List.length_drop];lia
end
def ixN(n:Nat)(i:Int):Option Nat:=if 0<=i then(if i<n then some i.toNat else none) else if -(n:Int)<=i then some (i+n).toNat else none
def atI{α : Type}(xs:List α)(i:Int):Option α := (ixN xs.length i).bind fun j=>xs[j]?
theorem Zjv{n:Nat}{i:Int}{j:Nat}(h:ixN n i=some j):seqIndex? i n=some j/\j<n /\ -(n:Int)<=i/\i<n:=by
 unfold ixN at h;by_cases h0:0<=i
 ·rw[if_pos h0] at h;by_cases h1:i<n
  ·rw[if_pos h1] at h;have e:i.toNat=j:=Option.some.inj h;exact⟨by rw[seqIndex_of h0 h1,e],by lia,by lia,h1⟩
  ·rw[if_neg h1] at h;cases h
 ·rw[if_neg h0] at h;by_cases h1 : -(n:Int)<=i
  ·rw[if_pos h1] at h;have e:(i+n).toNat=j:=Option.some.inj h;exact⟨by rw[seqIndex_neg (by lia) h1,e],by lia,h1,by lia⟩
  ·rw[if_neg h1] at h;cases h
theorem Zfm{α : Type}{xs:List α}{i:Int}{v : α}(h:atI xs i=some v):∃j,seqIndex? i xs.length=some j/\xs[j]?= some v/\j<xs.length /\ -(xs.length:Int)<=i/\i<xs.length:=by
 unfold atI at h;cases e:ixN xs.length i with
 | none=>rw[e] at h;cases h
 | some j =>
  rw[e] at h;obtain⟨h1,h2,h3,h4⟩:=Zjv e;exact⟨j,h1,h,h2,h3,h4⟩
theorem Zd2{α : Type}{xs:List α}{j:Nat}{v : α}(h:xs[j]?= some v):atI xs (j:Int)=some v:=by
 have hj:j<xs.length:=(List.getElem?_eq_some_iff.mp h).1;have e:ixN xs.length (j:Int)=some j:=by
  unfold ixN;rw[if_pos (by lia),if_pos (by lia)];simp
 unfold atI;rw[e];exact h
def Zj5(b:Expr):Prop := ∀o i,subscripted b false o i=operate [o,i] (getItem o i)
def IxR(X:Cx)(r:R2):Prop :=
 ∀(value slice:Expr)(pins:List (Addr×Obj))(s:Shared)(σ : St)(H:Hp)(x y:V)(v u:Value)(Q:VK),Inv X pins σ H s->RelV x v->RelV y u->r x y H Q ->
  subscripted slice false v u=operate [v,u] (getItem v u)->wpAny (model X.prog X.w) X.A (subscriptTail value slice v u) (EP X pins σ Q) X.xe s
def MtR(X:Cx)(id:String)(r:V->List V->Hp->VK->Prop):Prop :=
 ∀(pins:List (Addr×Obj))(s:Shared)(σ : St)(H:Hp)(x:V)(xs:List V)(v:Value)(us:List Value)(Q:VK),Inv X pins σ H s->RelV x v->Vals xs us->r x xs H Q ->
  wpAny (model X.prog X.w) X.A (call (.builtin id) (v::us)) (EP X pins σ Q) X.xe s
section
variable{X:Cx}{a b:Expr}{ta tb:TE}{pos:Pos}
theorem ZG{r:R2}(hr:IxR X r)(ha:PE X a ta)(hb:PE X b tb)(hs:Zj5 b):PE X (.Subscript a b pos) (tOp r ta tb):=by
 intro pins s σ H Q I h;exact Subscript_ (Zlh ha hb I h fun v u s2 x y H2 I2 rx ry q=>hr a b pins s2 σ H2 x y v u Q I2 rx ry q (hs _ _))
def Zl0(K:PySem.W.Frag):R2:=fun x y H Q=>∃p xs i v,x=.ref p/\y=.int i/\SqL K H p xs/\atI xs i=some v/\Q v H
def ZlW(K:PySem.W.Frag):R2:=fun x y H Q=>∃p xs i v,x=.ref p/\y=.int i/\SqT K H p xs/\atI xs i=some v/\Q v H
def Zmn:R2:=fun x y H Q=>∃z i c,x=.str z/\y=.int i/\z.length<=sizeLine/\atI z.cps.toList i=some c/\Q (.str ⟨#[c]⟩) H
theorem ZaK:IxR X (Zl0 X.K):=by
 intro value slice pins s σ H x y v u Q I rx ry h hs;obtain⟨p,xs,i,z,rfl,rfl,hq,he,q⟩:=h;cases rx;obtain⟨t,rfl⟩:=ry;obtain⟨its,r,pl,hz⟩:=I.list hq;obtain⟨j,h1,h2,h3,h4,h5⟩:=Zfm he;obtain⟨w,ew,rw'⟩:=r.get h2;have hl:=r.length;have hn:=ZdA;have fin:EP X pins σ Q w s:=⟨z,H,I,rw',q⟩;by_cases h0:0<=i
 ·have hj:i.toNat=j:=by
   rw[seqIndex_of h0 h5] at h1;exact Option.some.inj h1
  exact item_listR pl.isList h0 (by lia) (by rw[hj];simpa using ew) fin hs
 ·have hj:(i+(its.toArray.size:Int)).toNat=j:=by
   rw[seqIndex_neg (by lia) h4] at h1;rw[List.size_toArray,<- hl];exact Option.some.inj h1
  exact subscriptTail_builtinR (x:=w) pl.isList.typeIs slot_list_getitem.lookup
   (wpAny_getItem_list_neg (Q:=fun r s'=>r=w/\EP X pins σ Q r s') pl.isList (by lia) (by rw[List.size_toArray] <;> lia) (by lia) (by rw[hj];simpa using ew) ⟨rfl,fin⟩) hs
theorem Zy:IxR X (ZlW X.K):=by
 intro value slice pins s σ H x y v u Q I rx ry h hs;obtain⟨p,xs,i,z,rfl,rfl,hq,he,q⟩:=h;cases rx;obtain⟨t,rfl⟩:=ry;obtain⟨its,r,pl,hz⟩:=I.tuple hq;obtain⟨j,h1,h2,h3,h4,h5⟩:=Zfm he;obtain⟨w,ew,rw'⟩:=r.get h2;have hl:=r.length;have hn:=ZdA;have fin:EP X pins σ Q w s:=⟨z,H,I,rw',q⟩;exact subscriptTail_builtinR (x:=w) pl.typeIs slot_tuple_getitem.lookup
  (getItem_tuple (j:=j) (Q:=fun r s'=>r=w/\EP X pins σ Q r s') pl (by lia) (by lia) (by rw[List.size_toArray,<- hl];exact h1) (by simpa using ew) ⟨rfl,fin⟩) hs
theorem Zh0:IxR X Zmn:=by
 intro value slice pins s σ H x y v u Q I rx ry h hs;obtain⟨z,i,c,rfl,rfl,hz,he,q⟩:=h;obtain⟨t,rfl⟩:=rx;obtain⟨t',rfl⟩:=ry;obtain⟨j,h1,h2,h3,h4,h5⟩:=Zfm he;have hl:z.cps.toList.length=z.length:=by simp[Str.length]
 rw[hl] at h1 h4 h5;have hn:=ZdA;exact tail_any (typeIs_str s z t) slot_str_getitem.lookup (getItem_str (c:=c) (by
  have e1:decide (i < -(2 ^ 63:Int))=false:=decide_eq_false (by lia);have e2:decide (i>=2 ^ 63)=false:=decide_eq_false (by lia);rw[e1,e2,Bool.or_false]) (by rw[h1];simpa using h2) ⟨.str ⟨#[c]⟩,H,I.tok _,⟨_,rfl⟩,q⟩) hs
theorem Ze0(lo hi:Option Int)(n:Nat):(sliceBounds lo hi none n).1=((HT.sIx n 0 lo:Nat):Int)/\(sliceBounds lo hi none n).2.1=((HT.sIx n n hi:Nat):Int)/\(sliceBounds lo hi none n).2.2=1:=by
 refine⟨?_,?_,rfl⟩
 ·cases lo with
  | none=>simp[sliceBounds,HT.sIx]
  | some i =>
   simp only[sliceBounds,HT.sIx,Option.getD_none,show(1:Int) > 0 by decide,if_true];by_cases h:i<0
   ·simp only[h,if_true] <;> lia
   ·simp only[h,if_false] <;> lia
 ·cases hi with
  | none=>simp[sliceBounds,HT.sIx]
  | some i =>
   simp only[sliceBounds,HT.sIx,Option.getD_none,show(1:Int) > 0 by decide,if_true];by_cases h:i<0
   ·simp only[h,if_true] <;> lia
   ·simp only[h,if_false] <;> lia
theorem Zd5(its:List Value)(lo hi:Option Int):slicePick its.toArray lo hi none=((its.drop (HT.sIx its.length 0 lo)).take (HT.sIx its.length its.length hi-HT.sIx its.length 0 lo)).toArray:=by
 obtain⟨h1,h2,h3⟩:=Ze0 lo hi its.toArray.size;unfold slicePick;rw[h1,h2,h3];simp only[sliceRange_one,pick_run,List.size_toArray] <;> rfl
def Zmc(K:PySem.W.Frag):V->Option Int->Option Int->Hp->VK->Prop:=fun x lo hi H Q=>∃a xs,x=.ref a/\SqL K H a xs/\∀p,H p=none->Q (.ref p) (upd H p (.lst (ZdI xs lo hi)))
theorem Zfr:SlR X (Zmc X.K):=by
 intro pins s σ H x v vl vu lo hi sl Q I rx hs pl pu h;obtain⟨a,xs,rfl,hx,q⟩:=h;cases rx;obtain⟨its,r,ht,hz⟩:=I.list hx;have hlen:=r.length;refine⟨"list",_,slot_list_getitem.lookup,ht.isList.typeIs,?_⟩;refine wpAny_getItem_list_slice ht.isList hs pl pu .none (by simp) ?_ (by rw[List.size_toArray] <;> lia)
 rw[Zd5,<- hlen];refine⟨.ref s.heap.objs.size,_,I.laid (t':=s.toks) (o:=.lst (ZdI xs lo hi)) (fun b ob q=>Heap.get?_push_of_some _ q) (Nat.le_refl _) ?_,rfl,q _ (I.hok.fresh (Nat.le_refl _))⟩;exact⟨Nat.le_trans (Zfz xs lo hi) hz,_,0,(r.drop (HT.sIx xs.length 0 lo)).take (HT.sIx xs.length xs.length hi-HT.sIx xs.length 0 lo),Heap.get?_push_size _ rfl⟩
def Zdm:V->Bool
 | .non=>true
 | .bl _=>true
 | .int _=>true
 | .str _=>true
 | _=>false
def eqV:V->V->Bool
 | .non,.non=>true
 | .bl a,.bl b=>a == b
 | .bl a,.int b=>(if a then 1 else 0) == b
 | .int a,.bl b=>a == (if b then 1 else 0)
 | .int a,.int b=>a == b
 | .str a,.str b=>a == b
 | _,_=>false
theorem Zkt{A:Around}{s:Shared}{y x:V}{u v:Value}(ry:RelV y u)(rx:RelV x v)(fy:Zdm y=true)(fx:Zdm x=true):SeqAt.EqAt A s u v (eqV y x):=by
 cases y with
 | non =>
  cases ry;cases x with
  | non=>cases rx;exact SeqAt.EqAt.same _
  | bl b=>cases rx;exact SeqAt.EqAt.none_bool b
  | int b=>obtain⟨t,rfl⟩:=rx;exact SeqAt.EqAt.none_int b t
  | str b=>obtain⟨t,rfl⟩:=rx;exact SeqAt.EqAt.none_str b t
  | _=>exact absurd (show false=true from fx) Bool.false_ne_true
 | bl a =>
  cases ry;cases x with
  | non=>cases rx;exact SeqAt.EqAt.bool_none a
  | bl b=>cases rx;exact SeqAt.EqAt.bool_bool a b
  | int b=>obtain⟨t,rfl⟩:=rx;exact SeqAt.EqAt.bool_int a b t
  | str b=>obtain⟨t,rfl⟩:=rx;exact SeqAt.EqAt.bool_str a b t
  | _=>exact absurd (show false=true from fx) Bool.false_ne_true
 | int a =>
  obtain⟨t',rfl⟩:=ry;cases x with
  | non=>cases rx;exact SeqAt.EqAt.int_none a t'
  | bl b=>cases rx;exact SeqAt.EqAt.int_bool a t' b
  | int b=>obtain⟨t,rfl⟩:=rx;exact SeqAt.EqAt.int_int a t' b t
  | str b=>obtain⟨t,rfl⟩:=rx;exact SeqAt.EqAt.int_str a t' b t
  | _=>exact absurd (show false=true from fx) Bool.false_ne_true
 | str a =>
  obtain⟨t',rfl⟩:=ry;cases x with
  | non=>cases rx;exact SeqAt.EqAt.str_none a t'
  | bl b=>cases rx;exact SeqAt.EqAt.str_bool a t' b
  | int b=>obtain⟨t,rfl⟩:=rx;exact SeqAt.EqAt.str_int a t' b t
  | str b=>obtain⟨t,rfl⟩:=rx;exact SeqAt.EqAt.str_str a t' b t
  | _=>exact absurd (show false=true from fx) Bool.false_ne_true
 | _=>exact absurd (show false=true from fy) Bool.false_ne_true
def eqU(x:V)(u:Value):Bool:=match u with
 | .none=>eqV .non x
 | .bool b=>eqV (.bl b) x
 | .int i _=>eqV (.int i) x
 | .str z _=>eqV (.str z) x
 | _=>false
theorem Zjr{x y:V}{u:Value}(r:RelV y u)(f:Zdm y=true):eqU x u=eqV y x:=by
 cases y with
 | non=>cases r;rfl
 | bl b=>cases r;rfl
 | int i=>obtain⟨t,rfl⟩:=r;rfl
 | str z=>obtain⟨t,rfl⟩:=r;rfl
 | _=>exact absurd (show false=true from f) Bool.false_ne_true
theorem Zfd{x:V}:∀{xs:List V}{us:List Value},Vals xs us->xs.all Zdm=true->us.any (eqU x)=xs.any fun y=>eqV y x
 | _,_,.nil,_=>rfl
 | y::xs,u::us,.cons r t,f=>by
  rw[List.all_cons,Bool.and_eq_true] at f;rw[List.any_cons,List.any_cons,Zjr r f.1,Zfd t f.2]
theorem ZbS{A:Around}{s:Shared}{x:V}{v:Value}(rx:RelV x v)(fx:Zdm x=true):∀{xs:List V}{us:List Value},Vals xs us->xs.all Zdm=true->∀u∈us,SeqAt.EqAt A s u v (eqU x u)
 | _,_,.nil,_=>fun u hu=>by cases hu
 | y::xs,u::us,.cons r t,f=>fun u' hu=>by
  rw[List.all_cons,Bool.and_eq_true] at f;rcases List.mem_cons.mp hu with rfl|hu
  ·rw[Zjr r f.1];exact Zkt r rx f.1 fx
  ·exact ZbS rx fx t f.2 u' hu
def inV(x:V)(xs:List V):Bool:=xs.any fun y=>eqV y x
def rIn(K:PySem.W.Frag)(neg:Bool):R2:=fun x y H Q=>∃p xs,y=.ref p/\(SqL K H p xs\/SqT K H p xs)/\Zdm x=true/\xs.all Zdm=true/\Q (.bl (if neg then !inV x xs else inV x xs)) H
theorem Zia:OpR X (compareOp .In) (rIn X.K false):=by
 intro pins s σ H x y v u Q I rx ry h;obtain⟨p,xs,rfl,hq,fx,fs,q⟩:=h;cases ry;rcases hq with hq|hq
 ·obtain⟨its,r,pl,hz⟩:=I.list hq;refine SeqAt.in_listAt (eqU x) pl.isList (fun w hw=>ZbS rx fx r fs w (by simpa using hw)) ⟨.bl _,H,I,rfl,?_⟩;rw[show its.toArray.any (eqU x)=its.any (eqU x) by simp,Zfd r fs];exact q
 ·obtain⟨its,r,pl,hz⟩:=I.tuple hq;refine SeqAt.in_tupleAt (eqU x) pl (fun w hw=>ZbS rx fx r fs w (by simpa using hw)) ⟨.bl _,H,I,rfl,?_⟩;rw[show its.toArray.any (eqU x)=its.any (eqU x) by simp,Zfd r fs];exact q
theorem Zag:Zby X (.builtin "len") (fun xs H Q=>∃p ys,xs=[.ref p]/\(SqL X.K H p ys\/SqT X.K H p ys)/\Q (.int ys.length) H):=by
 intro pins s σ H xs us Q I r h;obtain⟨p,ys,rfl,hq,q⟩:=h;obtain⟨u,rfl,rx⟩:=vals1 r;cases rx;have hn:=ZdA;rcases hq with hq|hq
 ·obtain⟨its,r',pl,hz⟩:=I.list hq;have hlen:=r'.length;exact Calls.call_len_list pl.isList (by simp only[List.size_toArray] <;> lia) ⟨.int ys.length,H,I.tok _,⟨s.toks+1,by rw[List.size_toArray,hlen]⟩,q⟩
 ·obtain⟨its,r',pl,hz⟩:=I.tuple hq;have hlen:=r'.length;exact len_tuple pl (by simp only[List.size_toArray] <;> lia) ⟨.int ys.length,H,I.tok _,⟨s.toks+1,by rw[List.size_toArray,hlen]⟩,q⟩
theorem Ze1:Zby X (.builtin "len") (fun xs H Q=>∃z,xs=[.str z]/\z.length<=sizeLine/\Q (.int z.length) H):=by
 intro pins s σ H xs us Q I r h;obtain⟨z,rfl,hz,q⟩:=h;obtain⟨u,rfl,t,rfl⟩:=vals1 r;have hn:=ZdA;exact len_str (by lia) ⟨.int z.length,H,I.tok _,⟨_,rfl⟩,q⟩
theorem Z2:Zby X (.type "list") (fun xs H Q=>∃p ys,xs=[.ref p]/\(SqL X.K H p ys\/SqT X.K H p ys)/\∀l,H l=none->Q (.ref l) (upd H l (.lst ys))):=by
 intro pins s σ H xs us Q I r h;obtain⟨p,ys,rfl,hq,q⟩:=h;obtain⟨u,rfl,rx⟩:=vals1 r;cases rx;have fin:∀(its:List Value),Vals ys its->ys.length<=sizeLine->∀(h':Heap)(c':Nat),(∀b o',s.heap.get? b=some o'->h'.get? b=some o') ->
   h'.get? s.heap.objs.size=some { cls:=.type "list",dict:=none,data:=.seq its.toArray c',slots :=#[] }->EP X pins σ Q (.ref s.heap.objs.size) { s with heap:=h' }:=fun its r' hz h' c' kp e =>
  ⟨.ref s.heap.objs.size,_,I.laid (t':=s.toks) kp (Nat.le_refl _) (show ZaJ X.prog X.w _ h' _ (.lst ys) from⟨hz,its,c',r',e⟩),rfl,q _ (I.hok.fresh (Nat.le_refl _))⟩
 rcases hq with hq|hq
 ·obtain⟨its,r',pl,hz⟩:=I.list hq;have hlen:=r'.length;obtain⟨o,ho,hc,n,hd⟩:=pl.isList;exact call_list_seq p (.inl rfl) ho hc hd (fun h' c' kp e=>fin its r' hz h' c' kp e) (by simp only[List.size_toArray] <;> lia)
 ·obtain⟨its,r',pl,hz⟩:=I.tuple hq;have hlen:=r'.length;obtain⟨o,ho,hc,n,hd⟩:=pl;exact call_list_seq p (.inr rfl) ho hc hd (fun h' c' kp e=>fin its r' hz h' c' kp e) (by simp only[List.size_toArray] <;> lia)
theorem Z1:Zby X (.type "tuple") (fun xs H Q=>∃p ys,xs=[.ref p]/\((SqL X.K H p ys/\∀l,H l=none->Q (.ref l) (upd H l (.tup ys)))\/(SqT X.K H p ys/\Q (.ref p) H))):=by
 intro pins s σ H xs us Q I r h;obtain⟨p,ys,rfl,h⟩:=h;obtain⟨u,rfl,rx⟩:=vals1 r;cases rx;rcases h with⟨hq,q⟩|⟨hq,q⟩
 ·obtain⟨its,r',pl,hz⟩:=I.list hq;have hlen:=r'.length;refine call_tuple_list pl.isList (fun h' kp=>?_) (by simp only[List.size_toArray] <;> lia)
  have I1:Inv X pins σ H { s with heap:=h' }:=I.kept (t':=s.toks) kp;have I2:Inv X pins σ (upd H h'.objs.size (.tup ys)) { s with heap:=h'.push { cls:=.type "tuple",data:=.seq its.toArray } } :=
   I1.laid (t':=s.toks) (fun b o e=>Heap.get?_push_of_some _ e) (Nat.le_refl _) (show ZaJ X.prog X.w _ _ _ (.tup ys) from⟨hz,its,r',IsTup.new _ _⟩)
  exact⟨.ref h'.objs.size,_,I2,rfl,q _ (I1.hok.fresh (Nat.le_refl _))⟩
 ·obtain⟨its,r',pl,hz⟩:=I.tuple hq;exact call_tuple_same pl ⟨.ref p,H,I,rfl,q⟩
def tyV(K:PySem.W.Frag)(T:String)(x:V)(H:Hp):Prop:=match x with
 | .str _=>T= "str"
 | .int _=>T= "int"
 | .ref p=>(T= "list" /\ ∃xs,SqL K H p xs)\/(T= "tuple" /\ ∃o,K.lookup p=some o/\o.cls=.type "tuple" /\ o.dict=none) \/
   (T= "dict" /\ ((∃kvs,H p=some (.dK kvs))\/∃kvs,H p=some (.dT kvs)))\/(T= "set" /\ ∃S n,H p=some (.set S n))
 | _=>False
theorem Zkq{pins:List (Addr×Obj)}{σ : St}{H:Hp}{s:Shared}{T:String}{x:V}{v:Value}(I:Inv X pins σ H s)(r:RelV x v)(ty:tyV X.K T x H) :
  s.TypeIs v T/\∀a,v=.ref a->∃ob,s.heap.get? a=some ob/\ob.dict=none:=by
 cases x with
 | str z =>
  obtain⟨t,rfl⟩:=r;cases (show T= "str" from ty);exact⟨typeIs_str s z t,fun _ e=>nomatch e⟩
 | int i =>
  obtain⟨t,rfl⟩:=r;cases (show T= "int" from ty);exact⟨typeIs_int s i t,fun _ e=>nomatch e⟩
 | ref p =>
  cases r;rcases ty with⟨rfl,xs,hq⟩|⟨rfl,o,hk,hc,hd⟩|⟨rfl,hk⟩|⟨rfl,S,n,hk⟩
  ·obtain⟨its,_,pl,_⟩:=I.list hq;refine⟨pl.isList.typeIs,fun a e=>?_⟩;cases e;obtain⟨o,n,e,c,hd,_⟩:=pl;exact⟨o,e,hd⟩
  ·refine⟨⟨o,I.kIn p o hk,hc⟩,fun a e=>?_⟩;cases e;exact⟨o,I.kIn _ o hk,hd⟩
  ·have z:∃o,s.heap.get? p=some o/\o.ExactDict:=by
    rcases hk with⟨kvs,hk⟩|⟨kvs,hk⟩
    ·obtain⟨_,_,_,_,o,_,_,e,ex,_⟩:=I.hok p _ hk;exact⟨o,e,ex⟩
    ·obtain⟨_,_,_,_,o,_,_,e,ex,_⟩:=I.hok p _ hk;exact⟨o,e,ex⟩
   obtain⟨o,e,ex⟩:=z;refine⟨⟨o,e,ex.1⟩,fun a e2=>?_⟩;cases e2;exact⟨o,e,ex.2.1⟩
  ·obtain⟨o,_,_,_,e,ex,_⟩:=I.hok p _ hk;refine⟨⟨o,e,ex.1⟩,fun a e2=>?_⟩;cases e2;exact⟨o,e,ex.2.1⟩
 | _=>exact False.elim ty
def tBM(K:PySem.W.Frag)(T:String)(r:V->List V->Hp->VK->Prop)(to:TE)(t:TA):TE:=fun σ H Q=>to σ H fun x H1=>tyV K T x H1/\t σ H1 fun xs H2=>r x xs H2 Q
variable{o e:Expr}{es:List Expr}{to:TE}{t:TA}{name:Str}{apos cpos:Pos}{T id:String}{r:V->List V->Hp->VK->Prop}
theorem Ze2(pa:PlainAttrs T)(slot:Slot T name id)(hty:typeOf (.builtin id)=pure (.type "method_descriptor")) (hm:MtR X id r) (ho:PE X o to) (ha:PA X (e::es) t)
  (hbase:attributeBase o name X.env (eval o X.env)=eval o X.env:=by rfl)
  (hfew:((backTo cpos (starEach (e::es) X.env)).all (fun x=>!x.1)&&(backToKw cpos (keywordEach [] X.env)).all (fun x=>x.1.isSome)
   && decide ((e::es).length+([]:List Keyword).length+(if([]:List Keyword).isEmpty then 0 else 1)<30))=true:=by rfl)
  (hline:(apos.endLine == cpos.line)=true:=by rfl) (hs:starEach (e::es) X.env=(false,eval e X.env)::starEach es X.env:=by rfl) (hplain:(backTo cpos (starEach es X.env)).any (·.1)=false:=by rfl) :
  PE X (.Call (.Attribute o name apos) (e::es) [] cpos) (tBM X.K T r to t):=by
 intro pins s σ H Q I h;refine wpAny_Call_method_late hbase hfew hline rfl (thn (ho pins s σ H _ I h) fun v s1 ⟨x,H1,I1,r1,ty,q1⟩=>?_);obtain⟨h1,h2⟩:=Zkq I1 r1 ty;refine⟨T,id,pa,slot,hty,h1,h2,?_⟩;have hA:=ha cpos pins s1 σ H1 _ I1 q1;rw[hs] at hA ⊢;refine Calls.callWith_builtin (by show(false || (backTo cpos (starEach es X.env)).any (·.1))=false;rw[hplain] <;> rfl) (Calls.evalArgs_plain ?_)
 exact thn hA fun us s2 ⟨vs,H2,I2,r2,q2⟩=>hm pins s2 σ H2 x vs v us Q I2 r1 r2 q2
/- xs.append(e),list.index on a module's tuple .. are MtR facts of 06m -/
end
def MtM(X:Cx)(id:String)(r:V->List V->Hp->VK->Prop):Prop :=
 ∀(pins:List (Addr×Obj))(s:Shared)(σ : St)(H:Hp)(x:V)(xs:List V)(v:Value)(us:List Value)(Q:VK),Inv X pins σ H s->RelV x v->Vals xs us->r x xs H Q ->
  wpAny (model X.prog X.w) X.A (call (.builtin id) (v::us)) (EP X pins σ Q) X.xe s
theorem Vals.one:∀{x:V}{us:List Value},Vals [x] us->∃u,us=[u]/\RelV x u
 | _,_,.cons r .nil=>⟨_,rfl,r⟩
theorem Vals.two:∀{x y:V}{us:List Value},Vals [x,y] us->∃u v,us=[u,v]/\RelV x u/\RelV y v
 | _,_,_,.cons r (.cons q .nil)=>⟨_,_,rfl,r,q⟩
section
variable{X:Cx}{pins:List (Addr×Obj)}{σ : St}{H:Hp}{s:Shared}{l b:Addr}{xs ys zs:List V}
theorem Inv.lset{its its':List Value}{n:Nat}{f:Array Value->Array Value}{t':Nat}(I:Inv X pins σ H s)(hH:H l=some (.lst xs))
  (e:s.heap.get? l=some { cls:=.type "list",data:=.seq its.toArray n }) (hf:f its.toArray=its'.toArray) (hv:Vals ys its') (hz:ys.length<=sizeLine) :
  Inv X pins σ (upd H l (.lst ys)) { s with heap:=s.heap.update l (Obj.mapSeq f),toks:=t' }:=by
 have q:=PySem.IsL.update e f;rw[hf] at q;refine I.write (x:=l) (e:=l) (by rw[hH];exact trivial) (.inl rfl) (fun b' u hb hu=>(Heap.get?_update_other s.heap (Obj.mapSeq f) (Ne.symm hb)).trans hu) ⟨_,q⟩ ?_;exact⟨hz,its',_,hv,q⟩
theorem Inv.lnew{its:List Value}{t':Nat}(I:Inv X pins σ H s)(hv:Vals ys its)(hz:ys.length<=sizeLine) :
  Inv X pins σ (upd H s.heap.objs.size (.lst ys)) { s with heap:=s.heap.push { cls:=.type "list",data:=.seq its.toArray },toks:=t' } :=
 I.laid (fun _ _ q=>Heap.get?_push_of_some _ q) (Nat.le_refl _) ⟨hz,its,0,hv,Heap.get?_push_size _ rfl⟩
theorem Inv.fresh(I:Inv X pins σ H s):H s.heap.objs.size=none:=I.hok.fresh (Nat.le_refl _)
theorem Inv.lstM(I:Inv X pins σ H s)(hH:H l=some (.lst xs)):xs.length<=sizeLine/\∃(its:List Value)(n:Nat),Vals xs its/\xs.length=its.length/\s.heap.get? l=some { cls:=.type "list",data:=.seq its.toArray n }:=by
 obtain⟨z,its,n,r,e⟩:=I.hok l _ hH;exact⟨z,its,n,r,r.length,e⟩
theorem ZiG{n:Nat}(h:n<=sizeLine):Builtin.List.listTooLong n=false:=by
 unfold Builtin.List.listTooLong;exact decide_eq_false (by lia)
end
section
variable{X:Cx}
def ZjE:V->List V->Hp->VK->Prop:=fun x vs H Q=>∃l xs y,x=.ref l/\vs=[y]/\H l=some (.lst xs)/\xs.length<sizeLine/\Q .non (upd H l (.lst (xs ++ [y])))
theorem Zbf:MtM X "list.append" ZjE:=by
 intro pins s σ H x vs v us Q I rx rv h;obtain⟨l,xs,y,rfl,rfl,hH,hz,q⟩:=h;cases rx;obtain⟨u,rfl,ru⟩:=rv.one;obtain⟨z,its,n,r,hl,e⟩:=I.lstM hH;refine call_meets F.slot_list_append ⟨_,e,rfl⟩ F.entry_list_append (F.args_list_append_2 _ _) (PySem.list_append l its.toArray n u (by rw[List.size_toArray];lia)) ⟨e,?_⟩;refine⟨.non,_,I.lset (its':=its ++ [u]) hH e (by simp) (r.append (.cons ru .nil)) ?_,rfl,q⟩;rw[List.length_append,List.length_singleton];lia
def Zj4:V->List V->Hp->VK->Prop:=fun x vs H Q=>∃l b xs zs,x=.ref l/\vs=[.ref b]/\H l=some (.lst xs)/\H b=some (.lst zs)/\xs.length+zs.length<=sizeLine/\Q .non (upd H l (.lst (xs++zs)))
theorem ZcV:MtM X "list.extend" Zj4:=by
 intro pins s σ H x vs v us Q I rx rv h;obtain⟨l,b,xs,zs,rfl,rfl,hH,hB,hz,q⟩:=h;cases rx;obtain⟨u,rfl,ru⟩:=rv.one;cases ru;obtain⟨z,its,n,r,hl,e⟩:=I.lstM hH;obtain⟨z2,its2,n2,r2,hl2,e2⟩:=I.lstM hB;have hsz:its.toArray.size+its2.toArray.size<=sizeLine:=by rw[List.size_toArray,List.size_toArray];lia
 have hlong : ¬ (!its.toArray.isEmpty&&Builtin.List.listTooLong (its.toArray.size+its2.toArray.size))=true:=by
  rw[ZiG hsz,Bool.and_false];exact Bool.false_ne_true
 refine call_meets F.slot_list_extend ⟨_,e,rfl⟩ F.entry_list_extend (F.args_list_extend_2 _ _)
  (AutoSeq1.list_extend_list_list_0 l its.toArray n b its2.toArray n2 hlong (by rw[List.size_toArray];lia) (by lia)) ⟨e,e2,?_⟩
 refine⟨.non,_,I.lset (its':=its++its2) hH e (by simp) (r.append r2) ?_,rfl,q⟩;rw[List.length_append];lia
def Zmf:R2:=fun x y H Q=>∃l b xs zs,x=.ref l/\y=.ref b/\H l=some (.lst xs)/\H b=some (.lst zs)/\xs.length+zs.length<=sizeLine/\∀p,H p=none->Q (.ref p) (upd H p (.lst (xs++zs)))
theorem ZaL:OpR X (binaryOp .Add) Zmf:=by
 intro pins s σ H x y v u Q I rx ry h;obtain⟨l,b,xs,zs,rfl,rfl,hH,hB,hz,q⟩:=h;cases rx;cases ry;obtain⟨z,its,n,r,hl,e⟩:=I.lstM hH;obtain⟨z2,its2,n2,r2,hl2,e2⟩:=I.lstM hB;refine PySem.P.add_list e e2 ?_ (by rw[List.size_toArray,List.size_toArray];lia);have ea:its.toArray++its2.toArray=(its++its2).toArray:=by simp
 rw[ea];exact⟨.ref _,_,I.lnew (t':=s.toks) (r.append r2) (by rw[List.length_append];lia),rfl,q _ I.fresh⟩
end
end L2
namespace Att
open PySem PySem.W PySem.Calls PyProof.Rows
theorem Zdl{P:Params}{h:Heap}:∀(ns:List Int)(vs:List Value),WellAll P h vs (ns.map WData.int)->IntsAre vs ns:=by
 intro ns
 induction ns with
 | nil =>
  intro vs w;rw[List.map_nil] at w;cases w;exact .nil
 | cons n ns ih =>
  intro vs w;rw[List.map_cons] at w;cases w with
  | cons a b =>
   cases a;exact .cons _ _ (ih _ b)
theorem Zh3{l:OpenLaw}{n:Nat}(hn:l.most=some n){P:Params}{h:Heap}{args:List WData}{vals:List Value}
  (hpre:l.row.toRowW.claim.pre args=true) (hwl:WellAll P h vals args) :
  ∃a vs ns,vals=[Value.ref a]/\args=[WData.list (ns.map WData.int)]/\h.get? a=some { cls:=.type "list",data:=.seq vs.toArray }/\IntsAre vs ns/\ns.length<=n:=by
 have hsh:WShape.hasAll [] args [.list .int]=true:=(pre_splitW hpre).1;have hc:l.pre.holds [] { args:=args }=true:=(pre_splitW hpre).2;obtain⟨d,r,rfl,h1,h2⟩:=hasAllW_cons hsh;obtain rfl:=hasAllW_nil h2;obtain⟨xs,rfl,h3⟩:=hasW_list h1;obtain⟨ns,rfl⟩:=items_int h3;have hlen:ns.length<=n:=by
  unfold OpenLaw.pre at hc;have h4:(WTm.not (.lt (.lit (.int (n:Int))) (.len (.arg 0)))).holds [] { args:=[.list (ns.map .int)] }=true:=by
   have h4:=(holds_andW hc).1;rw[hn] at h4;exact h4
  have h5:=condW_of h4 (w_not (w_lt w_lit (w_len_list (w_arg rfl))));rw[List.length_map] at h5;refine Nat.le_of_not_lt fun q=>?_;have q':(n:Int)<((ns.length:Nat):Int):=by lia
  first
   | (rw[decide_eq_true q'] at h5;exact absurd h5 (by decide))
   | (simp at h5;lia)
 cases hwl with
 | cons w1 w2 =>
  cases w2;cases w1 with
  | list ho hall=>exact⟨_,_,ns,rfl,rfl,ho,Zdl ns _ hall,hlen⟩
theorem ZgS(l:OpenLaw)(args:List WData):l.row.toRowW.claim.post args (.bool true) args=true :=
 postW_of (r:=l.row.toRowW) (X:=(true == true))
  (show WShape.has [] (.bool true) .bool=true by first|rfl|decide|simp[WShape.has,WShape.arms,WShape.armsAll])
  (show(WTm.eq .res (.lit (.bool true))).value [] { args:=args,res:=some (.bool true),after:=args }=some (.bool (true == true)) from w_eq_bool (w_res rfl) w_lit) rfl
theorem ZfB{l:OpenLaw}{n:Nat}{q:Program}{loose:List Str}{XP:(Str->Option Value)->Heap->Prop}{YP:World->Heap->Prop}{d:DefRec}
  (hn:l.most=some n) (hdf:d.params.defaults=[])
  (call:∀(w:World)(s₀ s₁ : Shared)(mg mb:Str->Option Value)(fa:Addr)(o:Obj)(pm cd doc:Value)(a:Addr)(vs:List Value)(ns:List Int),
   Ground q loose [] XP w s₀ mg mb s₁.heap->YP w s₁.heap ->
   s₁.heap.get? fa=some o->o.data=.func (docDef d.name d.params d.body d.scope pm cd doc)->s₁.heap.CodeRec cd d.name->mg d.name=some (.ref fa) ->
   s₁.heap.get? a=some { cls:=.type "list",data:=.seq vs.toArray }->IntsAre vs ns->ns.length<=n->s₁.gens=#[] ->
   codeAny (model l.prog w) callerA (.call (.ref fa) ⟨[.ref a],[]⟩) (fun r s'=>r=.ok (.ret (.bool true))/\OldK s₁.heap s'.heap/\s'.os=s₁.os/\AllBare s'.gens) s₁) :
  WalkO q loose XP YP l.row.toRowW d [] (fun f vs=>PySem.call f vs):=by
 intro w s₀ s₁ mg mb G Y fa o pm cd doc dV kV ho hd hcd hD hmg hg args vals as hpre hlay hrd hwl hlo;obtain rfl:dV=.none:=Dflts.none hD hdf;obtain rfl:kV=.none:=Dflts.noKw hD;obtain⟨a,vs,ns,rfl,rfl,hobj,hints,hlen⟩:=Zh3 hn hpre hwl;refine enter_call (codeAny_mono (call w s₀ s₁ mg mb fa o pm cd doc a vs ns G Y ho (fd_plain hd) hcd hmg hobj hints hlen hg) fun r s' hq=>?_);obtain⟨rfl,h2,h3,h4⟩:=hq;exact⟨.inl ⟨.bool true,.bool true,[],rfl,fun _=>rfl,.bool true,ZgS l _,fun _=>⟨List.Pairwise.nil,fun _ hm=>(nomatch hm)⟩⟩,h2,h3,h4⟩
end Att
namespace L2
open PySem PySem.Spec PyProof.Rows
theorem Zex:∀{vs:List Value}{ns:List Int},IntsAre vs ns->Vals (ns.map V.int) vs
 | _,_,.nil=>.nil
 | _,_,.cons n t h=>.cons ⟨t,rfl⟩ (Zex h)
def Only(H:Hp):Prop := ∀b,H b=none\/∃o xs,H b=some (.frz o (.lst xs))
theorem ZiW{P:Program}{w:World}{K:PySem.W.Frag}{mg mb:Str->Option Value}{CX:CXT}{k:Nat}{fa a:Addr}{fd:FuncData}{x:Str}{sp:Sp}{s₁ : Shared}{vs:List Value}{ns:List Int}
  (KX:K.In s₁.heap) (hns:s₁.heap.Ns mainGlobals mg) (hb:s₁.heap.Ns builtinsNs mb) (hbb:∀x:Str,x ≠ "__name__" -> mb x=bootBuiltins x) (hlim:s₁.heap.NoLimit) (hg:s₁.gens=#[])
  (ha:s₁.heap.get? a=some { cls:=.type "list",data:=.seq vs.toArray }) (hi:IntsAre vs ns) (hl:ns.length<=sizeLine) (hr:Room k callerA)
  (F:∀base:Heap,K.In base->base.Ns mainGlobals mg->FnOk P w K mg base CX k fa fd [x] sp) (hbind:∀(s:Shared)(u:Value),BindsTo s fd ⟨[u],[]⟩ [(x,u)])
  (hsp:∀H:Hp,Only H->SqL K H a (ns.map V.int)->sp [.ref a] H (fun v _=>v=.bl true) fun _ _ _=>False)
  (hCX:∀H e s',CX [] H s₁ (fun _ _ _=>False) e s'->False) :
  codeAny (model P w) callerA (.call (.ref fa) ⟨[.ref a],[]⟩) (fun r s'=>r=.ok (.ret (.bool true))/\OldK s₁.heap s'.heap/\s'.os=s₁.os/\AllBare s'.gens) s₁ := by
 have rv:=Zex hi;have lenV:=hi.length;have core:∀H:Hp,Only H->SqL K H a (ns.map V.int)->HOk P w H s₁.heap->(∀b,H b≠none->b=a)->(H a≠none->K.lookup a=none) ->
   codeAny (model P w) callerA (.call (.ref fa) ⟨[.ref a],[]⟩) (fun r s'=>r=.ok (.ret (.bool true))/\OldK s₁.heap s'.heap/\s'.os=s₁.os/\AllBare s'.gens) s₁ := by
  intro H hO hS hok hA hK;have base_of:∀{b:Addr}{o:Obj},s₁.heap.get? b=some o->H b=none->(Zit s₁.heap H).get? b=some o:=fun e n=>ZiV e n;have noA:∀{b:Addr}{o:Obj}{es:Array DictEntry}{ep:Nat},s₁.heap.get? b=some o->o.data=.dict es ep->H b=none:=fun{b o es ep} e d=>by
   cases q:H b with
   | none=>rfl
   | some u =>
    have e':b=a:=hA b (by rw[q];simp);subst e';rw[ha] at e;cases e;have d':Data.seq vs.toArray _=Data.dict es ep:=d;cases d'
  have nsK:∀{b:Addr}{m:Str->Option Value},s₁.heap.Ns b m->(Zit s₁.heap H).Ns b m:=fun{b m} ⟨o,es,ep,e,d,r⟩=>⟨o,es,ep,base_of e (noA e d),d,r⟩;have hKb:K.In (Zit s₁.heap H):=fun b o e=>base_of (KX b o e) (by
   cases q:H b with
   | none=>rfl
   | some u =>
    have e':b=a:=hA b (by rw[q];simp);subst e';rw[hK (by rw[q];simp)] at e;cases e)
  have hM:Mod K mg (Zit s₁.heap H):=⟨hKb,nsK hns,⟨mb,nsK hb,hbb⟩,let ⟨mc,h1,h2⟩:=hlim;⟨mc,nsK h1,h2⟩⟩;have e0:Env0 P w K mg (Zit s₁.heap H) callerA [] s₁ H:=⟨rfl,hM,fun b o e=>ZjZ e,Nat.le_of_eq (Zh9 _ _),trivial,fun b hb=>absurd (show b∈([]:List Addr) from hb) (by simp),hok,.of_eq hg⟩;refine codeAny_mono ((F _ hKb (nsK hns)).run callerA [] s₁ H ⟨[.ref a],[]⟩ [.ref a] [.ref a] _ _ hr e0 (hbind s₁ (.ref a)) (.cons rfl .nil) (hsp H hO hS)) fun r s' h=>?_;cases r with
  | error e=>exact(hCX H e s' h).elim
  | ok fl =>
   cases fl with
   | next=>exact False.elim h
   | brk=>exact False.elim h
   | cont=>exact False.elim h
   | ret u =>
    obtain⟨v,H',os,bare,un,hok',r',q⟩:=h;have q':v=.bl true:=q;subst q';obtain rfl:u=Value.bool true:=r';refine⟨rfl,OldK.of_keep fun b o e=>?_,os,bare⟩;cases q:H b with
    | none=>exact un.keep b o e q (by intro z;exact absurd (show b∈([]:List Addr) from z) (by simp)) (by simp)
    | some u =>
     rcases hO b with z|⟨ob,xs,z⟩
     ·rw[q] at z;cases z
     ·have z2:=un.frzs b ob _ z;obtain⟨e1,_⟩:=hok b _ z;obtain⟨e2,_⟩:=hok' b _ z2;rw[e] at e1;cases e1;exact e2
 cases hk:K.lookup a with
 | some o =>
  have e:=KX a o hk;rw[ha] at e;cases e;refine core (fun _=>none) (fun _=>.inl rfl) (.inr ⟨_,vs.toArray,_,hk,rfl,rfl,rfl,by rw[List.size_toArray,lenV];exact hl,by simpa using rv⟩) (fun b u z=>by have z':(none:Option HO)=some u:=z;cases z') (fun b z=>absurd rfl z) fun z=>absurd rfl z
 | none =>
  refine core (fun b=>if b=a then some (.frz { cls:=.type "list",data:=.seq vs.toArray } (.lst (ns.map V.int))) else none) (fun b=>?_) (.inl (.inr ⟨{ cls:=.type "list",data:=.seq vs.toArray },if_pos rfl⟩)) (fun b u z=>?_) (fun b z=>?_) fun _=>hk
  ·by_cases hb:b=a
   ·exact .inr ⟨_,_,if_pos hb⟩
   ·exact .inl (if_neg hb)
  ·by_cases hb:b=a
   ·have z':=(if_pos hb).symm.trans z;cases z';subst hb;exact⟨ha,by rw[List.length_map];exact hl,vs,_,rv,ha⟩
   ·have z':=(if_neg hb).symm.trans z;cases z'
  ·by_cases hb:b=a
   ·exact hb
   ·exact absurd (if_neg hb) z
theorem ZgW{l:PySem.W.OpenLaw}{n k:Nat}{q:Program}{loose:List Str}{XP:(Str->Option Value)->Heap->Prop}{YP:World->Heap->Prop}{d:DefRec}{K:Params->PySem.W.Frag}{CX:World->CXT}{sp:World->Sp}{x:Str}
  (hn:l.most=some n) (hn2:n<=sizeLine) (hdf:d.params.defaults=[]) (hr:Room k callerA)
  (hY:∀(w:World)(h:Heap),YP w h->(K w.params).In h)
  (F:∀(w:World)(mg:Str->Option Value)(fa:Addr)(h:Heap),(K w.params).In h->h.Ns mainGlobals mg->mg d.name=some (.ref fa) ->
   ∃fd:FuncData,(∀(s:Shared)(u:Value),BindsTo s fd ⟨[u],[]⟩ [(x,u)]) /\
    ∀base:Heap,(K w.params).In base->base.Ns mainGlobals mg->FnOk l.prog w (K w.params) mg base (CX w) k fa fd [x] (sp w))
  (hsp:∀(w:World)(H:Hp)(a:Addr)(ns:List Int),ns.length<=n->Only H->SqL (K w.params) H a (ns.map V.int)->sp w [.ref a] H (fun v _=>v=.bl true) fun _ _ _=>False)
  (hCX:∀(w:World)(H:Hp)(s:Shared)(e:Value)(s':Shared),CX w [] H s (fun _ _ _=>False) e s'->False) :
  PySem.W.WalkO q loose XP YP l.row.toRowW d [] (fun f vs=>PySem.call f vs):=by
 refine Att.ZfB hn hdf fun w s₀ s₁ mg mb fa o pm cd doc a vs ns G Y ho hd hcd hmg hobj hints hlen hg=>?_;have KX:=hY w _ Y;obtain⟨fd,hb,hF⟩:=F w mg fa _ KX G.T.g hmg;exact ZiW KX G.T.g G.T.b G.T.builtins G.T.nolimit hg hobj hints (Nat.le_trans hlen hn2) hr hF hb (fun H hO hS=>hsp w H a ns hlen hO hS) fun H e s'=>hCX w H s₁ e s'
end L2
/- THE LAST THEOREM (shape;LID,My.* are yours):
   My.Adr: a structure of the addresses that your layer names (classes,functions);My.Txt K t: a structure (Prop) of the equations over K;
   My.txt_mk:{K} {implicit addresses ..} (e1:nsIn K mainGlobals "law" = some (some (.ref f))) (e2:K.lookup f=some ⟨oc,od,.func (fnOf "law" "law" params body scope dV kV doc pm an cdv ct),sl⟩) (e3:codeIn K cdv "law" = true) .. : ∃t,My.Txt K t
set_option maxRecDepth 100000 in
set_option maxHeartbeats 0 in
theorem PySem.Challenge.cw_LID_holds : PySem.Challenge.rw_LID.Holds := by
 w_on;o_law;k_head;(case hw=>w_witness2)
 k_fill
 refine L2.ZgW (l:=PySem.Challenge.rw_LID) (n:=63) (k:=40) (x := "script") (CX:=fun w=>..) (sp:=fun _=>My.sp_law) rfl (by decide) rfl ⟨rfl,by decide,by decide⟩ (fun w h Y=>PySem.W.kIn_of Y) ?F ?S ?C
 case F =>
  intro w mg fa h KX G hmg;have T:∃t,My.Txt (L2.KOf KX) t:=by
   dsimp only[L2.KOf]                          -- K must stand as «<heap const> w.params» for k_is
   refine' My.txt_mk ?e1 ?e2 ?e3 ..
   (case e1=>PySem.W.k_is)                    -- in the order: a name->its address->its object->its parts
   (case e2=>PySem.W.k_is)
   ..
  obtain⟨t,T⟩:=T;have e0:=hmg.symm.trans (PySem.W.mg_of KX G T.law);cases e0                                       -- fa is the law's own address
  exact⟨_,fun s u=>.of_eq rfl,fun base kb nb=>My.law_fn T kb nb⟩     -- if «.of_eq rfl» comes too early: refine' ⟨_,?b,fun base kb nb=>My.law_fn T kb nb⟩;exact fun s u=>.of_eq rfl
 case S=>exact fun w H a ns hl hO hS=>..
 case C=>exact ..
(the tactic k_is has no namespace: write k_is) -/
namespace L2
open PySem PySem.Spec PyProof.Rows
def ZP(s:Stmt):Arguments:=match s with
 | .FunctionDef _ a _ _ _ _ _ _ _ _=>a
 | _=>{ posonlyargs:=[],args:=[],vararg:=none,kwonlyargs:=[],kw_defaults:=[],kwarg:=none,defaults:=[] }
def Zf(s:Stmt):List Stmt:=match s with
 | .FunctionDef _ _ b _ _ _ _ _ _ _=>b
 | _=>[]
def Zh(s:Stmt):Scope:=match s with
 | .FunctionDef _ _ _ _ _ _ sc _ _ _=>sc
 | _=>{ kind:=.function,names:=[],isGenerator:=false,isCoroutine:=false }
abbrev CX0:CXT:=fun _ _ _ _ _ _=>False
abbrev E0:XK:=fun _ _ _=>False
theorem Zlg{X:Cx}:Zg7 CX0 X E0:=fun _ _ _ _ _ _ _ h=>h.elim
structure Fun(K:PySem.W.Frag)(x qual:Str)(st:Stmt)(f:Addr)(fd:FuncData):Prop where
 ex:∃(oc:Value)(od:Option Addr)(kV doc pm:Value)(an:Option Addr)(cdv ct:Value)(osl:Array (Option Value)),
  fd=PySem.W.fnOf x qual (ZP st) (Zf st) (Zh st) .none kV doc pm an cdv ct/\K.lookup f=some ⟨oc,od,.func fd,osl⟩/\PySem.W.codeIn K cdv qual=true
 kp:PySem.W.keepIn K (.ref f)=true
section
variable{P:Program}{w:World}{K:PySem.W.Frag}{mg:Str->Option Value}{base:Heap}
theorem Fun.ok{x qual:Str}{st:Stmt}{f:Addr}{fd:FuncData}{N ps:List Str}{k:Nat}{sp:Sp}(F:Fun K x qual st f fd)(S:FnScope N ps (Zh st))(len:∀vs H Q E,sp vs H Q E->vs.length=ps.length)
  (hbody:∀(cdv:Value)(A:Around)(outer:List Env)(s:Shared)(H:Hp)(vs:List V)(Q:VK)(E:XK),Room k (A.deeper (envOfC qual (Zh st) s.heap.objs.size f cdv))->sp vs H Q E ->
   ∃t,PSs (ZiY CX0 P w K mg base N qual (Zh st) f cdv A outer s H E).nox (Zf st) t/\t { nx:=fun _ H'=>Q .non H',rt:=Q } (start N vs) H):FnOk P w K mg base CX0 (k+1) f fd ps sp:=by
 obtain⟨oc,od,kV,doc,pm,an,cdv,ct,osl,rfl,lk,hcd⟩:=F.ex;refine ZkI lk hcd S len fun A outer s H vs Q E hr hsp=>?_;obtain⟨t,h,q⟩:=hbody cdv A outer s H vs Q E hr hsp;exact⟨t,h.nox,q⟩
theorem Fun.binds{x qual:Str}{st:Stmt}{f:Addr}{fd:FuncData}{ps:List Str}(F:Fun K x qual st f fd)
  (h:∀(kV doc pm:Value)(an:Option Addr)(cdv ct:Value)(us:List Value),us.length=ps.length->bindArgs (PySem.W.fnOf x qual (ZP st) (Zf st) (Zh st) .none kV doc pm an cdv ct) ⟨us,[]⟩=pure (ps.zip us)):Binds K fd ps []:=by
 obtain⟨oc,od,kV,doc,pm,an,cdv,ct,osl,rfl,lk,hcd⟩:=F.ex;exact .all (h kV doc pm an cdv ct)
theorem Zab{x qual:Str}{st:Stmt}{f:Addr}{oc:Value}{od an:Option Addr}{osl:Array (Option Value)}{kV doc pm cdv ct:Value}(l:K.lookup f=some ⟨oc,od,.func (PySem.W.fnOf x qual (ZP st) (Zf st) (Zh st) .none kV doc pm an cdv ct),osl⟩)
  (c:PySem.W.codeIn K cdv qual=true) (k:PySem.W.keepIn K (.ref f)=true):Fun K x qual st f (PySem.W.fnOf x qual (ZP st) (Zf st) (Zh st) .none kV doc pm an cdv ct):=⟨⟨oc,od,kV,doc,pm,an,cdv,ct,osl,rfl,l,c⟩,k⟩
end
section
variable{X:Cx}
theorem pv(i:Nat){x:Str}{pos:Pos}(hN:X.N[i]?= some x:=by rfl)(hv:Vis X.env.scope x:=by first|exact Or.inl rfl|exact Or.inr (Or.inl rfl)|exact Or.inr (Or.inr rfl))(hd:(x == ("__debug__" : Str))=false:=by decide)
  (hcd:(x == ("__classdict__" : Str))=false:=by decide):PE X (.Name x pos) (ZlR i):=Zky hN hv hd hcd
end
theorem ZbF{A B:Prop}(h:B):if false=true then A else B:=by
 rw[if_neg Bool.false_ne_true];exact h
theorem Zi3{A B:Prop}(h:A):if true=true then A else B:=by
 rw[if_pos rfl];exact h
theorem Zdn{c A B:Prop}[Decidable c](h1:c->A)(h2 : ¬ c->B):if c then A else B:=by
 by_cases h:c
 ·rw[if_pos h];exact h1 h
 ·rw[if_neg h];exact h2 h
def Zk(H H':Hp):Prop := ∀b o,H b=some o->H' b=some o
theorem Zk.refl(H:Hp):Zk H H:=fun _ _ h=>h
theorem Zk.trans{H H1 H2:Hp}(a:Zk H H1)(b:Zk H1 H2):Zk H H2:=fun c o h=>b c o (a c o h)
theorem Zk.free{H H':Hp}(e:Zk H H'){l:Addr}(h:H' l=Option.none):H l=Option.none:=by
 cases q:H l with
 | none=>rfl
 | some o =>
  rw[e l o q] at h;cases h
theorem Zk.seq{K:PySem.W.Frag}{H H':Hp}{a:Addr}{xs:List V}(e:Zk H H')(h:SqL K H a xs):SqL K H' a xs:=by
 rcases h with(h|⟨o,h⟩)|h
 ·exact .inl (.inl (e _ _ h))
 ·exact .inl (.inr ⟨o,e _ _ h⟩)
 ·exact .inr h
theorem ZaS:bootBuiltins "list" = some (.type "list"):=by decide +kernel
theorem ZaG:bootBuiltins "tuple" = some (.type "tuple"):=by decide +kernel
theorem Zjf:bootBuiltins "max" = some (.builtin "max"):=by decide +kernel
theorem Zi7:bootBuiltins "min" = some (.builtin "min"):=by decide +kernel
theorem ZaM:bootBuiltins "isinstance" = some (.builtin "isinstance"):=by decide +kernel
section
variable{X:Cx}
theorem Zlz{x:Str}{n:String}{pos:Pos}(hg:Gl X x)(hm:X.mg x=none)(hv:bootBuiltins x=some (.type n))(hn:x ≠ "__name__" := by decide) (hd:(x == ("__debug__" : Str))=false:=by decide):PE X (.Name x pos) (tC (.ty n)) :=
 Zj8 (v:=.ty n) hg hm hv rfl hn hd
end
structure Has(P:Program)(w:World)(K:PySem.W.Frag)(mg:Str->Option Value)(base:Heap)(x:Str)(ps:List Str)(k:Nat)(sp:Sp):Prop where
 ex:∃(f:Addr)(fd:FuncData),FnOk P w K mg base CX0 k f fd ps sp/\Binds K fd ps []/\PySem.W.keepIn K (.ref f)=true/\mg x=some (.ref f)
section
variable{X:Cx}{x:Str}{ps:List Str}{j k:Nat}{sp:Sp}{e:Expr}{es:List Expr}{t:TA}{p pos:Pos}
theorem FnOk.room{P:Program}{w:World}{K:PySem.W.Frag}{mg:Str->Option Value}{base:Heap}{CX:CXT}{f:Addr}{fd:FuncData}(F:FnOk P w K mg base CX j f fd ps sp)(h:j<=k):FnOk P w K mg base CX k f fd ps sp :=
 ⟨F.len,fun A outer s H args us vs Q E hr=>F.run A outer s H args us vs Q E (hr.mono h)⟩
theorem Zr(G:Has X.prog X.w X.K X.mg X.base x ps j sp)(hr:Room k X.A)(hg:Gl X x)(ha:PA X (e::es) t)(hk:j<=k:=by decide)(hdb:(x == ("__debug__" : Str))=false:=by decide)
  (he:starEach (e::es) X.env=(false,eval e X.env)::starEach es X.env:=by rfl) (hpl:(backTo pos (starEach es X.env)).any (·.1)=false:=by rfl) :
  PE X (.Call (.Name x p) (e::es) [] pos) (Zkp sp [] E0 t):=by
 obtain⟨f,fd,F,b,kp,m⟩:=G.ex;exact Zjy (F.room hk) hr hg m kp b .nil Zlg ha hdb he hpl
end
mutual
inductive Dp(K:PySem.W.Frag)(H:Hp):V->PyData->Prop
 | non:Dp K H .non .none
 | bl (b:Bool):Dp K H (.bl b) (.bool b)
 | int (i:Int):Dp K H (.int i) (.int i)
 | str (x:Str):Dp K H (.str x) (.str x)
 | lst {a:Addr} {xs:List V} {ds:List PyData}:SqL K H a xs->DpAll K H xs ds->Dp K H (.ref a) (.list ds)
 | tup {a:Addr} {xs:List V} {ds:List PyData}:SqT K H a xs->DpAll K H xs ds->Dp K H (.ref a) (.tuple ds)
inductive DpAll(K:PySem.W.Frag)(H:Hp):List V->List PyData->Prop
 | nil:DpAll K H [] []
 | cons {v:V} {vs:List V} {d:PyData} {ds:List PyData}:Dp K H v d->DpAll K H vs ds->DpAll K H (v::vs) (d::ds)
end
section
variable{X:Cx}{pins:List (Addr×Obj)}{σ : St}{H:Hp}{s:Shared}
mutual
theorem Dp.reads(I:Inv X pins σ H s):∀{v:V}{d:PyData}{u:Value},Dp X.K H v d->RelV v u->∃as,Reads s.heap u d as
 | _,_,u,.non,r=>by
  obtain rfl:u=Value.none:=r;exact⟨_,.none⟩
 | _,_,u,.bl b,r=>by
  obtain rfl:u=Value.bool b:=r;exact⟨_,.bool b⟩
 | _,_,_,.int i,⟨t,e⟩=>by
  subst e;exact⟨_,.int i t⟩
 | _,_,_,.str x,⟨t,e⟩=>by
  subst e;exact⟨_,.str x t⟩
 | _,_,u,@Dp.lst _ _ a xs ds hq hall,r=>by
  obtain rfl:u=Value.ref a:=r;obtain⟨its,rv,⟨o,n,e,hc,_,hd⟩,_⟩:=I.list hq;obtain⟨as,ha⟩:=DpAll.reads I hall rv;exact⟨_,.list e hc hd (by simpa using ha)⟩
 | _,_,u,@Dp.tup _ _ a xs ds hq hall,r=>by
  obtain rfl:u=Value.ref a:=r;obtain⟨its,rv,⟨o,e,hc,n,hd⟩,_⟩:=I.tuple hq;obtain⟨as,ha⟩:=DpAll.reads I hall rv;exact⟨_,.tuple e hc hd (by simpa using ha)⟩
theorem DpAll.reads(I:Inv X pins σ H s):∀{vs:List V}{ds:List PyData}{us:List Value},DpAll X.K H vs ds->Vals vs us->∃as,ReadsAll s.heap us ds as
 | _,_,_,.nil,.nil=>⟨_,.nil⟩
 | _,_,_,.cons h t,.cons r rs=>by
  obtain⟨as,ha⟩:=Dp.reads I h r;obtain⟨bs,hb⟩:=DpAll.reads I t rs;exact⟨_,.cons ha hb⟩
end
end
section
variable{X:Cx}
def ZkC(K:PySem.W.Frag)(neg:Bool):R2:=fun x y H Q=>∃d e,Dp K H x d/\Dp K H y e/\d.canLay0=true/\e.canLay0=true/\min d.depth e.depth<=200/\Q (.bl (if neg then !PyData.eqv d e else PyData.eqv d e)) H
theorem ZkJ(hu:X.A.units+200<cLine):OpR X (compareOp .Eq) (ZkC X.K false):=by
 intro pins s σ H x y v u Q I rx ry h;obtain⟨d,e,hx,hy,h1,h2,hd,q⟩:=h;obtain⟨as,ra⟩:=hx.reads I rx;obtain⟨bs,rb⟩:=hy.reads I ry;exact PySem.SeqAt.compareEq_reads ra rb h1 h2 (by lia) ⟨.bl _,H,I,rfl,q⟩
theorem Zkk(hu:X.A.units+200<cLine):OpR X (compareOp .NotEq) (ZkC X.K true):=by
 intro pins s σ H x y v u Q I rx ry h;obtain⟨d,e,hx,hy,h1,h2,hd,q⟩:=h;obtain⟨as,ra⟩:=hx.reads I rx;obtain⟨bs,rb⟩:=hy.reads I ry;exact PySem.SeqAt.compareNe_reads ra rb h1 h2 (by lia) ⟨.bl _,H,I,rfl,q⟩
theorem ZbK{A:Around}{k:Nat}(hr:Room k A):A.units+200<cLine:=by
 have:=hr.un;lia
end
def TK(H H':Hp):Prop := ∀b xs,H b=some (.tup xs)->H' b=some (.tup xs)
theorem Zk.new{H:Hp}{p:Addr}{o:HO}(h:H p=none):Zk H (upd H p o):=fun b u q=>by
 rw[ZR (Zx q h)];exact q
theorem Zk.upd_new{H H':Hp}{p:Addr}{o:HO}(h:Zk H H')(hp:H p=none):Zk H (upd H' p o):=fun b u q=>by
 rw[ZR (Zx q hp)];exact h b u q
theorem cut{X:Cx}{body:List Stmt}{D:Ends}{σ : St}{H:Hp}(n:Nat)(R:St->Hp->Prop)(h2:∃u,PSs X (body.drop n) u/\∀ σ' H',R σ' H'->u D σ' H')
  (h1:∀u,PSs X (body.drop n) u->(∀ σ' H',R σ' H'->u D σ' H')->∃t,PSs X body t/\t D σ H):∃t,PSs X body t/\t D σ H :=
 let ⟨u,a,b⟩:=h2
 h1 u a b
section
variable{X:Cx}
theorem Zet(hu:X.A.units+200<cLine):OpR X (compareOp .Eq) (fun x y H Q=>∃a xs z,x=.ref a/\y=.str z/\SqT X.K H a xs/\Q (.bl false) H):=by
 intro pins s σ H x y v u Q I rx ry h;obtain⟨a,xs,z,rfl,rfl,hx,q⟩:=h;cases rx;obtain⟨t,rfl⟩:=ry;obtain⟨its,r,⟨o,e,hc,n,hd⟩,_⟩:=I.tuple hx;exact PySem.SeqAt.RcAt.tuple_str z t ⟨o,e,hc,n,hd⟩ (by lia) X.prog X.w X.xe _ ⟨.bl false,H,I,rfl,q⟩
theorem ZjP(hu:X.A.units+200<cLine):OpR X (compareOp .Eq) (fun x y H Q=>(∃a xs z,x=.ref a/\y=.str z/\SqT X.K H a xs/\Q (.bl false) H)\/rEq x y H Q):=(Zet hu).or Zbi
end
end L2
namespace Fg
open PySem L2 FgM
def ZlY(t:Str):Prop:=t.cps.toList ≠ []/\∀c∈t.cps.toList,97<=c/\c<=122
theorem Zed(x y:Str):(x++y).cps.toList=x.cps.toList++y.cps.toList:=by
 show(x.cps++y.cps).toList=_;simp
def ABC:Str := "abcdefghijklmnopqrstuvwxyz"
theorem ZhV:∀n:_root_.Fin 26,97<=ABC.cps.toList.getD n.val 0/\ABC.cps.toList.getD n.val 0<=122/\n.val<ABC.cps.toList.length:=by decide
theorem ZkH{i:Int}(h0:0<=i)(h1:i<26):∃c,atI ABC.cps.toList i=some c/\97<=c/\c<=122:=by
 obtain⟨n,rfl⟩:=Int.eq_ofNat_of_zero_le h0;obtain⟨a,b,c⟩:=ZhV ⟨n,by lia⟩;refine⟨_,Zd2 (List.getElem?_eq_getElem c),?_,?_⟩
 ·rw[List.getD_eq_getElem?_getD,List.getElem?_eq_getElem c] at a;exact a
 ·rw[List.getD_eq_getElem?_getD,List.getElem?_eq_getElem c] at b;exact b
theorem Zjw{ns:List Int}{k:Int}(h0:0<=k)(h:k<(ns.length:Int)):∃v:Int,atI (ns.map V.int) k=some (.int v):=by
 obtain⟨n,rfl⟩:=Int.eq_ofNat_of_zero_le h0;have hn:n<ns.length:=by lia
 exact⟨ns[n],Zd2 (by rw[List.getElem?_map,List.getElem?_eq_getElem hn];rfl)⟩
def Zir(K:PySem.W.Frag):Sp:=fun vs H Q _=>∃(a:Addr)(ns:List Int),vs=[.ref a]/\SqL K H a (ns.map V.int)/\ns.length<=63/\∀H',Q (.bl true) H'
theorem ZZ{n:Nat}(h:n<=100000):n<=sizeLine:=Nat.le_trans h (by decide)
theorem ZW{n:Nat}(h:n<=100000):n<sizeLine:=Nat.lt_of_le_of_lt h (by decide)
theorem ZfG(x y:Str):(x++y).length=x.length+y.length:=by
 show(x.cps++y.cps).size=_;rw[Array.size_append];rfl
def cs(x:Str):List Nat:=x.cps.toList
theorem Zks{x y:Str}(h:cs x=cs y):x=y:=by
 cases x with
 | mk a =>
  cases y with
  | mk b=>exact congrArg Str.mk (Array.toList_inj.mp h)
end Fg
namespace L2
open PySem PySem.Spec PyProof.Rows
section
variable{P:Program}{w:World}{H:Hp}{h h':Heap}{a:Addr}{o:HO}
theorem ZaJ.there(x:ZaJ P w H h a o):∃ob,h.get? a=some ob:=by
 cases o with
 | lst xs=>obtain⟨_,_,_,_,e⟩:=x;exact⟨_,e⟩
 | tup xs=>obtain⟨_,_,_,ob,e,_⟩:=x;exact⟨_,e⟩
 | dK kvs=>obtain⟨_,_,_,_,ob,_,_,e,_⟩:=x;exact⟨_,e⟩
 | dT kvs=>obtain⟨_,_,_,_,ob,_,_,e,_⟩:=x;exact⟨_,e⟩
 | set S n=>obtain⟨ob,_,_,_,e,_⟩:=x;exact⟨_,e⟩
 | ins C dx fs=>obtain⟨_,_,_,e,_⟩:=x;exact⟨_,e⟩
 | own y=>obtain⟨_,e⟩:=x;exact⟨_,e⟩
 | xd fs=>obtain⟨_,⟨_,_,_,e,_⟩,_⟩:=x;exact⟨_,e⟩
 | rng lo hi=>obtain⟨_,_,_,e⟩:=x;exact⟨_,e⟩
 | frz ob u=>obtain⟨e,_⟩:=x;exact⟨_,e⟩
 | tbl ps=>exact⟨_,(show h.get? a=some _ from x)⟩
 | met f y=>exact⟨_,(show h.get? a=some _ from x)⟩
 | ext φ=>obtain⟨_,⟨_,e⟩,_⟩:=x;exact⟨_,e⟩
theorem HOk.freshN(x:HOk P w H h)(e:h.get? a=none):H a=none:=by
 cases q:H a with
 | none=>rfl
 | some u =>
  obtain⟨ob,e'⟩:=(x a u q).there;rw[e] at e';cases e'
end
section
variable{X:Cx}{pins:List (Addr×Obj)}{σ : St}{H:Hp}{s:Shared}{h':Heap}
theorem Inv.laidN{a:Addr}{o:HO}{t':Nat}(I:Inv X pins σ H s)(k:∀b u,s.heap.get? b=some u->h'.get? b=some u)(hp:s.heap.get? a=none)(new:ZaJ X.prog X.w (upd H a o) h' a o) :
  Inv X pins σ (upd H a o) { s with heap:=h',toks:=t' }:=by
 have hn:=I.hok.freshN hp;have ne:∀b u,s.heap.get? b=some u->b≠a:=fun b u e z=>by
  rw[z,hp] at e;cases e
 refine I.un ⟨fun b u q _ _ _=>k b u q,fun b u q _ _ _=>⟨u.slots,k b u q⟩,fun b u q n _=>by rw[ZR (ne b u q)];exact n,fun b u q _=>⟨u,k b u q⟩,
  fun b xs q=>by rw[ZR (Zx q hn)];exact q,fun b u xs q=>by rw[ZR (Zx q hn)];exact q,fun b ps q=>⟨#[],by rw[ZR (Zx q hn),q];simp⟩⟩ fun b u e=>?_
 by_cases hb:b=a
 ·subst hb;rw[Zc] at e;cases e;exact new
 ·rw[ZR hb] at e;exact(I.hok b u e).stay (fun c v _ q=>k c v q) (fun c q=>by rw[ZR (Zx q hn)];exact q) fun c xs q=>by rw[ZR (Zx q hn)];exact q
end
section
variable{X:Cx}
theorem ZdR:∀{bs:List Bool}{us:List Value},Vals (bs.map V.bl) us->∀(i:Nat)(v:Value),us[i]?= some v->∃b,bs[i]?= some b/\v=.bool b
 | [],_,.nil,i,v,e=>by simp at e
 | b::bs,_,.cons r t,0,v,e=>by
  obtain rfl:_=Value.bool b:=r;simp at e;exact⟨b,rfl,e.symm⟩
 | b::bs,_,.cons r t,i+1,v,e=>by
  obtain⟨c,h1,h2⟩:=ZdR t i v (by simpa using e);exact⟨c,by simpa using h1,h2⟩
theorem all_range:∀(bs:List Bool),((List.range bs.length).all fun i=>(bs[i]?).getD true)=bs.all id:=by
 intro bs;rw[Bool.eq_iff_iff,List.all_eq_true,List.all_eq_true];constructor
 ·intro h b hb;obtain⟨i,hi,rfl⟩:=List.getElem_of_mem hb;have:=h i (List.mem_range.mpr hi);rw[List.getElem?_eq_getElem hi] at this;exact this
 ·intro h i hi;have hi':=List.mem_range.mp hi;rw[List.getElem?_eq_getElem hi'];exact h _ (List.getElem_mem hi')
theorem ZiZ(hc:X.calm=true):Zby X (.builtin "all") (fun xs H Q=>∃(p:Addr)(bs:List Bool),xs=[.ref p]/\SqL X.K H p (bs.map V.bl)/\Q (.bl (bs.all id)) H):=by
 intro pins s σ H xs us Q I r h;obtain⟨p,bs,rfl,hS,q⟩:=h;obtain⟨u,rfl,ru⟩:=Vals.one r;cases ru;obtain⟨its,rv,pl,hz⟩:=I.list hS;have hl:=pl.isList;have hlen:bs.length=its.length:=by
  have:=rv.length;rw[List.length_map] at this;exact this
 refine call_all_walk (wpAny_pyIter_list hl ⟨s.heap.objs.size,[s.heap.objs.size,p],[s.heap.objs.size],its.toArray.size,_,_,fun i=>(bs[i]?).getD true,rfl,
  Walks.list (A:=X.A.in1) (I.ok.hd hc) _ p (Nat.ne_of_lt pl.lt) its.toArray,⟨⟨_,Heap.get?_push_size _ rfl,rfl,rfl⟩,hl.push _⟩,fun i v s' Q' E' hP hQ=>?_,fun h' tk hk=>?_⟩)
 ·obtain⟨b,e,e2⟩:=ZdR rv i v (by simpa using hP);subst e2;simp only[e,Option.getD_some] at hQ;exact wpAny_truthy_bool hQ
 ·rw[List.size_toArray,<- hlen,all_range];refine⟨.bl _,H,I.kept (t':=tk) fun b o e=>hk b o (fun hm=>?_) (Heap.get?_push_of_some _ e),rfl,q⟩;rw[List.mem_singleton.mp hm] at e;exact Nat.lt_irrefl _ (Heap.lt_size e)
theorem Zi4:SlR X (fun x lo hi H Q=>∃z,x=.str z/\z.length<=sizeLine/\Q (.str (PySem.StrLaws.sliceText z lo hi)) H):=by
 intro pins s σ H x v vl vu lo hi sl Q I rx hs pl pu h;obtain⟨z,rfl,hz,q⟩:=h;obtain⟨t,rfl⟩:=rx;refine⟨"str",_,F.slot_str_getitem.lookup,typeIs_str s z t,?_⟩;have key:∀l u:Option (Int×Tok),s.heap.IsSlice sl l u none->l.map (·.1)=lo->u.map (·.1)=hi->wpAny (model X.prog X.w) X.A (getItem (.str z t) (.ref sl)) (EP X pins σ Q) X.xe s:=by
  intro l u hsl el eu;refine wpAny_getItem_str_slice hsl rfl ?_;unfold sliceMade slicePicked;rw[el,eu];unfold PySem.StrLaws.sliceText at q;by_cases c:((1:Int) == 1&&(Builtin.Str.strSliceIndices lo hi 1 z.length).length == z.length)=true
  ·rw[if_pos c] at q;rw[if_pos (show((((none:Option (Int×Tok)).map (·.1)).getD 1 == 1)&&(Builtin.Str.strSliceIndices lo hi (((none:Option (Int×Tok)).map (·.1)).getD 1) z.length).length == z.length)=true from c)];exact⟨.str z,H,I,⟨_,rfl⟩,q⟩
  ·rw[if_neg c] at q;rw[if_neg (show ¬ ((((none:Option (Int×Tok)).map (·.1)).getD 1 == 1)&&(Builtin.Str.strSliceIndices lo hi (((none:Option (Int×Tok)).map (·.1)).getD 1) z.length).length == z.length)=true from c)];refine⟨?_,.str _,H,I.tok _,⟨_,rfl⟩,q⟩;show(((Builtin.Str.strSliceIndices lo hi 1 z.length).filterMap (z.cps[·]?)).toArray).size<=sizeLine;rw[List.size_toArray];refine Nat.le_trans (List.length_filterMap_le _ _) (Nat.le_trans ?_ hz);refine sliceRange_length_le _ _ _ _ (fun _=>?_) (fun z=>absurd (by decide) z);cases lo with
   | none =>
    cases hi with
    | none=>exact⟨Int.le_refl 0,Int.le_refl _⟩
    | some j=>exact⟨Int.le_refl 0,by simp only[show(1:Int) > 0 by decide,if_true];lia⟩
   | some i =>
    cases hi with
    | none=>exact⟨by simp only[show(1:Int) > 0 by decide,if_true];lia,Int.le_refl _⟩
    | some j=>exact⟨by simp only[show(1:Int) > 0 by decide,if_true];lia,by simp only[show(1:Int) > 0 by decide,if_true];lia⟩
 cases pl with
 | none =>
  cases pu with
  | none=>exact key none none hs rfl rfl
  | int j tj=>exact key none (some (j,tj)) hs rfl rfl
 | int i ti =>
  cases pu with
  | none=>exact key (some (i,ti)) none hs rfl rfl
  | int j tj=>exact key (some (i,ti)) (some (j,tj)) hs rfl rfl
end
def azB(c:Nat):Bool:=decide (97<=c)&&decide (c<=122)
theorem Zjp(a b:Nat):decide (([a]:List Nat) < [b])=decide (a<b):=by
 have h:(([a]:List Nat) < [b])↔a<b:=by
  constructor
  ·intro h;cases h with
   | rel h=>exact h
   | cons h=>cases h
  ·intro h;exact List.Lex.rel h
 exact decide_eq_decide.mpr h
section
variable{prog:Program}{w:World}{A:Around}{E:Value->Shared->Prop}{s:Shared}
theorem ZkP{x y:Str}{t u:Tok}{Q:Value->Shared->Prop}(h:Q (.bool (!decide (y.cps.toList<x.cps.toList))) s):wpAny (model prog w) A (compareOp .LtE (.str x t) (.str y u)) Q E s:=PySem.P.le_str h
theorem Zlk{s₂ : Shared}{C:Addr}{m:Str->Option Value}{sc:Scope}{env:Env}{n:Str}{pos:Pos}{v:Value}{Q:Value->Shared->Prop}(x:InComp s₂ C m s)(hk:sc.kind=.function)(hl:sc.names.lookup n=some .local)
  (hv:m n=some v) (hd:(n == ("__debug__" : Str))=false) (h:Q v s):wpAny (model prog w) A (eval (.Name n pos) (compEnv sc C env)) Q E s:=PySem.ldK x hk hl hv h hd
theorem ZkY{scope:Scope}{C:Addr}{env:Env}{m:Str->Option Value}{x:Str}{c:Nat}{u:Tok}{j j2:Nat}{p1 p2 p3 pos:Pos}(hk:scope.kind=.function)(hx:scope.names.lookup x=some .local)(hd:(x == ("__debug__" : Str))=false)
  (hn:s.heap.Ns C m) (hm:m x=some (.str ⟨#[c]⟩ u)) :
  wpAny (model prog w) A (eval (.Compare (.Constant (.str "a") j p1) [.LtE,.LtE] [.Name x p2,.Constant (.str "z") j2 p3] pos) (compEnv scope C env)) (fun r s'=>r=.bool (azB c)/\Keeps s s') E s:=by
 have I0:=(InComp.start hn).tok (s.toks+1);have ea:("a" : Str).cps.toList=[97]:=by decide +kernel
 have ez:("z" : Str).cps.toList=[122]:=by decide +kernel
 have e1:decide (([c]:List Nat) < [97])=decide (c<97):=Zjp c 97;have e2:decide (([122]:List Nat) < [c])=decide (122<c):=Zjp 122 c;refine Compare_chain (Calls.Constant_str ?_);refine chain_link ?_;refine Zlk I0 hk hx hm hd ?_;refine ZkP ?_;rw[ea];show wpAny (model prog w) A (truthy (.bool (!decide (([c]:List Nat) < [97])))) _ _ _;rw[e1];refine wpAny_truthy_bool ?_;by_cases h1:c<97
 ·rw[decide_eq_true h1];refine ite_ff ⟨?_,I0.done⟩;unfold azB;rw[decide_eq_false (by lia : ¬ 97<=c)];rfl
 ·rw[decide_eq_false h1];refine ite_tt ?_;refine chain_last ?_;refine Calls.Constant_str ?_;refine ZkP ?_;rw[ez];refine⟨?_,(I0.tok _).done⟩;show Value.bool (!decide (([122]:List Nat) < [c]))=_;rw[e2];unfold azB;rw[decide_eq_true (by lia:97<=c)];by_cases h2:c<=122
  ·rw[decide_eq_true h2,decide_eq_false (by lia)];rfl
  ·rw[decide_eq_false h2,decide_eq_true (by lia)];rfl
end
theorem Zji:∀{cs:List Nat}{vs us:List Value},(∀(j:Nat)(v:Value),vs[j]?= some v->∃(c:Nat)(u:Tok),cs[j]?= some c/\v=Value.str ⟨#[c]⟩ u)->vs.length=cs.length->Paired (fun v r=>∃c u,v=Value.str ⟨#[c]⟩ u/\r=Value.bool (azB c)) vs us ->
  Vals (cs.map fun c=>.bl (azB c)) us
 | [],[],_,_,_,.nil=>.nil
 | [],v::vs,_,_,h,_=>by simp at h
 | c::cs,[],_,_,h,_=>by simp at h
 | c::cs,v::vs,_,hP,hl,.cons hr t=>by
  obtain⟨c',u',e1,e2⟩:=hP 0 v rfl;obtain⟨c2,u2,e3,e4⟩:=hr;simp at e1;subst e1;rw[e2] at e3;injection e3 with e5 _;injection e5 with e6;simp at e6;subst e6;refine .cons e4 (Zji (fun j v hv=>?_) (by simpa using hl) t);obtain⟨c3,u3,f1,f2⟩:=hP (j+1) v (by simpa using hv);exact⟨c3,u3,by simpa using f1,f2⟩
section
variable{X:Cx}{iter:Expr}{te:TE}{scope:Scope}{x:Str}{px p1 p2 p3 p4 pos:Pos}{j j2:Nat}
theorem ZgB(hi:PE X iter te)(hc:X.calm=true)(hfree:∀y∈scope.names,y.2 ≠ .free)(hcell:∀y∈scope.names,y.2 ≠ .cell)(hk:scope.kind=.function)
  (hnames:∀y∈scope.names,y.2=.local->scope.names.lookup y.1=some .local) (hx:scope.names.lookup x=some .local) (hd:(x == ("__debug__" : Str))=false) (hs:∀v,foldedSetIterable iter X.env v=pure v) :
  PE X (.ListComp (.Compare (.Constant (.str "a") j p1) [.LtE,.LtE] [.Name x p2,.Constant (.str "z") j2 p3] p4) [⟨.Name x px,iter,[],0⟩] scope pos)
   (fun σ H Q=>te σ H fun v H1=>∃z,v=.str z/\z.length<=sizeLine/\∀p,H1 p=none->Q (.ref p) (upd H1 p (.lst (z.cps.toList.map fun c=>.bl (azB c))))):=by
 intro pins s σ H Q I h;refine wpAny_ListComp_walk (fun _=>true) (fun v r=>∃c u,v=Value.str ⟨#[c]⟩ u/\r=Value.bool (azB c)) hfree hcell hk hnames hx (thn (hi pins s σ H _ I h) fun v s1 ⟨xv,H1,I1,r1,q1⟩=>?_) hs;obtain⟨z,rfl,hz,q⟩:=q1;obtain⟨t,rfl⟩:=r1;refine wpAny_pyIter_str fun o St W hst=>⟨s1.heap.objs.size,[s1.heap.objs.size],[s1.heap.objs.size],z.cps.size,SignAt z,St,rfl,W X.A (I1.ok.hd hc),hz,hst,fun b hb=>?_,⟨?_,?_⟩,?_⟩
 ·show b<(s1.heap.push o).objs.size;rw[Heap.size_push,List.mem_singleton.mp hb];exact Nat.lt_succ_self _
 ·intro C i v s3 m3 E' hP hn hm _ _;exact wpAny_pure ⟨rfl,(InComp.start hn).done⟩
 ·intro C i v s3 m3 E' hP hp hn hm _ _;obtain⟨c,u,_,e⟩:=hP;subst e;exact wpAny_mono (ZkY hk hx hd hn hm) (fun r s4 h4=>⟨⟨c,u,rfl,h4.1⟩,h4.2⟩) fun _ _ e=>e
 ·intro D h' tk ys vs hnew hlD hplD hlen hP hF hkp;have hF':Paired (fun v r=>∃c u,v=Value.str ⟨#[c]⟩ u/\r=Value.bool (azB c)) vs ys.toList:=by
   rw[List.filter_eq_self.mpr (fun _ _=>rfl)] at hF;exact hF
  have hV:=Zji (cs:=z.cps.toList) (fun j v hv=>by
   obtain⟨c,u,e1,e2⟩:=hP j v hv;exact⟨c,u,by rw[Array.getElem?_toList];exact e1,e2⟩) (by rw[hlen,Array.length_toList]) hF'
  have up:∀b ob,s1.heap.get? b=some ob->h'.get? b=some ob:=fun b ob e=>hkp b ob (fun hm=>by
   rw[List.mem_singleton.mp hm] at e;exact Nat.lt_irrefl _ (Heap.lt_size e)) (Heap.get?_push_of_some _ e)
  have hD:s1.heap.get? D=none:=by
   cases e:s1.heap.get? D with
   | none=>rfl
   | some ob =>
    rw[Heap.get?_push_of_some _ e] at hnew;cases hnew
  obtain⟨nD,eD⟩:=hplD;refine⟨.ref D,_,I1.laidN (a:=D) (o:=.lst (z.cps.toList.map fun c=>.bl (azB c))) (t':=tk) up hD ⟨?_,ys.toList,nD,hV,by rw[Array.toArray_toList];exact eD⟩,rfl,q D (I1.hok.freshN hD)⟩;rw[List.length_map,Array.length_toList];exact hz
end
end L2
namespace L2
open PySem
theorem ZkS:bootBuiltins "all" = some (.builtin "all"):=by decide +kernel
end L2
namespace Fg
open PySem L2 FgM
def ZcW(z:Str):Bool:=decide (1<=z.length)&&decide (z.length<=8)&&z.cps.toList.all azB
def Zfp:Sp:=fun vs H Q _=>∃z:Str,vs=[.str z]/\z.length<=100000/\∀H',Zk H H'->Q (.bl (ZcW z)) H'
end Fg
namespace L2
open PySem PySem.Spec PyProof.Rows
section
variable{prog:Program}{w:World}{A:Around}{s:Shared}{R:Result->Shared->Prop}
abbrev no0:Value->Shared->Prop:=fun _ _=>False
theorem ZgI{elt target iter:Expr}{scope:Scope}{pos:Pos}{it acc:Value}{env:Env}(I:Nat->Shared->Prop)
  (turn:∀n s,I n s->wpAny (model prog w) A (pyNext it) (fun r s1=>match r with
   | none=>R (.ok .next) s1
   | some v=>wpAny (model prog w) A (letOwnedTupleGo target it v) (fun _ s2=>wpAny (model prog w) A (assign target env v) (fun _ s3=>wpAny (model prog w) A (eval elt env) (fun x s4 =>
     wpAny (model prog w) A (call (.builtin "list.append") [acc,x]) (fun _ s5=>∃m,m<n/\I m s5) no0 s4) no0 s3) no0 s2) no0 s1) no0 s)
  (n:Nat) (h:I n s):codeAny (model prog w) A (.compLoop (.ListComp elt [⟨target,iter,[],0⟩] scope pos) 0 it acc env) R s:=by
 refine codeAny_loop rfl I (fun n s hI=>?_) n h;show wpAny _ _ ((compTurn (.ListComp elt [⟨target,iter,[],0⟩] scope pos) 0 it acc env).onRaise (fun x=>do noteFrame x env;theTreesLotGoes x)) _ _ s;refine wpAny_noted ?_;rw[compTurn_list1];refine wpAny_bind (wpAny_standAt (wpAny_bind (wpAny_mono (turn n s hI) (fun r s1 h1=>?_) fun _ _ h'=>h'.elim)));cases r with
 | none=>exact wpAny_pure h1
 | some v =>
  refine wpAny_bind (wpAny_mono h1 (fun _ s2 h2=>?_) fun _ _ h'=>h'.elim);refine wpAny_bind (wpAny_mono h2 (fun _ s3 h3=>?_) fun _ _ h'=>h'.elim);refine wpAny_bind (wpAny_bind (wpAny_mono h3 (fun x s4 h4=>?_) fun _ _ h'=>h'.elim));exact wpAny_bind (wpAny_mono h4 (fun _ s5 h5=>wpAny_pure (wpAny_pure ⟨rfl,h5⟩)) fun _ _ h'=>h'.elim)
end
def Z9(X:Cx)(N:List Str)(scope:Scope)(cl:List (Str×Addr))(C:Addr)(fp:List Addr)(s:Shared)(H:Hp):Cx where
 prog:=X.prog
 w:=X.w
 K:=X.K
 mg:=X.mg
 base:=X.base
 A:=X.A
 N:=N
 s₀ := s
 H₀ := H
 env:=compEnvC scope cl C X.env
 outer:=X.stack
 stack:=X.stack
 ex:=fp
 fn:=fun _=>false
 calm:=X.calm
 pn:=[]
 xe:=no0
section
variable{X:Cx}{pins:List (Addr×Obj)}{σ : St}{H:Hp}{s:Shared}
theorem Zha{N:List Str}{scope:Scope}{cl:List (Str×Addr)}{C:Addr}{fp:List Addr}(I:Inv X pins σ H s)(hk:scope.kind=.function)(hC:s.heap.objs.size<=C)(hcl:∀x c,cl.lookup x=some c->X.env.cells.lookup x=some c)
  (hhas:∀x,((compEnvC scope cl C X.env).kindOf x=some .cell\/(compEnvC scope cl C X.env).kindOf x=some .free)->∃c,cl.lookup x=some c)
  (hf:∀b∈fp,Zb9 X pins H b) (hlt:∀b∈fp,b<s.heap.objs.size):(Z9 X N scope cl C fp s H).Ok where
 mod:=I.ok.mod
 kind:=hk
 glob:=I.ok.glob
 blt:=I.ok.blt
 above:=hC
 inj:=fun x y c e1 e2=>I.ok.inj x y c (hcl x c e1) (hcl y c e2)
 has:=hhas
 cab:=fun x c e=>by cases e
 hd:=I.ok.hd
 frames:=I.ok.frames
 stk:=.inl rfl
 exf:=fun b hb=>⟨fun z=>absurd (Nat.lt_of_lt_of_le (hlt b hb) hC) (by rw[show b=C from z];exact Nat.lt_irrefl _),fun x c e=>(hf b hb).2.2.2.2.1 x c (hcl x c e)⟩
 bs:=fun b o e=>⟨(I.bs b o e).1,(I.bs b o e).2⟩
 bsz:=Nat.le_trans I.ok.bsz I.sz
 noex:=fun b o e hb=>by
  rcases(hf b hb).2.2.2.1 with z|z
  ·exact I.ok.noex b o e z
  ·exact absurd (Nat.lt_of_lt_of_le (Heap.lt_size e) (Nat.le_trans I.ok.bsz z)) (Nat.lt_irrefl _)
 exfs:=fun b hb hm=>by
  rcases List.mem_cons.mp (I.stkSub b hm) with z|z
  ·exact(hf b hb).2.1 z
  ·exact(hf b hb).2.2.1 z
 funs:=I.stack
 frf:=I.stkFree
def capσ(σ : St)(k:Nat)(cap:List (Str×Nat)):St:=List.replicate k none++cap.map fun p=>(σ[p.2]?).getD none
theorem ZcC{scope:Scope}{cl:List (Str×Addr)}{fp:List Addr}{tn:List Str}{cap:List (Str×Nat)}{h1:Heap}(I:Inv X pins σ H s)(hk:scope.kind=.function)(hcl:∀x c,cl.lookup x=some c->X.env.cells.lookup x=some c)
  (hhas:∀x,((compEnvC scope cl s.heap.objs.size X.env).kindOf x=some .cell\/(compEnvC scope cl s.heap.objs.size X.env).kindOf x=some .free)->∃c,cl.lookup x=some c)
  (hf:∀b∈fp,Zb9 X pins H b) (hlt:∀b∈fp,b<s.heap.objs.size)
  (hcap:∀p∈cap,X.N[p.2]?= some p.1/\X.env.scope.names.lookup p.1=some .cell/\((compEnvC scope cl s.heap.objs.size X.env).kindOf p.1=some .cell\/(compEnvC scope cl s.heap.objs.size X.env).kindOf p.1=some .free))
  (hns:h1.Ns s.heap.objs.size (fun _=>none)) (hkp:∀b o,s.heap.get? b=some o->h1.get? b=some o) :
  Inv (Z9 X (tn++cap.map (·.1)) scope cl s.heap.objs.size fp s H) [] (capσ σ tn.length cap) H { s with heap:=h1 } where
 ok:=Zha I hk (Nat.le_refl _) hcl hhas hf hlt
 os:=rfl
 bare:=I.bare
 base:=Un.kept hkp
 loc:=by
  refine⟨fun _=>none,hns,fun i x v e1 e2 hv=>?_⟩;unfold capσ at e2;by_cases hi:i<tn.length
  ·rw[List.getElem?_append_left (by rw[List.length_replicate];exact hi),List.getElem?_replicate,if_pos hi] at e2;cases e2
  ·have hN:(cap.map (·.1))[i-tn.length]?= some x:=by
    have:(tn++cap.map (·.1))[i]?= some x:=e1;rw[List.getElem?_append_right (by lia)] at this;exact this
   rw[List.getElem?_append_right (by rw[List.length_replicate];lia),List.length_replicate,List.getElem?_map] at e2;rw[List.getElem?_map] at hN;cases hp:cap[i-tn.length]? with
   | none=>rw[hp] at hN;cases hN
   | some p =>
    rw[hp] at hN e2;have hx:p.1=x:=Option.some.inj hN;have he:(σ[p.2]?).getD none=some v:=Option.some.inj e2;obtain⟨c1,c2,c3⟩:=hcap p (List.mem_of_getElem? hp);subst hx;have hs : σ[p.2]?= some (some v):=by
     cases q : σ[p.2]? with
     | none=>rw[q] at he;cases he
     | some z=>rw[q] at he;rw[show z=some v from he]
    obtain⟨m,hn,hl⟩:=I.loc;obtain⟨u,r,l⟩:=hl p.2 p.1 v c1 hs (.inr (.inl c2));refine⟨u,r,.inr ⟨c3,?_⟩⟩;obtain⟨c,hc⟩:=hhas p.1 c3;refine⟨c,hc,?_⟩;rcases l with⟨l1,_⟩|⟨_,c',l2,o,ho,hd⟩
    ·have:X.env.kindOf p.1=some .cell:=c2;rw[this] at l1;cases l1
    ·have:c=c':=Option.some.inj ((hcl p.1 c hc).symm.trans l2);subst this;exact⟨o,hkp _ _ ho,hd⟩
 cell:=fun x c e=>by
  obtain⟨v,o,ho,hd⟩:=I.cell x c (hcl x c e);exact⟨v,o,hkp _ _ ho,hd⟩
 free:=I.hok.fresh (Nat.le_refl _)
 freeC:=fun x c e=>I.freeC x c (hcl x c e)
 pin:=fun p hp=>by cases hp
 hok:=I.hok.kept hkp
 len:=by
  unfold capσ;show _=(tn++cap.map (·.1)).length;rw[List.length_append,List.length_append,List.length_replicate,List.length_map,List.length_map]
end
def Zkv(wi:TI)(k:Nat)(cap:List (Str×Nat))(g:TG)(te:TE):TE:=fun σ H Q=>wi σ H fun J H1=>∀p,H1 p=none->∃W:Nat->Nat->List V->St->Hp->Prop,(∃m,W 0 m [] (capσ σ k cap) (upd H1 p (.lst []))) /\
 ∀i m ys σc H2,W i m ys σc H2->H2 p=some (.lst ys)/\((J.stop i H2/\Q (.ref p) H2)\/(J.go i H2/\∀x H3,J.yld i H2 x H3->g x σc H3 fun σ3 H4=>te σ3 H4 fun v H5 =>
  H5 p=some (.lst ys)/\ys.length<sizeLine/\∃m',m'<m/\W (i+1) m' (ys ++ [v]) σ3 (upd H5 p (.lst (ys ++ [v])))))
section
variable{X:Cx}{elt iter tg:Expr}{scope:Scope}{pos:Pos}{wi:TI}{g:TG}{te:TE}{cl:List (Str×Addr)}
theorem ZdD{pins:List (Addr×Obj)}{σ : St}{H2:Hp}{s2:Shared}{it:Addr}{fp:List Addr}{tnn:Nat->Heap->Prop}{J:It}{R:Addr->Hp->Prop}{use:Option (Value->Sem Unit)}{Qp:Value->Shared->Prop}(tn:List Str)(cap:List (Str×Nat))(hg:∀C fp s H,PG (Z9 X (tn++cap.map (·.1)) scope cl C fp s H) tg g)(he:∀C fp s H,PE (Z9 X (tn++cap.map (·.1)) scope cl C fp s H) elt te)(hc:X.calm=true)(hcell:∀y∈scope.names,y.2 ≠ .cell)(hk:scope.kind=.function)(hcl:∀x c,cl.lookup x=some c->X.env.cells.lookup x=some c)(hhas:∀C x,((compEnvC scope cl C X.env).kindOf x=some .cell\/(compEnvC scope cl C X.env).kindOf x=some .free)->∃c,cl.lookup x=some c)(hcap:∀C,∀p∈cap,X.N[p.2]?= some p.1/\X.env.scope.names.lookup p.1=some .cell/\((compEnvC scope cl C X.env).kindOf p.1=some .cell\/(compEnvC scope cl C X.env).kindOf p.1=some .free))
  (I2:Inv X pins σ H2 s2) (T:Turn X.prog X.w X.K tg J fp it tnn) (st2:tnn 0 s2.heap) (f2:∀b∈fp,Zb9 X pins H2 b) (q2:∀p,H2 p=none->∃W:Nat->Nat->List V->St->Hp->Prop,(∃m,W 0 m [] (capσ σ tn.length cap) (upd H2 p (.lst []))) /\
 ∀i m ys σc H2,W i m ys σc H2->H2 p=some (.lst ys)/\((J.stop i H2/\R p H2)\/(J.go i H2/\∀x H3,J.yld i H2 x H3->g x σc H3 fun σ3 H4=>te σ3 H4 fun v H5=>H5 p=some (.lst ys)/\ys.length<sizeLine/\∃m',m'<m/\W (i+1) m' (ys ++ [v]) σ3 (upd H5 p (.lst (ys ++ [v]))))))
  (hfin:∀(s3:Shared)(H3:Hp),Inv X pins σ H3 s3->(∀b∈fp,Zb9 X pins H3 b)->∀(acc:Addr)(σ6:St)(H6:Hp)(s6:Shared),Inv (Z9 X (tn++cap.map (·.1)) scope cl s3.heap.objs.size fp s3 H3) [] σ6 H6 s6->R acc H6->compPost (model X.prog X.w) X.A X.xe use Qp (.ref acc) s3.heap.objs.size (.ok .next) s6) :
  wpAny (model X.prog X.w) X.A (newList []) (fun acc s₃=>wpAny (model X.prog X.w) X.A (newFunctionEnv scope X.env.globals cl [] X.env.qual none Value.none (some X.env)) (fun cenv s₄=>codeAny (model X.prog X.w) X.A (Code.compStart (.ListComp elt [⟨tg,iter,[],0⟩] scope pos) 0 (Value.ref it) acc { cenv with scope:=relabel scope X.env }) (compPost (model X.prog X.w) X.A X.xe use Qp acc cenv.locals) s₄) X.xe s₃) X.xe s2:=by
 have fresh:H2 s2.heap.objs.size=none:=I2.fresh;obtain⟨W,⟨m0,w0⟩,turn⟩:=q2 s2.heap.objs.size fresh;have lt2:∀b∈fp,b<s2.heap.objs.size:=fun b hb=>by
  obtain⟨o,ho,_⟩:=T.obj _ _ st2 b hb;exact Heap.lt_size ho
 have I3:Inv X pins σ (upd H2 s2.heap.objs.size (.lst [])) { s2 with heap:=s2.heap.push { cls:=.type "list",data:=.seq ([]:List Value).toArray } }:=I2.lnew (its:=[]) (t':=s2.toks) .nil (Nat.zero_le _);refine wpAny_newObj_type (wpAny_newFunctionEnv hcell (by intro y hy;simp at hy) (fun h1 hns1 hsb1=>?_) hk);dsimp only at hns1 hsb1 ⊢;generalize hS3:({ s2 with heap:=s2.heap.push { cls:=.type "list",dict:=none,data:=.seq ([]:List Value).toArray } }:Shared)=s3 at I3;have hh3:s2.heap.push { cls:=.type "list",dict:=none,data:=.seq ([]:List Value).toArray }=s3.heap:=by rw[<- hS3]
 rw[hh3] at hns1 hsb1 ⊢;have sz3:s3.heap.objs.size=s2.heap.objs.size+1:=by rw[<- hh3,Heap.size_push]
 have lt3:∀b∈fp,b<s3.heap.objs.size:=fun b hb=>Nat.lt_of_lt_of_le (lt2 b hb) (by rw[sz3];exact Nat.le_succ _);have f3:∀b∈fp,Zb9 X pins (upd H2 s2.heap.objs.size (.lst [])) b:=fun b hb=>⟨by rw[ZR (Nat.ne_of_lt (lt2 b hb))];exact(f2 b hb).1,(f2 b hb).2⟩;have keep3:∀b o,s3.heap.get? b=some o->h1.get? b=some o:=fun b o q=>hsb1.extBut b o (Nat.ne_of_lt (Heap.lt_size q)) (Heap.get?_push_of_some _ q);have st3:tnn 0 h1:=T.keep _ _ _ st2 fun b hb o q=>keep3 b o (by rw[<- hh3];exact Heap.get?_push_of_some _ q);have I4:=(ZcC (tn:=tn) I3 hk hcl (hhas _) f3 lt3 (hcap _) hns1 keep3).tok (s2.toks+([]:List (Str×Value)).length);have loop:codeAny (model X.prog X.w) X.A (.compLoop (.ListComp elt [⟨tg,iter,[],0⟩] scope pos) 0 (.ref it) (.ref s2.heap.objs.size) (compEnvC scope cl s3.heap.objs.size X.env))
   (compPost (model X.prog X.w) X.A X.xe use Qp (.ref s2.heap.objs.size) s3.heap.objs.size) { s3 with heap:=h1,toks:=s2.toks+([]:List (Str×Value)).length }:=by
  refine ZgI (fun n s'=>∃i ys σ' H',Inv (Z9 X (tn++cap.map (·.1)) scope cl s3.heap.objs.size fp s3 (upd H2 s2.heap.objs.size (.lst []))) [] σ' H' s'/\tnn i s'.heap/\(∀b∈fp,H' b=none)/\W i n ys σ' H') ?_ m0
   ⟨0,[],_,_,I4,st3,fun b hb=>(f3 b hb).1,w0⟩
  rintro n s5 ⟨i,ys,σ5,H5,I5,st5,fr5,w5⟩;obtain⟨hD,alt⟩:=turn i n ys σ5 H5 w5;have stat:∀{H':Hp},(∀b∈fp,H' b=none)->∀b∈fp,Zb9 (Z9 X (tn++cap.map (·.1)) scope cl s3.heap.objs.size fp s3 (upd H2 s2.heap.objs.size (.lst []))) [] H' b :=
   fun hn b hb=>⟨hn b hb,(I4.ok.exf b hb).1,I4.ok.exfs b hb,.inl hb,(I4.ok.exf b hb).2,fun p hp=>by cases hp⟩
  rcases alt with⟨stop,qn⟩|⟨go,step⟩
  ·refine thn (T.done (Z9 X (tn++cap.map (·.1)) scope cl s3.heap.objs.size fp s3 (upd H2 s2.heap.objs.size (.lst []))) rfl rfl rfl hc i [] s5 σ5 H5 no0 I5 (stat fr5) st5 stop) fun r s6 ⟨hr,I6⟩=>?_;subst hr;exact hfin s3 _ I3 f3 _ σ5 H5 s6 I6 qn
  ·refine thn (T.item (Z9 X (tn++cap.map (·.1)) scope cl s3.heap.objs.size fp s3 (upd H2 s2.heap.objs.size (.lst []))) rfl rfl rfl hc i [] s5 σ5 H5 no0 I5 (stat fr5) st5 go) fun r s6 ⟨u,hr,h6⟩=>?_;subst hr;refine thn h6 fun _ s7 ⟨x,H7,I7,r7,y7,st7,fr7⟩=>?_;have I7':=I7.pinned (stat fr7) (T.obj _ _ st7);refine thn (hg _ _ _ _ _ s7 σ5 H7 x u _ I7' r7 (step x H7 y7)) fun _ s8 ⟨σ8,H8,I8,q8⟩=>?_;refine thn (he _ _ _ _ _ s8 σ8 H8 _ I8 q8) fun xv s9 ⟨v9,H9,I9,r9,q9⟩=>?_;obtain⟨hD9,hl9,m',hm',w9⟩:=q9;refine thn (Zbf _ s9 σ8 H9 (.ref s2.heap.objs.size) [v9] (.ref s2.heap.objs.size) [xv] (fun z H'=>z=.non/\H'=upd H9 s2.heap.objs.size (.lst (ys ++ [v9]))) I9 rfl (.cons r9 .nil)
    ⟨s2.heap.objs.size,ys,v9,rfl,rfl,hD9,hl9,rfl,rfl⟩) fun z s10 ⟨zv,H10,I10,_,_,eH⟩=>?_
   subst eH;refine⟨m',hm',i+1,ys ++ [v9],σ8,_,I10.unpinned,T.keep _ _ _ st7 fun b hb o q=>(I10.pin (b,o) (List.mem_append_right _ (List.mem_append_right _ (ZaA hb q)))).1,fun b hb=>?_,w9⟩;obtain⟨o,q,d⟩:=T.obj _ _ st7 b hb;exact(I10.pin (b,o) (List.mem_append_right _ (List.mem_append_right _ (ZaA hb q)))).2.1
 subst hS3;exact codeAny_compStart_list loop (T.self X.A 0 _ _ _ st3 loop)
theorem ZaQ(tn:List Str)(cap:List (Str×Nat))(hi:PI X tg iter wi)(hg:∀C fp s H,PG (Z9 X (tn++cap.map (·.1)) scope cl C fp s H) tg g)(he:∀C fp s H,PE (Z9 X (tn++cap.map (·.1)) scope cl C fp s H) elt te)
  (hc:X.calm=true) (hclos:closureFor scope X.env=pure cl) (hcell:∀y∈scope.names,y.2 ≠ .cell) (hk:scope.kind=.function) (hnames:∀y∈scope.names,y.2=.local->scope.names.lookup y.1=some .local)
  (hcl:∀x c,cl.lookup x=some c->X.env.cells.lookup x=some c)
  (hhas:∀C x,((compEnvC scope cl C X.env).kindOf x=some .cell\/(compEnvC scope cl C X.env).kindOf x=some .free)->∃c,cl.lookup x=some c)
  (hcap:∀C,∀p∈cap,X.N[p.2]?= some p.1/\X.env.scope.names.lookup p.1=some .cell/\((compEnvC scope cl C X.env).kindOf p.1=some .cell\/(compEnvC scope cl C X.env).kindOf p.1=some .free))
  (hs:∀v,foldedSetIterable iter X.env v=pure v):PE X (.ListComp elt [⟨tg,iter,[],0⟩] scope pos) (Zkv wi tn.length cap g te):=by
 intro pins s σ H Q I h;rw[eval_ListComp];refine wpAny_comprehension_free (use:=none) rfl hs hclos hk hnames (thn (hi pins s σ H _ I h) fun v s1 h1=>thn h1 fun itv s2 h2=>?_);obtain⟨it,fp,tnn,J,H2,e,I2,T,st2,f2,q2⟩:=h2;subst e;refine ZdD (R:=fun p H6=>Q (.ref p) H6) tn cap hg he hc hcell hk hcl hhas hcap I2 T st2 f2 q2 fun s3 H3 I3 f3 acc σ6 H6 s6 I6 q6=>?_;obtain⟨m,hn,_⟩:=I6.loc;refine⟨m,hn,fun h' sb=>?_⟩;have nC:∀b o,s3.heap.get? b=some o->b≠s3.heap.objs.size:=fun b o q=>Nat.ne_of_lt (Heap.lt_size q);have u:Un (frs X.stack) fp H3 H6 s3.heap h':=by
  have u0:=I6.base;refine⟨fun b o q n hb hx=>(sb.2 b (nC b o q)).trans (u0.keep b o q n hb hx),fun b o q n hb hx=>?_,u0.free,fun b o q hx=>?_,u0.tups,u0.frzs,u0.tbls⟩
  ·obtain⟨sl,e⟩:=u0.slot b o q n hb hx;exact⟨sl,(sb.2 b (nC b o q)).trans e⟩
  ·obtain⟨o',e⟩:=u0.there b o q hx;exact⟨o',(sb.2 b (nC b o q)).trans e⟩
 have free6:H6 s3.heap.objs.size=none:=I6.free;have ok6:HOk X.prog X.w H6 h':=fun b o q=>(I6.hok b o q).stay (fun c v hcv r=>(sb.2 c (by
  rcases hcv with z|z
  ·rw[z];exact Zx q free6
  ·exact Zx z free6)).trans r) (fun _ q=>q) fun _ _ q=>q
 have I':=I3.call (g':=s6.gens) (d':=s6.drawn) (t':=s6.toks) (ch:=fp) u ok6 I6.bare fun b hb=>⟨(f3 b hb).2.2.2.1,(f3 b hb).2.1,(f3 b hb).2.2.2.2.1,(f3 b hb).2.2.2.2.2⟩;have e:({ s6 with heap:=h' }:Shared)= { s3 with heap:=h',gens:=s6.gens,drawn:=s6.drawn,toks:=s6.toks }:=by
  have ho:s6.os=s3.os:=I6.os;obtain⟨a1,a2,a3,a4,a5⟩:=s6;obtain⟨b1,b2,b3,b4,b5⟩:=s3;simp only at ho;subst ho;rfl
 rw[e];exact⟨.ref _,H6,I',rfl,q6⟩
end
section
variable{prog:Program}{w:World}{A:Around}{s:Shared}{R:Result->Shared->Prop}
theorem Zgx{elt ct target iter:Expr}{scope:Scope}{pos:Pos}{it acc:Value}{env:Env}(I:Nat->Shared->Prop)
  (turn:∀n s,I n s->wpAny (model prog w) A (pyNext it) (fun r s1=>match r with
   | none=>R (.ok .next) s1
   | some v=>wpAny (model prog w) A (letOwnedTupleGo target it v) (fun _ s2=>wpAny (model prog w) A (assign target env v) (fun _ s3=>wpAny (model prog w) A (isTrue ct env (eval ct env)) (fun ok s3' =>
     if ok=true then wpAny (model prog w) A (eval elt env) (fun x s4 =>
     wpAny (model prog w) A (call (.builtin "list.append") [acc,x]) (fun _ s5=>∃m,m<n/\I m s5) no0 s4) no0 s3' else ∃m,m<n/\I m s3') no0 s3) no0 s2) no0 s1) no0 s)
  (n:Nat) (h:I n s):codeAny (model prog w) A (.compLoop (.ListComp elt [⟨target,iter,[ct],0⟩] scope pos) 0 it acc env) R s:=by
 refine codeAny_loop rfl I (fun n s hI=>?_) n h;show wpAny _ _ ((compTurn (.ListComp elt [⟨target,iter,[ct],0⟩] scope pos) 0 it acc env).onRaise (fun x=>do noteFrame x env;theTreesLotGoes x)) _ _ s;refine wpAny_noted ?_;rw[compTurn_list];refine wpAny_bind (wpAny_standAt (wpAny_bind (wpAny_mono (turn n s hI) (fun r s1 h1=>?_) fun _ _ h'=>h'.elim)));cases r with
 | none=>exact wpAny_pure h1
 | some v =>
  refine wpAny_bind (wpAny_mono h1 (fun _ s2 h2=>?_) fun _ _ h'=>h'.elim);refine wpAny_bind (wpAny_mono h2 (fun _ s3 h3=>?_) fun _ _ h'=>h'.elim);refine wpAny_bind (wpAny_tests_one (wpAny_mono h3 (fun ok s3' h3'=>?_) fun _ _ h'=>h'.elim));cases ok with
  | true =>
   simp only[if_true] at h3' ⊢;refine wpAny_bind (wpAny_bind (wpAny_mono h3' (fun x s4 h4=>?_) fun _ _ h'=>h'.elim));exact wpAny_bind (wpAny_mono h4 (fun _ s5 h5=>wpAny_pure (wpAny_pure ⟨rfl,h5⟩)) fun _ _ h'=>h'.elim)
  | false =>
   simp only[Bool.false_eq_true,if_false] at h3' ⊢;exact wpAny_pure ⟨rfl,h3'⟩
end
def Zjn(wi:TI)(k:Nat)(cap:List (Str×Nat))(g:TG)(tt:TT)(te:TE):TE:=fun σ H Q=>wi σ H fun J H1=>∀p,H1 p=none->∃W:Nat->Nat->List V->St->Hp->Prop,(∃m,W 0 m [] (capσ σ k cap) (upd H1 p (.lst []))) /\
 ∀i m ys σc H2,W i m ys σc H2->H2 p=some (.lst ys)/\((J.stop i H2/\Q (.ref p) H2)\/(J.go i H2/\∀x H3,J.yld i H2 x H3->g x σc H3 fun σ3 H4=>tt σ3 H4 fun b H4'=>if b=true then te σ3 H4' fun v H5 =>
  H5 p=some (.lst ys)/\ys.length<sizeLine/\∃m',m'<m/\W (i+1) m' (ys ++ [v]) σ3 (upd H5 p (.lst (ys ++ [v])))
  else ∃m',m'<m/\W (i+1) m' ys σ3 H4'))
section
variable{X:Cx}{elt ct iter tg:Expr}{scope:Scope}{pos:Pos}{wi:TI}{g:TG}{tt:TT}{te:TE}{cl:List (Str×Addr)}
theorem Zdx{pins:List (Addr×Obj)}{σ : St}{H2:Hp}{s2:Shared}{it:Addr}{fp:List Addr}{tnn:Nat->Heap->Prop}{J:It}{R:Addr->Hp->Prop}{use:Option (Value->Sem Unit)}{Qp:Value->Shared->Prop}(tn:List Str)(cap:List (Str×Nat))(hg:∀C fp s H,PG (Z9 X (tn++cap.map (·.1)) scope cl C fp s H) tg g)(ht:∀C fp s H,PT (Z9 X (tn++cap.map (·.1)) scope cl C fp s H) ct tt)(he:∀C fp s H,PE (Z9 X (tn++cap.map (·.1)) scope cl C fp s H) elt te)(hc:X.calm=true)(hcell:∀y∈scope.names,y.2 ≠ .cell)(hk:scope.kind=.function)(hcl:∀x c,cl.lookup x=some c->X.env.cells.lookup x=some c)(hhas:∀C x,((compEnvC scope cl C X.env).kindOf x=some .cell\/(compEnvC scope cl C X.env).kindOf x=some .free)->∃c,cl.lookup x=some c)(hcap:∀C,∀p∈cap,X.N[p.2]?= some p.1/\X.env.scope.names.lookup p.1=some .cell/\((compEnvC scope cl C X.env).kindOf p.1=some .cell\/(compEnvC scope cl C X.env).kindOf p.1=some .free))
  (I2:Inv X pins σ H2 s2) (T:Turn X.prog X.w X.K tg J fp it tnn) (st2:tnn 0 s2.heap) (f2:∀b∈fp,Zb9 X pins H2 b) (q2:∀p,H2 p=none->∃W:Nat->Nat->List V->St->Hp->Prop,(∃m,W 0 m [] (capσ σ tn.length cap) (upd H2 p (.lst []))) /\
 ∀i m ys σc H2,W i m ys σc H2->H2 p=some (.lst ys)/\((J.stop i H2/\R p H2)\/(J.go i H2/\∀x H3,J.yld i H2 x H3->g x σc H3 fun σ3 H4=>tt σ3 H4 fun b H4'=>if b=true then te σ3 H4' fun v H5=>H5 p=some (.lst ys)/\ys.length<sizeLine/\∃m',m'<m/\W (i+1) m' (ys ++ [v]) σ3 (upd H5 p (.lst (ys ++ [v]))) else ∃m',m'<m/\W (i+1) m' ys σ3 H4')))
  (hfin:∀(s3:Shared)(H3:Hp),Inv X pins σ H3 s3->(∀b∈fp,Zb9 X pins H3 b)->∀(acc:Addr)(σ6:St)(H6:Hp)(s6:Shared),Inv (Z9 X (tn++cap.map (·.1)) scope cl s3.heap.objs.size fp s3 H3) [] σ6 H6 s6->R acc H6->compPost (model X.prog X.w) X.A X.xe use Qp (.ref acc) s3.heap.objs.size (.ok .next) s6) :
  wpAny (model X.prog X.w) X.A (newList []) (fun acc s₃=>wpAny (model X.prog X.w) X.A (newFunctionEnv scope X.env.globals cl [] X.env.qual none Value.none (some X.env)) (fun cenv s₄=>codeAny (model X.prog X.w) X.A (Code.compStart (.ListComp elt [⟨tg,iter,[ct],0⟩] scope pos) 0 (Value.ref it) acc { cenv with scope:=relabel scope X.env }) (compPost (model X.prog X.w) X.A X.xe use Qp acc cenv.locals) s₄) X.xe s₃) X.xe s2:=by
 have fresh:H2 s2.heap.objs.size=none:=I2.fresh;obtain⟨W,⟨m0,w0⟩,turn⟩:=q2 s2.heap.objs.size fresh;have lt2:∀b∈fp,b<s2.heap.objs.size:=fun b hb=>by
  obtain⟨o,ho,_⟩:=T.obj _ _ st2 b hb;exact Heap.lt_size ho
 have I3:Inv X pins σ (upd H2 s2.heap.objs.size (.lst [])) { s2 with heap:=s2.heap.push { cls:=.type "list",data:=.seq ([]:List Value).toArray } }:=I2.lnew (its:=[]) (t':=s2.toks) .nil (Nat.zero_le _);refine wpAny_newObj_type (wpAny_newFunctionEnv hcell (by intro y hy;simp at hy) (fun h1 hns1 hsb1=>?_) hk);dsimp only at hns1 hsb1 ⊢;generalize hS3:({ s2 with heap:=s2.heap.push { cls:=.type "list",dict:=none,data:=.seq ([]:List Value).toArray } }:Shared)=s3 at I3;have hh3:s2.heap.push { cls:=.type "list",dict:=none,data:=.seq ([]:List Value).toArray }=s3.heap:=by rw[<- hS3]
 rw[hh3] at hns1 hsb1 ⊢;have sz3:s3.heap.objs.size=s2.heap.objs.size+1:=by rw[<- hh3,Heap.size_push]
 have lt3:∀b∈fp,b<s3.heap.objs.size:=fun b hb=>Nat.lt_of_lt_of_le (lt2 b hb) (by rw[sz3];exact Nat.le_succ _);have f3:∀b∈fp,Zb9 X pins (upd H2 s2.heap.objs.size (.lst [])) b:=fun b hb=>⟨by rw[ZR (Nat.ne_of_lt (lt2 b hb))];exact(f2 b hb).1,(f2 b hb).2⟩;have keep3:∀b o,s3.heap.get? b=some o->h1.get? b=some o:=fun b o q=>hsb1.extBut b o (Nat.ne_of_lt (Heap.lt_size q)) (Heap.get?_push_of_some _ q);have st3:tnn 0 h1:=T.keep _ _ _ st2 fun b hb o q=>keep3 b o (by rw[<- hh3];exact Heap.get?_push_of_some _ q);have I4:=(ZcC (tn:=tn) I3 hk hcl (hhas _) f3 lt3 (hcap _) hns1 keep3).tok (s2.toks+([]:List (Str×Value)).length);have loop:codeAny (model X.prog X.w) X.A (.compLoop (.ListComp elt [⟨tg,iter,[ct],0⟩] scope pos) 0 (.ref it) (.ref s2.heap.objs.size) (compEnvC scope cl s3.heap.objs.size X.env))
   (compPost (model X.prog X.w) X.A X.xe use Qp (.ref s2.heap.objs.size) s3.heap.objs.size) { s3 with heap:=h1,toks:=s2.toks+([]:List (Str×Value)).length }:=by
  refine Zgx (fun n s'=>∃i ys σ' H',Inv (Z9 X (tn++cap.map (·.1)) scope cl s3.heap.objs.size fp s3 (upd H2 s2.heap.objs.size (.lst []))) [] σ' H' s'/\tnn i s'.heap/\(∀b∈fp,H' b=none)/\W i n ys σ' H') ?_ m0
   ⟨0,[],_,_,I4,st3,fun b hb=>(f3 b hb).1,w0⟩
  rintro n s5 ⟨i,ys,σ5,H5,I5,st5,fr5,w5⟩;obtain⟨hD,alt⟩:=turn i n ys σ5 H5 w5;have stat:∀{H':Hp},(∀b∈fp,H' b=none)->∀b∈fp,Zb9 (Z9 X (tn++cap.map (·.1)) scope cl s3.heap.objs.size fp s3 (upd H2 s2.heap.objs.size (.lst []))) [] H' b :=
   fun hn b hb=>⟨hn b hb,(I4.ok.exf b hb).1,I4.ok.exfs b hb,.inl hb,(I4.ok.exf b hb).2,fun p hp=>by cases hp⟩
  rcases alt with⟨stop,qn⟩|⟨go,step⟩
  ·refine thn (T.done (Z9 X (tn++cap.map (·.1)) scope cl s3.heap.objs.size fp s3 (upd H2 s2.heap.objs.size (.lst []))) rfl rfl rfl hc i [] s5 σ5 H5 no0 I5 (stat fr5) st5 stop) fun r s6 ⟨hr,I6⟩=>?_;subst hr;exact hfin s3 _ I3 f3 _ σ5 H5 s6 I6 qn
  ·refine thn (T.item (Z9 X (tn++cap.map (·.1)) scope cl s3.heap.objs.size fp s3 (upd H2 s2.heap.objs.size (.lst []))) rfl rfl rfl hc i [] s5 σ5 H5 no0 I5 (stat fr5) st5 go) fun r s6 ⟨u,hr,h6⟩=>?_;subst hr;refine thn h6 fun _ s7 ⟨x,H7,I7,r7,y7,st7,fr7⟩=>?_;have I7':=I7.pinned (stat fr7) (T.obj _ _ st7);refine thn (hg _ _ _ _ _ s7 σ5 H7 x u _ I7' r7 (step x H7 y7)) fun _ s8 ⟨σ8,H8,I8,q8⟩=>?_;refine thn (ht _ _ _ _ _ s8 σ8 H8 _ I8 q8) fun ok s8' ⟨H8',I8',q8'⟩=>?_;cases ok with
   | true =>
    simp only[if_true] at q8' ⊢;refine thn (he _ _ _ _ _ s8' σ8 H8' _ I8' q8') fun xv s9 ⟨v9,H9,I9,r9,q9⟩=>?_;obtain⟨hD9,hl9,m',hm',w9⟩:=q9;refine thn (Zbf _ s9 σ8 H9 (.ref s2.heap.objs.size) [v9] (.ref s2.heap.objs.size) [xv] (fun z H'=>z=.non/\H'=upd H9 s2.heap.objs.size (.lst (ys ++ [v9]))) I9 rfl (.cons r9 .nil)
     ⟨s2.heap.objs.size,ys,v9,rfl,rfl,hD9,hl9,rfl,rfl⟩) fun z s10 ⟨zv,H10,I10,_,_,eH⟩=>?_
    subst eH;refine⟨m',hm',i+1,ys ++ [v9],σ8,_,I10.unpinned,T.keep _ _ _ st7 fun b hb o q=>(I10.pin (b,o) (List.mem_append_right _ (List.mem_append_right _ (ZaA hb q)))).1,fun b hb=>?_,w9⟩;obtain⟨o,q,d⟩:=T.obj _ _ st7 b hb;exact(I10.pin (b,o) (List.mem_append_right _ (List.mem_append_right _ (ZaA hb q)))).2.1
   | false =>
    simp only[Bool.false_eq_true,if_false] at q8' ⊢;obtain⟨m',hm',w9⟩:=q8';refine⟨m',hm',i+1,ys,σ8,_,I8'.unpinned,T.keep _ _ _ st7 fun b hb o q=>(I8'.pin (b,o) (List.mem_append_right _ (List.mem_append_right _ (ZaA hb q)))).1,fun b hb=>?_,w9⟩;obtain⟨o,q,d⟩:=T.obj _ _ st7 b hb;exact(I8'.pin (b,o) (List.mem_append_right _ (List.mem_append_right _ (ZaA hb q)))).2.1
 subst hS3;exact codeAny_compStart_list loop (T.self X.A 0 _ _ _ st3 loop)
theorem Zcb(tn:List Str)(cap:List (Str×Nat))(hi:PI X tg iter wi)(hg:∀C fp s H,PG (Z9 X (tn++cap.map (·.1)) scope cl C fp s H) tg g)(ht:∀C fp s H,PT (Z9 X (tn++cap.map (·.1)) scope cl C fp s H) ct tt)(he:∀C fp s H,PE (Z9 X (tn++cap.map (·.1)) scope cl C fp s H) elt te)
  (hc:X.calm=true) (hclos:closureFor scope X.env=pure cl) (hcell:∀y∈scope.names,y.2 ≠ .cell) (hk:scope.kind=.function) (hnames:∀y∈scope.names,y.2=.local->scope.names.lookup y.1=some .local)
  (hcl:∀x c,cl.lookup x=some c->X.env.cells.lookup x=some c)
  (hhas:∀C x,((compEnvC scope cl C X.env).kindOf x=some .cell\/(compEnvC scope cl C X.env).kindOf x=some .free)->∃c,cl.lookup x=some c)
  (hcap:∀C,∀p∈cap,X.N[p.2]?= some p.1/\X.env.scope.names.lookup p.1=some .cell/\((compEnvC scope cl C X.env).kindOf p.1=some .cell\/(compEnvC scope cl C X.env).kindOf p.1=some .free))
  (hs:∀v,foldedSetIterable iter X.env v=pure v):PE X (.ListComp elt [⟨tg,iter,[ct],0⟩] scope pos) (Zjn wi tn.length cap g tt te):=by
 intro pins s σ H Q I h;rw[eval_ListComp];refine wpAny_comprehension_free (use:=none) rfl hs hclos hk hnames (thn (hi pins s σ H _ I h) fun v s1 h1=>thn h1 fun itv s2 h2=>?_);obtain⟨it,fp,tnn,J,H2,e,I2,T,st2,f2,q2⟩:=h2;subst e;refine Zdx (R:=fun p H6=>Q (.ref p) H6) tn cap hg ht he hc hcell hk hcl hhas hcap I2 T st2 f2 q2 fun s3 H3 I3 f3 acc σ6 H6 s6 I6 q6=>?_;obtain⟨m,hn,_⟩:=I6.loc;refine⟨m,hn,fun h' sb=>?_⟩;have nC:∀b o,s3.heap.get? b=some o->b≠s3.heap.objs.size:=fun b o q=>Nat.ne_of_lt (Heap.lt_size q);have u:Un (frs X.stack) fp H3 H6 s3.heap h':=by
  have u0:=I6.base;refine⟨fun b o q n hb hx=>(sb.2 b (nC b o q)).trans (u0.keep b o q n hb hx),fun b o q n hb hx=>?_,u0.free,fun b o q hx=>?_,u0.tups,u0.frzs,u0.tbls⟩
  ·obtain⟨sl,e⟩:=u0.slot b o q n hb hx;exact⟨sl,(sb.2 b (nC b o q)).trans e⟩
  ·obtain⟨o',e⟩:=u0.there b o q hx;exact⟨o',(sb.2 b (nC b o q)).trans e⟩
 have free6:H6 s3.heap.objs.size=none:=I6.free;have ok6:HOk X.prog X.w H6 h':=fun b o q=>(I6.hok b o q).stay (fun c v hcv r=>(sb.2 c (by
  rcases hcv with z|z
  ·rw[z];exact Zx q free6
  ·exact Zx z free6)).trans r) (fun _ q=>q) fun _ _ q=>q
 have I':=I3.call (g':=s6.gens) (d':=s6.drawn) (t':=s6.toks) (ch:=fp) u ok6 I6.bare fun b hb=>⟨(f3 b hb).2.2.2.1,(f3 b hb).2.1,(f3 b hb).2.2.2.2.1,(f3 b hb).2.2.2.2.2⟩;have e:({ s6 with heap:=h' }:Shared)= { s3 with heap:=h',gens:=s6.gens,drawn:=s6.drawn,toks:=s6.toks }:=by
  have ho:s6.os=s3.os:=I6.os;obtain⟨a1,a2,a3,a4,a5⟩:=s6;obtain⟨b1,b2,b3,b4,b5⟩:=s3;simp only at ho;subst ho;rfl
 rw[e];exact⟨.ref _,H6,I',rfl,q6⟩
end
end L2
namespace PySem.SeqAt
open AutoSeq1 (wpAny_loadPart')
open MeetsSeq MeetsSeq2 MeetsSeq3 SeqRoads2
end PySem.SeqAt
namespace L2
open PySem PySem.Spec PyProof.Rows
def CW(n:Nat)(Pv:Nat->List V->St->Hp->Prop):Nat->Nat->List V->St->Hp->Prop:=fun i m ys σ H=>m=n-i/\i<=n/\Pv i ys σ H
theorem CW.next{n i:Nat}{Pv:Nat->List V->St->Hp->Prop}{ys:List V}{σ : St}{H:Hp}(hi:i<n)(h:Pv (i+1) ys σ H):∃m',m'<n-i/\CW n Pv (i+1) m' ys σ H:=⟨_,by lia,rfl,hi,h⟩
theorem nd1{x:Str}:[x].Nodup:=by simp
theorem Zc8{K:PySem.W.Frag}{a p:Addr}{xs:List V}{g:TG}{te:TE}{R:Hp->Prop}{σ0:St}{H0:Hp}(Pv:Nat->List V->St->Hp->Prop)(h0:Pv 0 [] σ0 H0)
  (hl:∀i ys σ H,i<=xs.length->Pv i ys σ H->SqL K H a xs/\H p=some (.lst ys))
  (hs:∀i ys x σ H,i<xs.length->xs[i]?= some x->Pv i ys σ H->g x σ H fun σ3 H4=>te σ3 H4 fun v H5=>H5 p=some (.lst ys)/\ys.length<sizeLine/\∃m',m'<xs.length-i/\CW xs.length Pv (i+1) m' (ys ++ [v]) σ3 (upd H5 p (.lst (ys ++ [v]))))
  (hd:∀ys σ H,Pv xs.length ys σ H->R H) :
  ∃W:Nat->Nat->List V->St->Hp->Prop,(∃m,W 0 m [] σ0 H0)/\∀i m ys σc H2,W i m ys σc H2->H2 p=some (.lst ys)/\(((Itl K a).stop i H2/\R H2)\/((Itl K a).go i H2/\∀x H3,(Itl K a).yld i H2 x H3->g x σc H3 fun σ3 H4=>te σ3 H4 fun v H5 =>
   H5 p=some (.lst ys)/\ys.length<sizeLine/\∃m',m'<m/\W (i+1) m' (ys ++ [v]) σ3 (upd H5 p (.lst (ys ++ [v]))))):=by
 refine⟨CW xs.length Pv,⟨_,rfl,Nat.zero_le _,h0⟩,?_⟩;rintro i m ys σ H ⟨rfl,hi,hp⟩;obtain⟨h1,h2⟩:=hl i ys σ H hi hp;refine⟨h2,?_⟩;by_cases hlt:i<xs.length
 ·refine .inr ⟨⟨xs,xs[i],h1,List.getElem?_eq_getElem hlt⟩,?_⟩;rintro x H3 ⟨rfl,hx⟩;exact hs i ys x σ _ hlt (hx xs h1) hp
 ·refine .inl ⟨⟨xs,h1,by lia⟩,hd ys σ H ?_⟩;have e:i=xs.length:=by lia
  rw[<- e];exact hp
theorem Zcy{scope:Scope}{env:Env}(h:∀y∈scope.names,y.2 ≠ .cell/\y.2 ≠ .free){cl:List (Str×Addr)}:∀(C:Addr)(x:Str),((compEnvC scope cl C env).kindOf x=some .cell\/(compEnvC scope cl C env).kindOf x=some .free)->∃c,cl.lookup x=some c:=by
 have key:∀(l:List (Str×NameKind))(x:Str),(∀y∈l,y.2 ≠ .cell/\y.2 ≠ .free)->∀k,(l.map fun(n,k)=>if(k ==.free&&env.scope.kind ==.function&&env.kindOf n == some .cell) then(n,.cell) else(n,k)).lookup x=some k->k ≠ .cell/\k ≠ .free:=by
  intro l
  induction l with
  | nil=>intro x _ k e;simp at e
  | cons y l ih =>
   intro x hy k e;obtain⟨n,kd⟩:=y;have hk:=hy _ (List.mem_cons_self ..);have e0:(kd == NameKind.free&&env.scope.kind ==.function&&env.kindOf n == some .cell)=false:=by
    have:(kd == NameKind.free)=false:=by
     cases kd <;> first|rfl|exact absurd rfl hk.2
    rw[this];rfl
   simp only[List.map_cons,e0,Bool.false_eq_true,if_false,List.lookup_cons] at e;cases hx:x == n with
   | true =>
    rw[hx] at e;cases e;exact hk
   | false =>
    rw[hx] at e;exact ih x (fun y hm=>hy y (List.mem_cons_of_mem _ hm)) k e
 intro C x hx;rcases hx with e|e
 ·exact absurd rfl (key _ x h _ e).1
 ·exact absurd rfl (key _ x h _ e).2
section
variable{X:Cx}{elt iter tg:Expr}{scope:Scope}{pos:Pos}{wi:TI}{g:TG}{te:TE}{cl:List (Str×Addr)}
theorem ZbI{y:Str}{py spos:Pos}{n0:Nat}(hN:X.N.Nodup)(hi0:X.N[n0]?= some y)(hx:Loc X.env.scope y)(tn:List Str)(cap:List (Str×Nat))(hi:PI X tg iter wi)(hg:∀C fp s H,PG (Z9 X (tn++cap.map (·.1)) scope cl C fp s H) tg g)(he:∀C fp s H,PE (Z9 X (tn++cap.map (·.1)) scope cl C fp s H) elt te)
  (hc:X.calm=true) (hclos:closureFor scope X.env=pure cl) (hcell:∀y∈scope.names,y.2 ≠ .cell) (hk:scope.kind=.function) (hnames:∀y∈scope.names,y.2=.local->scope.names.lookup y.1=some .local)
  (hcl:∀x c,cl.lookup x=some c->X.env.cells.lookup x=some c)
  (hhas:∀C x,((compEnvC scope cl C X.env).kindOf x=some .cell\/(compEnvC scope cl C X.env).kindOf x=some .free)->∃c,cl.lookup x=some c)
  (hcap:∀C,∀p∈cap,X.N[p.2]?= some p.1/\X.env.scope.names.lookup p.1=some .cell/\((compEnvC scope cl C X.env).kindOf p.1=some .cell\/(compEnvC scope cl C X.env).kindOf p.1=some .free))
  (hs:∀v,foldedSetIterable iter X.env v=pure v) (hsw:swapsWith (.ListComp elt [⟨tg,iter,[],0⟩] scope pos) (some (.Name y py)) spos.line X.env=pure true) (hf:X.fn y=true\/X.env.scope.names.lookup y=some .local:=by first|exact .inl rfl|exact .inr rfl|assumption) :
  PS X (.Assign [.Name y py] (.ListComp elt [⟨tg,iter,[],0⟩] scope pos) spos) (Zls (Zkv wi tn.length cap g te) (Zgm n0)):=by
 intro pins s σ H D I h;rw[exec_Assign_Name_used _ _ _ _ hsw];refine wpAny_bind (wpAny_standAt (wpAny_bind ?_));show wpAny _ X.A (do let _ <- comprehension (.ListComp elt [⟨tg,iter,[],0⟩] scope pos) scope X.env _ (newList []) false (eval iter X.env) (some (assign (.Name y py) X.env))) _ _ s;refine wpAny_bind (wpAny_mono (wpAny_comprehension_free (use:=some (assign (.Name y py) X.env)) (Q:=fun _ s'=>SP X pins D .next s') rfl hs hclos hk hnames (thn (hi pins s σ H _ I h) fun v s1 h1=>thn h1 fun itv s2 h2=>?_)) (fun _ s' hq=>wpAny_pure (wpAny_pure hq)) fun _ _ e=>e)
 obtain⟨it,fp,tnn,J,H2,e,I2,T,st2,f2,q2⟩:=h2;subst e;refine ZdD (R:=fun p H6=>Zgm n0 (.ref p) σ H6 (fun σ' H'=>D.nx σ' H')) tn cap hg he hc hcell hk hcl hhas hcap I2 T st2 f2 q2 fun s3 H3 I3 f3 acc σ6 H6 s6 I6 q6=>?_;obtain⟨m,hn,_⟩:=I6.loc;have I':Inv X pins σ H6 s6:=I3.call' (ch:=fp) I6.os I6.base I6.hok I6.bare fun b hb=>⟨(f3 b hb).2.2.2.1,(f3 b hb).2.1,(f3 b hb).2.2.2.2.1,(f3 b hb).2.2.2.2.2⟩;have fC:Zb9 X pins H6 s3.heap.objs.size:=I3.fpOk (Nat.le_refl _) I6.free;show wpAny _ X.A (assign (.Name y py) X.env (.ref acc)) _ _ s6;refine wpAny_assign_Name (Zde (v:=.ref acc) I' hN hi0 hx rfl (fun s7 I7 ⟨a,sb,ha⟩=>?_) hf);have nCa:s3.heap.objs.size≠a:=by
  rcases ha with z|z
  ·rw[z];exact fC.2.1
  ·exact(fC.2.2.2.2.1 _ _ z).symm
 exact⟨m,hn.sameBut sb nCa,fun h' sb'=>⟨_,H6,I7.turned (t':=s7.toks) (fun b o hb e=>(sb'.2 b hb).trans e) fC.1 fC.2.1 fC.2.2.2.1 fC.2.2.2.2.1 fC.2.2.2.2.2,q6⟩⟩
end
section
variable{X:Cx}{elt ct iter tg:Expr}{scope:Scope}{pos:Pos}{wi:TI}{g:TG}{tt:TT}{te:TE}{cl:List (Str×Addr)}
theorem ZbB{y:Str}{py spos:Pos}{n0:Nat}(hN:X.N.Nodup)(hi0:X.N[n0]?= some y)(hx:Loc X.env.scope y)(tn:List Str)(cap:List (Str×Nat))(hi:PI X tg iter wi)(hg:∀C fp s H,PG (Z9 X (tn++cap.map (·.1)) scope cl C fp s H) tg g)(ht:∀C fp s H,PT (Z9 X (tn++cap.map (·.1)) scope cl C fp s H) ct tt)(he:∀C fp s H,PE (Z9 X (tn++cap.map (·.1)) scope cl C fp s H) elt te)
  (hc:X.calm=true) (hclos:closureFor scope X.env=pure cl) (hcell:∀y∈scope.names,y.2 ≠ .cell) (hk:scope.kind=.function) (hnames:∀y∈scope.names,y.2=.local->scope.names.lookup y.1=some .local)
  (hcl:∀x c,cl.lookup x=some c->X.env.cells.lookup x=some c)
  (hhas:∀C x,((compEnvC scope cl C X.env).kindOf x=some .cell\/(compEnvC scope cl C X.env).kindOf x=some .free)->∃c,cl.lookup x=some c)
  (hcap:∀C,∀p∈cap,X.N[p.2]?= some p.1/\X.env.scope.names.lookup p.1=some .cell/\((compEnvC scope cl C X.env).kindOf p.1=some .cell\/(compEnvC scope cl C X.env).kindOf p.1=some .free))
  (hs:∀v,foldedSetIterable iter X.env v=pure v) (hsw:swapsWith (.ListComp elt [⟨tg,iter,[ct],0⟩] scope pos) (some (.Name y py)) spos.line X.env=pure true) (hf:X.fn y=true\/X.env.scope.names.lookup y=some .local:=by first|exact .inl rfl|exact .inr rfl|assumption) :
  PS X (.Assign [.Name y py] (.ListComp elt [⟨tg,iter,[ct],0⟩] scope pos) spos) (Zls (Zjn wi tn.length cap g tt te) (Zgm n0)):=by
 intro pins s σ H D I h;rw[exec_Assign_Name_used _ _ _ _ hsw];refine wpAny_bind (wpAny_standAt (wpAny_bind ?_));show wpAny _ X.A (do let _ <- comprehension (.ListComp elt [⟨tg,iter,[ct],0⟩] scope pos) scope X.env _ (newList []) false (eval iter X.env) (some (assign (.Name y py) X.env))) _ _ s;refine wpAny_bind (wpAny_mono (wpAny_comprehension_free (use:=some (assign (.Name y py) X.env)) (Q:=fun _ s'=>SP X pins D .next s') rfl hs hclos hk hnames (thn (hi pins s σ H _ I h) fun v s1 h1=>thn h1 fun itv s2 h2=>?_)) (fun _ s' hq=>wpAny_pure (wpAny_pure hq)) fun _ _ e=>e)
 obtain⟨it,fp,tnn,J,H2,e,I2,T,st2,f2,q2⟩:=h2;subst e;refine Zdx (R:=fun p H6=>Zgm n0 (.ref p) σ H6 (fun σ' H'=>D.nx σ' H')) tn cap hg ht he hc hcell hk hcl hhas hcap I2 T st2 f2 q2 fun s3 H3 I3 f3 acc σ6 H6 s6 I6 q6=>?_;obtain⟨m,hn,_⟩:=I6.loc;have I':Inv X pins σ H6 s6:=I3.call' (ch:=fp) I6.os I6.base I6.hok I6.bare fun b hb=>⟨(f3 b hb).2.2.2.1,(f3 b hb).2.1,(f3 b hb).2.2.2.2.1,(f3 b hb).2.2.2.2.2⟩;have fC:Zb9 X pins H6 s3.heap.objs.size:=I3.fpOk (Nat.le_refl _) I6.free;show wpAny _ X.A (assign (.Name y py) X.env (.ref acc)) _ _ s6;refine wpAny_assign_Name (Zde (v:=.ref acc) I' hN hi0 hx rfl (fun s7 I7 ⟨a,sb,ha⟩=>?_) hf);have nCa:s3.heap.objs.size≠a:=by
  rcases ha with z|z
  ·rw[z];exact fC.2.1
  ·exact(fC.2.2.2.2.1 _ _ z).symm
 exact⟨m,hn.sameBut sb nCa,fun h' sb'=>⟨_,H6,I7.turned (t':=s7.toks) (fun b o hb e=>(sb'.2 b hb).trans e) fC.1 fC.2.1 fC.2.2.2.1 fC.2.2.2.2.1 fC.2.2.2.2.2,q6⟩⟩
end
theorem Zln{P:Program}{w:World}{k:Key}{u:Value}(r:RelV (kV k) u):(Zaj P w).is k u=true:=by
 cases k with
 | inl i=>obtain⟨t,e⟩:=(show ∃t,u=Value.int i t from r);subst e;exact Zfq P w i t
 | inr x=>obtain⟨t,e⟩:=(show ∃t,u=Value.str x t from r);subst e;exact Zfs P w x t
theorem Zes{P:Program}{w:World}:∀{ks:List Key}{us:List Value},Vals (ks.map kV) us->ItemsAre (Zaj P w) ks us
 | [],_,r=>by rw[List.map_nil] at r;cases r;exact .nil
 | k::ks,_,r=>by
  rw[List.map_cons] at r;cases r with
  | cons h t=>exact .cons (Zln h) (Zes t)
section
variable{P:Program}{w:World}{H:Hp}{h:Heap}{a:Addr}
theorem ZkM{ks:List Key}(ok:HOk P w H h)(e:H a=some (.tup (ks.map kV))):(tupleKind (Zaj P w)).is h ks a:=by
 obtain⟨_,its,r,o,h1,h2,n,h3⟩:=(show ZaJ P w H h a (.tup (ks.map kV)) from ok a _ e);exact⟨o,its.toArray,n,h1,h2,h3,by simpa using Zes r⟩
end
end L2
namespace FgM
end FgM
namespace L2
open PySem PySem.Spec PyProof.Rows
theorem lookup_mem{β : Type}{x:Str}{c : β}:∀{l:List (Str × β)},l.lookup x=some c->(x,c)∈l
 | [],h=>by cases h
 | (y,d)::l,h=>by
  rw[List.lookup_cons] at h;cases e:x == y with
  | true =>
   rw[e] at h;cases h;rw[beq_iff_eq.mp e];exact List.mem_cons_self ..
  | false =>
   rw[e] at h;exact List.mem_cons_of_mem _ (lookup_mem h)
theorem Za1{env:Env}{cl:List (Str×Addr)}(h:∀p∈cl,env.cells.lookup p.1=some p.2):∀x c,cl.lookup x=some c->env.cells.lookup x=some c:=fun x c e=>h (x,c) (lookup_mem e)
theorem ZaE{scope:Scope}{env:Env}{cl:List (Str×Addr)}(h:∀y∈scope.names,(y.2=.cell\/y.2=.free)->∃c,cl.lookup y.1=some c):∀(C:Addr)(x:Str),((compEnvC scope cl C env).kindOf x=some .cell\/(compEnvC scope cl C env).kindOf x=some .free)->∃c,cl.lookup x=some c:=by
 have key:∀(k:NameKind)(x:Str),(k=.cell\/k=.free)->(scope.names.map fun(n,k)=>if(k ==.free&&env.scope.kind ==.function&&env.kindOf n == some .cell) then(n,.cell) else(n,k)).lookup x=some k->∃c,cl.lookup x=some c:=by
  intro k x hk e;obtain⟨⟨n,k0⟩,hy,he⟩:=List.mem_map.mp (lookup_mem e);by_cases hc:(k0 ==.free&&env.scope.kind ==.function&&env.kindOf n == some .cell)=true
  ·simp only[hc,if_true] at he;have h0:k0=.free:=by
    simp only[Bool.and_eq_true] at hc;have:=hc.1.1;cases k0 <;> first|rfl|exact absurd this (by decide)
   injection he with e1 e2;subst e1;exact h _ hy (.inr h0)
  ·simp only[hc] at he;injection he with e1 e2;subst e1 e2;exact h _ hy hk
 intro C x hx;rcases hx with e|e
 ·exact key _ x (.inl rfl) e
 ·exact key _ x (.inr rfl) e
theorem Zd1{X:Cx}{K:PySem.W.Frag}(h:X.K=K):IxR X (ZlW K):=by
 subst h;exact Zy
def ZjT:Stmt->List Stmt
 | .For _ _ b _ _=>b
 | .While _ b _ _=>b
 | .If _ b _ _=>b
 | _=>[]
theorem ZD{X:Cx}{b:List Stmt}{D:Ends}{σ : St}{H:Hp}(s:List Stmt){t:TS}(h:PSs X s t)(k:∀u,PSs X s u->u=t->∃t,PSs X b t/\t D σ H):∃t,PSs X b t/\t D σ H:=k t h rfl
theorem Zz{u t:TS}(e:u=t){D:Ends}{σ : St}{H:Hp}(h:t D σ H):u D σ H:=e ▸ h
theorem Zjb{α : Type}:∀{us:List α},us.length=1->∃a,us=[a]
 | [a],_=>⟨a,rfl⟩
theorem Zku{α : Type}{n:Nat}:∀{us:List α},us.length=n+1->∃a vs,us=a::vs/\vs.length=n
 | a::vs,h=>⟨a,vs,rfl,Nat.succ.inj h⟩
theorem ZfK{α : Type}{us:List α}(h:us.length=2):∃a b,us=[a,b]:=by
 obtain⟨a,vs,rfl,h2⟩:=Zku h;obtain⟨b,rfl⟩:=Zjb h2;exact⟨a,b,rfl⟩
theorem Zld{α : Type}{us:List α}(h:us.length=3):∃a b c,us=[a,b,c]:=by
 obtain⟨a,vs,rfl,h2⟩:=Zku h;obtain⟨b,c,rfl⟩:=ZfK h2;exact⟨a,b,c,rfl⟩
theorem Zlf{α : Type}{us:List α}(h:us.length=4):∃a b c d,us=[a,b,c,d]:=by
 obtain⟨a,vs,rfl,h2⟩:=Zku h;obtain⟨b,c,d,rfl⟩:=Zld h2;exact⟨a,b,c,d,rfl⟩
theorem Zl1{α : Type}{us:List α}(h:us.length=5):∃a b c d e,us=[a,b,c,d,e]:=by
 obtain⟨a,vs,rfl,h2⟩:=Zku h;obtain⟨b,c,d,e,rfl⟩:=Zlf h2;exact⟨a,b,c,d,e,rfl⟩
theorem Zl6{α : Type}{us:List α}(h:us.length=6):∃a b c d e f,us=[a,b,c,d,e,f]:=by
 obtain⟨a,vs,rfl,h2⟩:=Zku h;obtain⟨b,c,d,e,f,rfl⟩:=Zl1 h2;exact⟨a,b,c,d,e,f,rfl⟩
theorem Vals.inv{v:V}{vs:List V}{us:List Value}(h:Vals (v::vs) us):∃u us',us=u::us'/\RelV v u/\Vals vs us':=by
 cases h with
 | cons r t=>exact⟨_,_,rfl,r,t⟩
theorem Vals.end_{us:List Value}(h:Vals [] us):us=[]:=by
 cases h;rfl
def XO(e:Addr)(C:Value)(d:Option Addr):Heap->Prop:=fun h=>∃oe vs,h.get? e=some oe/\oe.cls=C/\oe.dict=d/\oe.data=.fields vs/\4<vs.size
theorem XO.ext_ok{P:Program}{w:World}{H:Hp}{h:Heap}{e:Addr}{C:Value}{d:Option Addr}(x:XO e C d h):ZaJ P w H h e (.ext (XO e C d)):=by
 refine⟨x,?_,fun h1 h2 p k=>?_⟩
 ·obtain⟨oe,_,ho,_⟩:=x;exact⟨oe,ho⟩
 ·obtain⟨oe,vs,ho,r⟩:=p;exact⟨oe,vs,k oe ho,r⟩
theorem ZiT{H:Hp}{a:Addr}{o:HO}(h:H a=some o):upd H a o=H:=by
 funext b
 unfold upd;by_cases e:b=a
 ·subst e;rw[if_pos rfl,h]
 ·rw[if_neg e]
section
variable{X:Cx}{pins:List (Addr×Obj)}{σ : St}{H:Hp}{s:Shared}{e T:Addr}{C:Value}{d:Option Addr}{M:Model}{A:Around}{E:Value->Shared->Prop}{Q:Unit->Shared->Prop}
theorem Inv.xo(I:Inv X pins σ H s)(he:H e=some (.ext (XO e C d))):XO e C d s.heap:=(I.hok e _ he).1
theorem Inv.poke{h':Heap}{t':Nat}(I:Inv X pins σ H s)(he:H e=some (.ext (XO e C d)))(k:∀b u,b≠e->s.heap.get? b=some u->h'.get? b=some u)(x:XO e C d h'):Inv X pins σ H { s with heap:=h',toks:=t' }:=by
 have:=I.write (x:=e) (e:=e) (o:=.ext (XO e C d)) (h':=h') (t':=t') (by rw[he];trivial) (.inl rfl) k (by obtain⟨oe,_,ho,_⟩:=x;exact⟨oe,ho⟩) x.ext_ok
 rwa [ZiT he] at this
def XHead(X:Cx)(pins:List (Addr×Obj))(H:Hp)(h:Heap)(e:Addr)(fl:Value):Prop :=
 ∃T oT ts oe vs,h.get? e=some oe/\oe.data=.fields vs/\vs[1]?= some (.ref T)/\Zb9 X pins H T/\h.get? T=some oT/\oT.data=.fields ts/\ts[3]?= some fl
def XSt(X:Cx)(pins:List (Addr×Obj))(H:Hp)(h:Heap)(e:Addr):Prop:=(∃oe vs,h.get? e=some oe/\oe.data=.fields vs/\vs[1]?= some .none)\/XHead X pins H h e .none
theorem ZfM{h:Heap}{a:Addr}{o:Obj}{vs:Array Value}(i:Nat)(x:Value)(ho:h.get? a=some o)(hd:o.data=.fields vs) :
  (h.update a (Obj.mapFields (·.setIfInBounds i x))).get? a=some (o.mapFields (·.setIfInBounds i x)):=Heap.get?_update_self _ ho (Obj.isFreed_of_fields (Obj.data_mapFields hd _))
theorem ZiE(o:Obj)(f:Array Value->Array Value):(o.mapFields f).dict=o.dict:=by
 obtain⟨c,d,dt,sl⟩:=o;cases dt <;> rfl
theorem XO.put{h:Heap}(x:XO e C d h)(i:Nat)(v:Value):XO e C d (h.update e (Obj.mapFields (·.setIfInBounds i v))):=by
 obtain⟨oe,vs,ho,hc,hdd,hd,hz⟩:=x;exact⟨_,_,ZfM i v ho hd,(Obj.cls_mapFields ..).trans hc,(ZiE ..).trans hdd,Obj.data_mapFields hd _,by simpa using hz⟩
theorem Inv.slots{h':Heap}(I:Inv X pins σ H s)(hs:Heap.SlotsOnly (frs X.stack) s.heap h'):Inv X pins σ H { s with heap:=h' }:=by
 refine I.call' (s':={ s with heap:=h' }) (ch:=[]) rfl ⟨fun b o q n hb _=>(hs.2.1 b hb).trans q,fun b o q _ _ _=>hs.2.2 b o q,fun _ _ _ n _=>n,fun b o q _=>let ⟨sl,e⟩:=hs.2.2 b o q;⟨_,e⟩,fun _ _ q=>q,fun _ _ _ q=>q,fun _ ps q=>⟨#[],by rw[q];simp⟩⟩ ?_ I.bare (fun b z=>absurd z (by simp));intro b o q;have hfr:=I.stkFree;refine(I.hok b o q).stay (fun c u hc z=>?_) (fun _ z=>z) (fun _ _ z=>z);have hn:c∉frs X.stack:=by
  intro hm;rcases hc with rfl|hc
  ·rw[hfr _ hm] at q;cases q
  ·rw[hfr _ hm] at hc;cases hc
 exact(hs.2.1 c hn).trans z
theorem Zf1{head:Value}{hadNext:Bool}(hA:A.frames=some (X.env::X.outer))(hstk:X.stack=X.env::X.outer)(hf:X.env.frame=some X.env.locals)(I:Inv X pins σ H s)(he:H e=some (.ext (XO e C d)))
  (h:∀h',Inv X pins σ H { s with heap:=h' }->XHead X pins H h' e (rawInt X.env.locals)->Q () { s with heap:=h' }) :
  wpAny M A (frameOf X.env >>= fun a=>entryPlaceOf X.env.locals hadNext >>= fun pl=>EntryCells.newEntry head a .none (rawInt X.env.locals) .none pl >>= fun b=>setField (.ref e) 1 b) Q E s:=by
 have hl:s.heap.FunFrames X.base (X.env::X.outer):=hstk ▸ I.stack;refine wpAny_bind (wpAny_frameOf_fun hA hl hf fun h1 hs1=>?_);have I1:Inv X pins σ H { s with heap:=h1 }:=I.slots (by rw[hstk];exact hs1);refine wpAny_bind (wpAny_entryPlaceOf fun pl hpl=>?_);unfold EntryCells.newEntry newFields;refine wpAny_bind (wpAny_newObj_type ?_ (hpl.sizeOk5 _ _ _ _ _));generalize hob:({ cls:=Value.type "traceback",dict:=none,data:=Data.fields ([head,Value.ref X.env.locals,Value.none,rawInt X.env.locals,Value.none]++(if pl.isEmpty then List.replicate 6 Value.none else pl)).toArray }:Obj)=ob
 have I2:Inv X pins σ H { s with heap:=h1.push ob }:=I1.kept (h':=h1.push ob) (t':=s.toks) fun b u q=>Heap.get?_push_of_some _ q;obtain⟨oe,vs,ho,hc,hdd,hd,hz⟩:=I2.xo he;refine wpAny_setField ho hd (by lia) (h _ (I2.poke (t':=s.toks) he (fun b u hb q=>(Heap.get?_update_other _ _ (Ne.symm hb)).trans q) ((I2.xo he).put 1 _)) ?_);have hT:(h1.push ob).get? h1.objs.size=some ob:=Heap.get?_push_size _ (by rw[<- hob];rfl);have hne:e≠h1.objs.size:=fun z=>by
  have:=I1.hok.lt he;rw[z] at this;exact absurd this (Nat.lt_irrefl _)
 refine⟨h1.objs.size,ob,([head,Value.ref X.env.locals,Value.none,rawInt X.env.locals,Value.none]++(if pl.isEmpty then List.replicate 6 Value.none else pl)).toArray,_,_,ZfM 1 _ ho hd,Obj.data_mapFields hd _,?_,I1.fpOk (Nat.le_refl _) (I1.hok.fresh (Nat.le_refl _)),(Heap.get?_update_other _ _ hne).trans hT,?_,?_⟩
 ·rw[Array.getElem?_setIfInBounds_self_of_lt (by lia)]
 ·rw[<- hob]
 ·simp
theorem ZhT(hA:A.frames=some (X.env::X.outer))(hstk:X.stack=X.env::X.outer)(hf:X.env.frame=some X.env.locals)(I:Inv X pins σ H s)(he:H e=some (.ext (XO e C d)))(x:XSt X pins H s.heap e)
  (h:∀h',Inv X pins σ H { s with heap:=h' }->XHead X pins H h' e (rawInt X.env.locals)->Q () { s with heap:=h' }):wpAny M A (noteFrame (.ref e) X.env) Q E s:=by
 unfold noteFrame;simp only[hf];rcases x with⟨oe,vs,ho,hd,h1⟩|⟨T,oT,ts,oe,vs,ho,hd,h1,fT,hT,hdT,h3⟩
 ·refine wpAny_bind (wpAny_field ho hd h1 ?_);rw[if_neg (by decide)];exact Zf1 hA hstk hf I he h
 ·refine wpAny_bind (wpAny_field ho hd h1 ?_);rw[if_pos (show(Value.ref T != Value.none)=true by simp)];refine wpAny_bind (wpAny_field hT hdT h3 ?_);rw[if_neg (show ¬ ((Value.none == rawInt X.env.locals)=true) by simp[rawInt])];refine wpAny_bind (wpAny_setField hT hdT (Array.getElem?_eq_some_iff.mp h3).1 ?_);obtain⟨f0,f1,f2,f3,f4,f5⟩:=fT;have I1:=I.turned (t':=s.toks) (h':=s.heap.update T (Obj.mapFields (·.setIfInBounds 3 Value.none))) (fun b u hb q=>(Heap.get?_update_other _ _ (Ne.symm hb)).trans q) f0 f1 f3 f4 f5;exact Zf1 hA hstk hf I1 he h
theorem Zhm{fl:Value}(I:Inv X pins σ H s)(he:H e=some (.ext (XO e C d)))(x:XHead X pins H s.heap e fl)
  (h:∀h',Inv X pins σ H { s with heap:=h' }->XHead X pins H h' e .none->Q () { s with heap:=h' }):wpAny M A (setFlight (.ref e) none) Q E s:=by
 obtain⟨T,oT,ts,oe,vs,ho,hd,h1,fT,hT,hdT,h3⟩:=x;unfold setFlight;refine wpAny_bind (wpAny_field ho hd h1 ?_);rw[if_pos (show(Value.ref T != Value.none)=true by simp)];refine wpAny_setField hT hdT (Array.getElem?_eq_some_iff.mp h3).1 ?_;obtain⟨f0,f1,f2,f3,f4,f5⟩:=id fT;have hne:T≠e:=fun z=>by subst z;rw[f0] at he;cases he
 refine h _ (I.turned (t':=s.toks) (fun b u hb q=>(Heap.get?_update_other _ _ (Ne.symm hb)).trans q) f0 f1 f3 f4 f5) ⟨T,_,_,oe,vs,(Heap.get?_update_other _ _ hne).trans ho,hd,h1,fT,ZfM 3 _ hT hdT,Obj.data_mapFields hdT _,?_⟩;rw[Array.getElem?_setIfInBounds_self_of_lt (Array.getElem?_eq_some_iff.mp h3).1];rfl
end
abbrev XKS:=St->XK
def CXE(P:Program)(w:World):CXT:=fun outer H s E ev s'=>∃(e:Addr)(C:Value)(d:Option Addr)(H':Hp),ev=.ref e/\s'.os=s.os/\AllBare s'.gens/\Un (frs outer) [] H H' s.heap s'.heap/\HOk P w H' s'.heap /\
 H' e=some (.ext (XO e C d))/\s.heap.objs.size<=e/\(∃T oT ts oe vs,s'.heap.get? e=some oe/\oe.data=.fields vs/\vs[1]?= some (.ref T)/\H' T=none/\s.heap.objs.size<=T/\s'.heap.get? T=some oT/\oT.data=.fields ts/\ts[3]?= some .none)/\E C d H'
def Zgv(X:Cx)(E:XKS):Prop := ∀(pins:List (Addr×Obj))(σ : St)(H:Hp)(s:Shared)(e:Addr)(C:Value)(d:Option Addr),Inv X pins σ H s->H e=some (.ext (XO e C d))->(X.ex=[]->X.s₀.heap.objs.size<=e)->XSt X pins H s.heap e->E σ C d H->X.xe (.ref e) s
theorem Zam{P:Program}{w:World}{K:PySem.W.Frag}{mg:Str->Option Value}{base:Heap}{N:List Str}{qual:Str}{scope:Scope}{f:Addr}{cd:Value}{A:Around}{outer:List Env}{s:Shared}{H:Hp}{E:XK} :
  Zgv (ZiY (CXE P w) P w K mg base N qual scope f cd A outer s H E) (fun _=>E):=by
 intro pins σ H1 s1 e C d I he hy x hE;show wpAny _ _ (leaving _ _) _ _ s1;unfold leaving;refine wpAny_bind (ZhT (X:=ZiY (CXE P w) P w K mg base N qual scope f cd A outer s H E) I.ok.frames rfl rfl I he x fun h2 I2 x2=>Zhm I2 he x2 fun h3 I3 x3=>?_);obtain⟨T,oT,ts,oe,vs,ho,hd,h1,fT,hT,hdT,h3'⟩:=x3;refine⟨e,C,d,H1,rfl,I3.os,I3.bare,I3.base,I3.hok,he,hy rfl,⟨T,oT,ts,oe,vs,ho,hd,h1,fT.1,?_,hT,hdT,h3'⟩,hE⟩;rcases fT.2.2.2.1 with z|z
 ·exact absurd z (by show T∉([]:List Addr);simp)
 ·exact z
theorem ZgC{X:Cx}{E:XKS}(hT:Zgv X E){pins:List (Addr×Obj)}{σ : St}{H:Hp}{s s':Shared}{ev:Value}(I:Inv X pins σ H s)(h:CXE X.prog X.w X.stack H s (E σ) ev s'):X.xe ev s':=by
 obtain⟨e,C,d,H',rfl,os,bare,un,hok,he,hes,⟨T,oT,ts,oe,vs,ho,hd,h1,hTn,hTs,hT',hdT,h3⟩,hE⟩:=h;have I1:=I.call' (ch:=[]) os un hok bare (fun b z=>absurd z (by simp));exact hT pins σ H' s' e C d I1 he (fun _=>Nat.le_trans I.sz hes) (.inr ⟨T,oT,ts,oe,vs,ho,hd,h1,I.fpOk hTs hTn,hT',hdT,h3⟩) hE
structure HasX(P:Program)(w:World)(K:PySem.W.Frag)(mg:Str->Option Value)(base:Heap)(x:Str)(ps:List Str)(k:Nat)(sp:Sp):Prop where
 ex:∃(f:Addr)(fd:FuncData),FnOk P w K mg base (CXE P w) k f fd ps sp/\Binds K fd ps []/\PySem.W.keepIn K (.ref f)=true/\mg x=some (.ref f)
def Zla(sp:Sp)(E:XKS)(t:TA):TE:=fun σ H Q=>t σ H fun vs H1=>sp vs H1 Q (E σ)
section
variable{X:Cx}{j k:Nat}{f:Addr}{fd:FuncData}{ps:List Str}{sp:Sp}{E:XKS}{x:Str}{p pos:Pos}{e:Expr}{es:List Expr}{t:TA}
theorem Zjz{pins:List (Addr×Obj)}{σ : St}{H:Hp}{s:Shared}{Q:VK}{us:List Value}{vs:List V}(F:FnOk X.prog X.w X.K X.mg X.base (CXE X.prog X.w) k f fd ps sp)(hr:Room k X.A)(hb:Binds X.K fd ps [])(hT:Zgv X E)
  (I:Inv X pins σ H s) (r:Vals vs us) (h:sp vs H Q (E σ)):wpAny (model X.prog X.w) X.A (call (.ref f) us) (EP X pins σ Q) X.xe s:=by
 have hl:us.length=ps.length:=by rw[<- r.length];exact F.len _ _ _ _ h
 have hbb:=hb s us I.kIn (by rw[List.append_nil];exact hl);rw[List.append_nil] at hbb;refine wpAny_call (codeAny_mono (F.run X.A X.stack s H ⟨us,[]⟩ us vs Q (E σ) hr I.env0 hbb r h) fun r s' hq=>?_);cases r with
 | error e=>exact ZgC hT I hq
 | ok fl =>
  cases fl with
  | ret u=>exact I.after hq
  | next=>exact False.elim hq
  | brk=>exact False.elim hq
  | cont=>exact False.elim hq
theorem ZaC(G:HasX X.prog X.w X.K X.mg X.base x ps j sp)(hT:Zgv X E)(hr:Room k X.A)(hg:Gl X x)(ha:PA X (e::es) t)(hk:j<=k:=by decide)(hdb:(x == ("__debug__" : Str))=false:=by decide)
  (he:starEach (e::es) X.env=(false,eval e X.env)::starEach es X.env:=by rfl) (hpl:(backTo pos (starEach es X.env)).any (·.1)=false:=by rfl) :
  PE X (.Call (.Name x p) (e::es) [] pos) (Zla sp E t):=by
 obtain⟨f,fd,F,b,kp,m⟩:=G.ex;intro pins s σ H Q I h;refine wpAny_Call_Name_kw (Zeb I hg m ?_ hdb);refine PySem.W.callWith_K (h₀ := X.base) I.ok.mod.kin kp (thn (ha pos pins s σ H _ I h) fun us s1 ⟨vs,H1,I1,r,q⟩=>⟨I1.kIn,?_⟩) he hpl;exact Zjz (F.room hk) hr b hT I1 r q
end
theorem Fun.okX{P:Program}{w:World}{K:PySem.W.Frag}{mg:Str->Option Value}{base:Heap}{x qual:Str}{st:Stmt}{f:Addr}{fd:FuncData}{N ps:List Str}{k:Nat}{sp:Sp}(F:Fun K x qual st f fd)(S:FnScope N ps (Zh st))(len:∀vs H Q E,sp vs H Q E->vs.length=ps.length)
  (hbody:∀(cdv:Value)(A:Around)(outer:List Env)(s:Shared)(H:Hp)(vs:List V)(Q:VK)(E:XK),Room k (A.deeper (envOfC qual (Zh st) s.heap.objs.size f cdv))->sp vs H Q E ->
   ∃t,PSs (ZiY (CXE P w) P w K mg base N qual (Zh st) f cdv A outer s H E) (Zf st) t/\t { nx:=fun _ H'=>Q .non H',rt:=Q } (start N vs) H):FnOk P w K mg base (CXE P w) (k+1) f fd ps sp:=by
 obtain⟨oc,od,kV,doc,pm,an,cdv,ct,osl,rfl,lk,hcd⟩:=F.ex;exact ZkI lk hcd S len fun A outer s H vs Q E hr hsp=>hbody cdv A outer s H vs Q E hr hsp
structure XCl(K:PySem.W.Frag)(D:Addr):Prop where
 cl:PySem.W.isClsIn K D=true
 exc:PySem.W.mroIn K D (.type "BaseException")=some true
 nt:PySem.W.instIn K (.ref D) (.type "tuple")=some false
inductive Spec(K:PySem.W.Frag)(H:Hp):V->List Addr->Prop
 | one {D:Addr}:XCl K D->Spec K H (.ref D) [D]
 | many {p:Addr} {Ds:List Addr}:SqT K H p (Ds.map V.ref)->(∀D∈Ds,XCl K D)->Spec K H (.ref p) Ds
theorem ZeC:∀{Ds:List Addr}{us:List Value},Vals (Ds.map V.ref) us->us=Ds.map Value.ref
 | [],_,.nil=>rfl
 | D::Ds,_,.cons r t=>by
  rw[ZeC t];obtain rfl:_=Value.ref D:=r;rfl
section
variable{M:Model}{A:Around}{E:Value->Shared->Prop}{s:Shared}{K:PySem.W.Frag}{D:Addr}
theorem XCl.isExc(x:XCl K D)(X:K.In s.heap){Q:Bool->Shared->Prop}(h:Q true s):wpAny M A (isExcClass (.ref D)) Q E s:=by
 have hc:=x.cl;unfold PySem.W.isClsIn PySem.W.clsIn at hc
 split at hc
 ·rename_i ho
  unfold isExcClass;refine wpAny_bind ?_;show wpAny M A (loadHead D >>= _) _ _ s;refine wpAny_bind (wpAny_loadPart (X _ _ ho) (wpAny_pure ?_));dsimp only;rw[if_pos rfl];exact(PySem.W.looks_mroIn X x.exc).here h
 ·cases hc
theorem Zfy{g:Value->PUnit->Sem (ForInStep PUnit)}:∀(Ls:List Addr),(∀D∈Ls,∀{Q:ForInStep PUnit->Shared->Prop},Q (.yield PUnit.unit) s->wpAny M A (g (.ref D) PUnit.unit) Q E s)->∀{Q:PUnit->Shared->Prop},Q PUnit.unit s->wpAny M A (forIn (Ls.map Value.ref) PUnit.unit g) Q E s
 | [],_,_,h=>wpAny_pure h
 | D::Ls,hg,_,h=>by
  rw[List.map_cons,List.forIn_cons];exact wpAny_bind (hg D (List.mem_cons_self ..) (Zfy Ls (fun y hy=>hg y (List.mem_cons_of_mem _ hy)) h))
theorem Zih{f:Addr->Bool}{g:Value->Option Bool×Unit->Sem (ForInStep (Option Bool×Unit))}:∀(Ls:List Addr),(∀D∈Ls,∀{Q:ForInStep (Option Bool×Unit)->Shared->Prop},Q (if f D=true then .done (some true,()) else .yield (none,())) s->wpAny M A (g (.ref D) (none,())) Q E s) ->
  ∀{Q:Option Bool×Unit->Shared->Prop},Q (if Ls.any f=true then some true else none,()) s->wpAny M A (forIn (Ls.map Value.ref) ((none,()):Option Bool×Unit) g) Q E s
 | [],_,_,h=>wpAny_pure h
 | D::Ls,hg,_,h=>by
  rw[List.map_cons,List.forIn_cons];rw[List.any_cons] at h;refine wpAny_bind (hg D (List.mem_cons_self ..) ?_);cases hf:f D with
  | true =>
   rw[hf] at h;exact wpAny_pure h
  | false =>
   rw[hf] at h;exact Zih Ls (fun y hy=>hg y (List.mem_cons_of_mem _ hy)) h
theorem Zll{X:Cx}{pins:List (Addr×Obj)}{σ : St}{H:Hp}{f:Addr->Bool}{C e:Addr}{oe:Obj}{Q:Bool->Shared->Prop}{v:V}{u:Value}{Ds:List Addr}(I:Inv X pins σ H s)(hv:Spec X.K H v Ds)(r:RelV v u)(he:s.heap.get? e=some oe)(hc:oe.cls=.ref C)
  (hb:∀D∈Ds,PySem.W.mroIn X.K C (.ref D)=some (f D)) (h:Q (Ds.any f) s):wpAny M A (excMatches (.ref e) u) Q E s:=by
 cases hv with
 | @one D hD =>
  obtain rfl:u=Value.ref D:=r;unfold excMatches;refine wpAny_bind ((PySem.W.looks_instIn I.kIn hD.nt).here ?_);dsimp only;rw[if_neg Bool.false_ne_true];refine wpAny_bind (wpAny_pure ?_);refine wpAny_bind (Zfy [D] (fun y hy {Q} q=>?_) (wpAny_bind (wpAny_typeOf_ref he (wpAny_bind (Zih (f:=f) [D] (fun y hy {Q} q=>?_) ?_)))))
  ·obtain rfl:=List.mem_singleton.mp hy;exact wpAny_bind (hD.isExc I.kIn (wpAny_pure q))
  ·rw[hc];refine wpAny_bind ((PySem.W.looks_mroIn I.kIn (hb y hy)).here ?_);cases hf:f y with
   | true=>rw[hf] at q;exact wpAny_pure q
   | false=>rw[hf] at q;exact wpAny_pure q
  ·cases hf:[D].any f with
   | true=>rw[hf] at h;exact wpAny_pure h
   | false=>rw[hf] at h;exact wpAny_pure h
 | @many p _ hp hD =>
  obtain rfl:u=Value.ref p:=r;obtain⟨its,rv,⟨o,ho,hcl,n,hd⟩,_⟩:=I.tuple hp;unfold excMatches;refine wpAny_bind (wpAny_isInstance (T := "tuple") ⟨o,ho,hcl⟩ (show isSubtype (.type "tuple") (.type "tuple")=pure true by rw[isSubtype_type];kernel_rfl) ?_);dsimp only;rw[if_pos rfl];refine wpAny_bind (wpAny_seqItems ho hd (wpAny_bind (wpAny_pure ?_)));have e1:((some its.toArray).getD #[]).toList=Ds.map Value.ref:=by
   rw[<- ZeC rv];rfl
  rw[e1];refine wpAny_bind (Zfy Ds (fun y hy {Q} q=>?_) (wpAny_bind (wpAny_typeOf_ref he (wpAny_bind (Zih (f:=f) Ds (fun y hy {Q} q=>?_) ?_)))))
  ·exact wpAny_bind ((hD y hy).isExc I.kIn (wpAny_pure q))
  ·rw[hc];refine wpAny_bind ((PySem.W.looks_mroIn I.kIn (hb y hy)).here ?_);cases hf:f y with
   | true=>rw[hf] at q;exact wpAny_pure q
   | false=>rw[hf] at q;exact wpAny_pure q
  ·cases hf:Ds.any f with
   | true=>rw[hf] at h;exact wpAny_pure h
   | false=>rw[hf] at h;exact wpAny_pure h
end
abbrev Cx.tr(X:Cx)(pins:List (Addr×Obj))(E:Value->Shared->Prop):Cx:={ X with pn:=X.pn++pins,xe:=E }
abbrev Cx.hd(X:Cx)(e:Addr):Cx:={ X with A:=X.A.mark (some (.ref e)),calm:=false,xe:=fun _ _=>False }
section
variable{X:Cx}{pins pins':List (Addr×Obj)}{σ : St}{H:Hp}{s:Shared}{e:Addr}{E:Value->Shared->Prop}
theorem Inv.tr(I:Inv X pins σ H s)(E:Value->Shared->Prop):Inv (X.tr pins E) [] σ H s :=
 ⟨⟨I.ok.mod,I.ok.kind,I.ok.glob,I.ok.blt,I.ok.above,I.ok.inj,I.ok.has,I.ok.cab,I.ok.hd,I.ok.frames,I.ok.stk,I.ok.exf,I.ok.bs,I.ok.bsz,I.ok.noex,I.ok.exfs,I.ok.funs,I.ok.frf⟩,I.os,I.bare,I.base,I.loc,I.cell,I.free,I.freeC,fun p hp=>I.pin p (by simpa using hp),I.hok,I.len⟩
theorem Inv.untr(I:Inv (X.tr pins E) pins' σ H s):Inv X pins σ H s :=
 ⟨⟨I.ok.mod,I.ok.kind,I.ok.glob,I.ok.blt,I.ok.above,I.ok.inj,I.ok.has,I.ok.cab,I.ok.hd,I.ok.frames,I.ok.stk,I.ok.exf,I.ok.bs,I.ok.bsz,I.ok.noex,I.ok.exfs,I.ok.funs,I.ok.frf⟩,I.os,I.bare,I.base,I.loc,I.cell,I.free,I.freeC,fun p hp=>I.pin p (List.mem_append_left _ hp),I.hok,I.len⟩
theorem Zb9.untr{T:Addr}(f:Zb9 (X.tr pins E) pins' H T):Zb9 X pins H T:=⟨f.1,f.2.1,f.2.2.1,f.2.2.2.1,f.2.2.2.2.1,fun p hp=>f.2.2.2.2.2 p (List.mem_append_left _ hp)⟩
theorem Inv.hd(I:Inv X pins σ H s)(e:Addr):Inv (X.hd e) pins σ H s :=
 ⟨⟨I.ok.mod,I.ok.kind,I.ok.glob,I.ok.blt,I.ok.above,I.ok.inj,I.ok.has,I.ok.cab,(fun z=>nomatch z),I.ok.frames,I.ok.stk,I.ok.exf,I.ok.bs,I.ok.bsz,I.ok.noex,I.ok.exfs,I.ok.funs,I.ok.frf⟩,I.os,I.bare,I.base,I.loc,I.cell,I.free,I.freeC,I.pin,I.hok,I.len⟩
theorem Inv.unhd(I:Inv (X.hd e) pins σ H s)(ok:X.Ok):Inv X pins σ H s:=⟨ok,I.os,I.bare,I.base,I.loc,I.cell,I.free,I.freeC,I.pin,I.hok,I.len⟩
theorem Inv.drop1{p:Addr×Obj}(I:Inv X (p::pins) σ H s):Inv X pins σ H s:=I.pins_of fun q hq=>I.pin q (List.mem_append_right _ (List.mem_cons_of_mem _ hq))
theorem SP.untr{D:Ends}{f:Flow}{s':Shared}(h:SP (X.tr pins E) pins' D f s'):SP X pins D f s':=by
 cases f with
 | next=>obtain⟨σ',H',I,q⟩:=h;exact⟨σ',H',I.untr,q⟩
 | brk=>obtain⟨σ',H',I,q⟩:=h;exact⟨σ',H',I.untr,q⟩
 | cont=>obtain⟨σ',H',I,q⟩:=h;exact⟨σ',H',I.untr,q⟩
 | ret u=>obtain⟨v,σ',H',I,r,q⟩:=h;exact⟨v,σ',H',I.untr,r,q⟩
end
def Known(e:Addr)(oe:Obj):HO:=.ext fun h=>h.get? e=some oe
theorem ZiJ{P:Program}{w:World}{H:Hp}{h:Heap}{e:Addr}{oe:Obj}(x:h.get? e=some oe):ZaJ P w H h e (Known e oe):=⟨x,⟨oe,x⟩,fun _ _ p k=>k _ p⟩
abbrev THS:=Ends->St->Hp->Addr->Obj->Prop
def PH(X:Cx)(hs:List ExceptHandler)(t:THS):Prop := ∀(pins:List (Addr×Obj))(s:Shared)(σ : St)(H:Hp)(D:Ends)(e:Addr)(oe:Obj)(T:Addr)(oT:Obj)(ts vs:Array Value),
 Inv X ((T,oT)::pins) σ H s->Zb9 X pins H T->oe.data=.fields vs->vs[1]?= some (.ref T)->oT.data=.fields ts->ts[3]?= some .none->H e=some (Known e oe)->t D σ H e oe ->
 wpAny (model X.prog X.w) X.A (handleBy (.ref e) X.env hs) (SP X pins D) X.xe s
def Zmb(tb:XKS->TS)(th:THS):TS:=fun D σ H=>∃E:XKS,tb E D σ H/\∀(σ':St)(C:Value)(d:Option Addr)(H':Hp)(e:Addr)(oe:Obj),E σ' C d H'->H' e=some (.ext (XO e C d))->oe.cls=C->oe.dict=d->(∃vs,oe.data=.fields vs)->th D σ' (upd H' e (Known e oe)) e oe
section
variable{X:Cx}{body:List Stmt}{h₀ : ExceptHandler}{hs rest:List ExceptHandler}{tb:XKS->TS}{th tr:THS}{pos:Pos}
theorem Zk9(hstk:X.stack=X.env::X.outer)(hf:X.env.frame=some X.env.locals)
  (hb:∀(E:XKS)(pins:List (Addr×Obj))(E₁ : Value->Shared->Prop),Zgv (X.tr pins E₁) E->PassesOwn (model X.prog X.w) X.A X.env E₁ -> PSs (X.tr pins E₁) body (tb E)) (hh:PH X (h₀ :: hs) th):PS X (.Try body (h₀ :: hs) [] [] pos) (Zmb tb th):=by
 intro pins s σ H D I h;obtain⟨E,h1,h2⟩:=h;refine wpAny_Try_except ?_;refine wpAny_mono (hb E pins _ ?_ PassesOwn.looking [] s σ H D (I.tr _) h1) (fun f s1 q=>?_) fun e s1 q=>q
 ·intro pins' σ' H' s1 e C d I1 he hy x hE;refine ZhT (X:=X.tr pins _) (by rw[I.ok.frames,hstk]) hstk hf I1 he x fun h2' I2 x2=>Zhm I2 he x2 fun h3 I3 x3=>?_;obtain⟨T,oT,ts,oe,vs,ho,hd,hv1,fT,hT,hdT,h3'⟩:=x3;obtain⟨oe',vs',ho',hc,hdd,_⟩:=I3.xo he;rw[ho] at ho';cases ho';have I4:=I3.untr;have I5:=I4.write (x:=e) (e:=e) (o:=Known e oe) (t':=s1.toks) (h':=h3) (by rw[he];trivial) (.inl rfl) (fun b u _ z=>z) ⟨oe,ho⟩ (ZiJ ho);have fT':=fT.untr;have hne:T≠e:=fun z=>by subst z;rw[fT'.1] at he;cases he
  have fT2:Zb9 X pins (upd H' e (Known e oe)) T:=⟨by rw[ZR hne];exact fT'.1,fT'.2⟩;have I6:Inv X ((T,oT)::pins) σ' (upd H' e (Known e oe)) { s1 with heap:=h3 }:=I5.pins_of fun p hp=>by
   rcases List.mem_cons.mp hp with rfl|hp
   ·exact⟨hT,fT2.1,fT2.2.1,fT2.2.2.1,fun v z=>by rw[hdT] at z;cases z⟩
   ·exact I5.pin p (List.mem_append_right _ hp)
  exact hh pins _ σ' _ D e oe T oT ts vs I6 fT2 hd hv1 hdT h3' Zc (h2 σ' C d H' e oe hE he hc hdd ⟨vs,hd⟩)
 ·cases f with
  | next =>
   obtain⟨σ',H',I',q⟩:=q;exact wpAny_execs_nil ⟨σ',H',I'.untr,q⟩
  | brk=>exact SP.untr q
  | cont=>exact SP.untr q
  | ret u=>exact SP.untr q
theorem Zb2{M:Model}{A:Around}{E:Value->Shared->Prop}{pins:List (Addr×Obj)}{σ : St}{H:Hp}{s:Shared}{i:Nat}{n:Str}{Q:Unit->Shared->Prop}(I:Inv X pins σ H s)(hN:X.N.Nodup)(hi:X.N[i]?= some n)(hk:X.env.scope.names.lookup n=some .local)
  (h:∀s',Inv X pins (σ.set i none) H s'->Q () s'):wpAny M A (bindName X.env n .none >>= fun _=>unbindBehindTheSuite X.env n pos) Q E s:=by
 obtain⟨m,hn,hl⟩:=id I.loc;have hcls:(X.env.scope.kind ==.class || (X.env.scope.kind ==.module&&X.env.locals != X.env.globals))=false:=by rw[I.ok.kind];rfl
 have hl0:X.env.kindOf n=some .local:=hk;refine wpAny_bind (wpAny_bindName (wpAny_storeName_local hl0 hn (fun ha hna hsa=>?_) hcls));unfold unbindBehindTheSuite;refine wpAny_onRaise ?_;unfold unbindName deleteName;refine wpAny_bind (wpAny_point (wpAny_bind ?_));simp only[hl0,hcls];rw[if_neg (by decide)];refine wpAny_bind (wpAny_nsDel_keeps hna fun hb v hnb hsb=>?_);simp only[if_true,Option.isSome_some,Bool.not_true,Bool.false_eq_true,if_false];refine wpAny_pure (wpAny_point (h _ ?_));have hs:=hsa.trans hsb;obtain⟨oL,_,_,hoL,_⟩:=id hn;have cne:=I.cne;refine⟨I.ok,I.os,I.bare,⟨fun b o e n hb hx=>?_,fun b o e n hb hx=>?_,I.base.free,fun b o e hx=>?_,I.base.tups,I.base.frzs,I.base.tbls⟩,⟨_,hnb,fun j y v' e1 e2 e3=>?_⟩,fun y c e=>?_,I.free,I.freeC,fun p hp=>?_,fun b ob e=>?_,by simpa using I.len⟩
 ·exact(hs.2 b (Nat.ne_of_lt (Nat.lt_of_lt_of_le (Heap.lt_size e) I.ok.above))).trans (I.base.keep b o e n hb hx)
 ·obtain⟨sl,e1⟩:=I.base.slot b o e n hb hx;exact⟨sl,(hs.2 b (Nat.ne_of_lt (Nat.lt_of_lt_of_le (Heap.lt_size e) I.ok.above))).trans e1⟩
 ·obtain⟨o',e1⟩:=I.base.there b o e hx;exact⟨o',(hs.2 b (Nat.ne_of_lt (Nat.lt_of_lt_of_le (Heap.lt_size e) I.ok.above))).trans e1⟩
 ·by_cases hj:j=i
  ·subst hj;by_cases hlt:j < σ.length
   ·rw[List.getElem?_set_self hlt] at e2;cases e2
   ·rw[List.getElem?_eq_none (by rw[List.length_set];lia)] at e2;cases e2
  ·rw[List.getElem?_set_ne (Ne.symm hj)] at e2;obtain⟨u',r',q⟩:=hl j y v' e1 e2 e3;refine⟨u',r',?_⟩;rcases q with⟨k,e⟩|⟨k,c,e,z⟩
   ·refine .inl ⟨k,?_⟩;have:y≠n:=fun e=>hj (Zeh hN e1 (e ▸ hi));simp[this,e]
   ·exact .inr ⟨k,c,e,z.sameBut hs (cne y c e)⟩
 ·obtain⟨w',z⟩:=I.cell y c e;exact⟨w',z.sameBut hs (cne y c e)⟩
 ·obtain⟨e,n,ne,nf,d⟩:=I.pin p hp;exact⟨(hs.2 p.1 ne).trans e,n,ne,nf,d⟩
 ·refine(I.hok b ob e).stay (fun c w' hc q=>(hs.2 c ?_).trans q) (fun _ q=>q) fun _ _ q=>q;rintro rfl;rcases hc with rfl|hc
  ·rw[I.free] at e;cases e
  ·rw[I.free] at hc;cases hc
def unb(D:Ends)(i:Nat):Ends:={ nx:=fun σ H=>D.nx (σ.set i none) H,rt:=D.rt,bk:=fun σ H=>D.bk (σ.set i none) H,ct:=fun σ H=>D.ct (σ.set i none) H }
theorem Zfc{M:Model}{A:Around}{E:Value->Shared->Prop}{s:Shared}{e T:Addr}{oe oT:Obj}{vs ts:Array Value}{Q:Unit->Shared->Prop}(ho:s.heap.get? e=some oe)(hd:oe.data=.fields vs)(h1:vs[1]?= some (.ref T))(hT:s.heap.get? T=some oT)(hdT:oT.data=.fields ts)(h3:ts[3]?= some .none)(h:Q () s) :
  wpAny M A (setFlight (.ref e) none) Q E s:=by
 unfold setFlight;refine wpAny_bind (wpAny_field ho hd h1 ?_);rw[if_pos (show(Value.ref T != Value.none)=true by simp)];refine wpAny_setField hT hdT (Array.getElem?_eq_some_iff.mp h3).1 ?_;show Q () { s with heap:=s.heap.update T (Obj.mapFields (·.setIfInBounds 3 Value.none)) };rw[Heap.update_setField_same s.heap T oT ts 3 .none hT hdT h3];exact h
theorem Zlm{t:Expr}{n:Str}{b₀ : Stmt}{sb:List Stmt}{tt:TE}{tu:TS}{i:Nat}(ht:∀e,PE (X.hd e) t tt)(hN:X.N.Nodup)(hi:X.N[i]?= some n)(hk:X.env.scope.names.lookup n=some .local)(hs:∀e,PSs (X.hd e) (b₀ :: sb) tu):PH X (.ExceptHandler (some t) (some n) (b₀ :: sb) pos::rest)
  (fun D σ H e oe=>tt σ H fun v H1=>∃Ds C f,Spec X.K H1 v Ds/\oe.cls=.ref C/\(∀D∈Ds,PySem.W.mroIn X.K C (.ref D)=some (f D))/\Ds.any f=true/\H1 e=some (Known e oe)/\tu (unb D i) (σ.set i (some (.ref e))) H1):=by
 intro pins s σ H D e oe T oT ts vs I fT hd h1 hdT h3 he h;refine wpAny_handleBy_cons (codeAny_handlers_test (wpAny_mono ((ht e) ((T,oT)::pins) s σ H _ (I.hd e) h) (fun u s1 q=>?_) fun _ _ z=>z.elim)) (by intro z;cases z);obtain⟨v,H1,I1,r,Ds,C,f,hsp,hc,hb,hany,hkn,q⟩:=q;have I1':=I1.unhd I.ok;have hoe:=(I1'.hok e _ hkn).1;refine Zll (f:=f) I1' hsp r hoe hc hb ?_;rw[hany];refine codeAny_handlers_suite_as ?_;have hTo:=(I1'.pin (T,oT) (List.mem_append_right _ (List.mem_cons_self ..))).1;refine Zfc hoe hd h1 hTo hdT h3 ?_;refine ZdX I1'.drop1 hN hi (.inl hk) (show RelV (.ref e) (.ref e) from rfl) (fun s2 I2=>?_) (.inr hk);refine wpAny_mono ((hs e) pins s2 _ H1 (unb D i) (I2.hd e) q) (fun fl s3 q3=>?_) fun _ _ z=>z.elim;show wpAny _ X.A (bindName X.env n .none >>= fun _=>unbindBehindTheSuite X.env n pos) _ _ s3;cases fl with
 | next =>
  obtain⟨σ',H',I3,q3⟩:=q3;exact Zb2 (I3.unhd I.ok) hN hi hk fun s' I'=>⟨_,_,I',q3⟩
 | brk =>
  obtain⟨σ',H',I3,q3⟩:=q3;exact Zb2 (I3.unhd I.ok) hN hi hk fun s' I'=>⟨_,_,I',q3⟩
 | cont =>
  obtain⟨σ',H',I3,q3⟩:=q3;exact Zb2 (I3.unhd I.ok) hN hi hk fun s' I'=>⟨_,_,I',q3⟩
 | ret u =>
  obtain⟨v3,σ',H',I3,r3,q3⟩:=q3;exact Zb2 (I3.unhd I.ok) hN hi hk fun s' I'=>⟨v3,_,_,I',r3,q3⟩
end
end L2
namespace L2
open PySem PySem.Spec PyProof.Rows PySem.W
abbrev bmV:List Value:=[.type "ValueError",.type "Exception",.type "BaseException",.type "object"]
def keysOk(es:Array DictEntry):Bool:=es.toList.all fun e=>match e.key with | .str _ _=>true|_=>false
structure XMid(K:Frag)(G:Addr):Prop where
 ob:∃c0 dd cd sl oc od es ep sl',K.lookup G=some ⟨c0,dd,.cls cd,sl⟩/\K.lookup cd.ns=some ⟨oc,od,.dict es ep,sl'⟩/\keysOk es=true/\nsIn K cd.ns "__init__" = some none
structure XTop(K:Frag)(C G:Addr):Prop where
 ob:∃nm q N bs hdct sn sub ab col dd k0 k1 k2 k3 k5,K.lookup C=some (excClassObj nm q C N bs (.ref G::bmV) hdct sn sub ab col dd k0 k1 k2 k3 k5 "ValueError.__new__")
 mid:XMid K G
 call:specialIn K (.ref C) "__call__" = some (some (.builtin "type.__call__"))
 typ:instIn K (.ref C) (.type "type")=some true
 kp:keepIn K (.ref C)=true
theorem XMid.tail{K:Frag}{G:Addr}{h:Heap}(x:XMid K G)(X:K.In h):OwnTail h bmV (.ref G::bmV):=by
 obtain⟨c0,dd,cd,sl,oc,od,es,ep,sl',h1,h2,h3,h4⟩:=x.ob;have hns:h.isNs cd.ns=true:=by
  unfold Heap.isNs;rw[X _ _ h2];have h5:=h3;unfold keysOk at h5;rw[Array.all_toList] at h5;exact h5
 have hN:=Heap.Ns.of_isNs hns;exact .own (X _ _ h1) hN (ns_none_of X hN h4) .base
theorem XTop.mro{K:Frag}{C G:Addr}(x:XTop K C G):∃cd,clsIn K C=some cd/\cd.mro=.ref C :: .ref G::bmV:=by
 obtain⟨nm,q,N,bs,hdct,sn,sub,ab,col,dd,k0,k1,k2,k3,k5,h1⟩:=x.ob;have e:clsIn K C=some { name:=nm,bases:=bs,mro:=.ref C :: .ref G::bmV,ns:=N,qualname:=q,hasDict:=hdct,slotNames:=sn,subclasses:=sub,abstract:=ab,collection:=col,hasDel:=false }:=by
  unfold clsIn;rw[h1]
 exact⟨_,e,rfl⟩
abbrev Zax(C t:Addr):Obj:={ cls:=.ref C,data:=.fields #[.ref t,.none,.none,.none,.bool false,.none] }
abbrev Zae(vs:List Value):Obj:={ cls:=.type "tuple",data:=.seq vs.toArray }
section
variable{prog:Program}{w:World}{A:Around}{K:Frag}{C G f:Addr}{R:Result->Shared->Prop}{s:Shared}
theorem Zgz{us:List Value}{init:Value}(x:XTop K C G)(X:K.In s.heap)(hi:findIn K (.ref C) "__init__" = some (some init)) (b0:∀self,Looks (model prog w) s.heap (bindSpecial init self) (init,[self])) (hl:us.length<=sizeLine)
  (hq:codeAny (model prog w) (A.under (.builtin "type.__call__" ⟨.ref C::us,[]⟩)) (.call init ⟨.ref (s.heap.objs.size+1)::us,[]⟩) (InitBack (s.heap.objs.size+1) R)
   { s with heap:=(s.heap.push (Zae us)).push (Zax C s.heap.objs.size) }) :
  codeAny (model prog w) A (.call (.ref C) ⟨us,[]⟩) R s:=by
 obtain⟨hh,g,d,t,os⟩:=s;obtain⟨nm,q,N,bs,hdct,sn,sub,ab,col,dd,k0,k1,k2,k3,k5,hK⟩:=x.ob;have hC:=X _ _ hK;have T:=x.mid.tail X;have call:=looks_specialIn (M:=model prog w) X x.call;have typ:=looks_instIn (M:=model prog w) X x.typ;have i0:=looks_findIn (M:=model prog w) X hi;refine codeAny_of_tree ?_;show wpAny _ _ (callAny (.ref C) _) _ _ _;refine nd_load hC ?_;show wpAny _ _ (callAny.viaDunder (.ref C) _) _ _ _;unfold callAny.viaDunder;refine wpAny_bind (call.at ?_);dsimp only;rw[tc_bind];refine wpAny_bind (wpAny_pure (wpAny_bind (wpAny_pure ?_)));refine wpAny_pure (a:=Fin.again (.call (.builtin "type.__call__") ⟨.ref C::us,[]⟩)) ⟨rfl,?_⟩;refine codeAny_call_builtin_at (Code.quiet_builtin _ (by decide +kernel)) entry_typeCall (check_slot tc_kind tc_split typ (tc_args _ _ _) ?_)
 repeat (first|with_reducible refine wpAny_loadPart_at hC ?_|with_reducible refine wpAny_madeBy_exc hC ?_|wp_step)
 refine codeAny_call_builtin_code (Code.quiet_builtin _ F.excBase_ValueError.quiet) (wpAny_check_new_subT F.excBase_ValueError T hC (codeAny_exc_new_subT F.excBase_ValueError T hC ?_ hl));show wpAny _ _ _ _ _ _;have k:∀b o,hh.get? b=some o->((hh.push (Zae us)).push (Zax C hh.objs.size)).get? b=some o:=fun b o e=>Heap.get?_push_of_some _ (Heap.get?_push_of_some _ e);have hx:((hh.push (Zae us)).push (Zax C hh.objs.size)).get? (hh.objs.size+1)=some (Zax C hh.objs.size):=by heap_get
 have t1:Looks (model prog w) ((hh.push (Zae us)).push (Zax C hh.objs.size)) (typeOf (.ref (hh.objs.size+1))) (.ref C):=(Looks.ld hx).andThen .now;have s1:Looks (model prog w) ((hh.push (Zae us)).push (Zax C hh.objs.size)) (isSubtype (.ref C) (.ref C)) true:=by
  obtain⟨cd,hc,hm⟩:=x.mro;refine(looks_mroIn X ?_).keeps k;unfold mroIn;rw[hc,Option.bind_some,hm];simp
 have i1:=i0.keeps k;have b1:=(b0 (.ref (hh.objs.size+1))).keeps k;unfold isInstance callSpecial? specialOf
 repeat (first|with_reducible refine wpAny_call ?_|lk)
 refine codeAny_mono hq fun r s' z=>?_;rcases r with e|(v|_|_|_) <;> first|exact z|exact z.elim|skip
 obtain⟨rfl,z⟩:=z;exact wpAny_pure (wpAny_pure z)
end
end L2
namespace L2
open PySem PySem.Spec PyProof.Rows PySem.W Builtin Builtin.ObjectAttr
section
variable{prog:Program}{w:World}{A:Around}{E:Value->Shared->Prop}{K:Frag}{C G x:Addr}{s:Shared}
theorem Zf3(a b:Value):argsOk "BaseException.__getattribute__" ⟨[a,b],[]⟩:=F.args_bexc_ga a b
end
end L2
namespace L2
open PySem PySem.Spec PyProof.Rows PySem.W
def Zmi(x:Addr)(C:Value)(d:Option Addr):Heap->Prop:=fun h=>∃ox vs t,h.get? x=some ox/\ox.cls=C/\ox.dict=d/\ox.data=.fields vs/\4<vs.size/\vs[0]?= some (.ref t)/\vs[1]?= some .none
theorem ZiM{M:Model}{A:Around}{E:Value->Shared->Prop}{s:Shared}{env:Env}{K:Frag}{C G:Addr}{x0:Sem Value}{Q:Flow->Shared->Prop}(hh:A.handled=none)(y:XTop K C G)
  (h:wpAny M A x0 (fun v s1=>∃x d,v=.ref x/\K.In s1.heap/\Zmi x (.ref C) d s1.heap/\E (.ref x) s1) E s):wpAny M A (raiseStmt env (some x0) none) Q E s:=by
 unfold raiseStmt;refine wpAny_bind (wpAny_mono h (fun v s1 q=>?_) fun _ _ z=>z);obtain⟨x,d,rfl,X,⟨ox,vs,t,ho,hc,hd,hf,hz,h0,h1⟩,hE⟩:=q;obtain⟨cd,hcd,hmro⟩:=y.mro;have ty:Looks M s1.heap (typeOf (.ref x)) (.ref C):=hc ▸ (Looks.ld ho).andThen .now;have isb:Looks M s1.heap (isInstance (.ref x) (.type "BaseException")) true:=ty.andThen (looks_mroIn X (by unfold mroIn;rw[hcd,Option.bind_some,hmro];rfl));have nt:Looks M s1.heap (isType (.ref x)) false:=by
  intro A' Q' E' s' k q;unfold isType loadHead;refine wpAny_bind (wpAny_loadPart (k _ _ ho) ?_);rw[hf];exact wpAny_pure q
 obtain⟨nm,q,N,bs,hdct,sn,sub,ab,col,dd,k0,k1,k2,k3,k5,hK⟩:=y.ob;have tt:Looks M s1.heap (typeOf (.ref C)) (.type "type"):=(Looks.ld (X _ _ hK)).andThen .now;refine wpAny_bind (wpAny_pure (wpAny_bind (wpAny_holding ?_)));unfold excFromValue isExcClass;refine wpAny_bind (wpAny_bind (nt.here ?_));rw[if_neg Bool.false_ne_true];refine wpAny_pure ?_;rw[if_neg Bool.false_ne_true];refine wpAny_bind (isb.here ?_);rw[if_pos rfl];refine wpAny_pure ?_;refine wpAny_bind (nt.here ?_);rw[if_neg Bool.false_ne_true];unfold raisedInstance;refine wpAny_bind (wpAny_bind (ty.here (wpAny_bind (tt.here ?_))));rw[if_pos (by decide)];refine wpAny_pure ?_;unfold setFlight;refine wpAny_bind (wpAny_bind (wpAny_field ho hf h1 ?_));rw[if_neg (by decide)];exact wpAny_pure (wpAny_raiseNew_none hh hE)
structure XBas(K:Frag)(G:Addr):Prop where
 ga:specialIn K (.ref G) "__getattribute__" = some (some (.builtin "type.__getattribute__"))
 rd:readsIn K G (.type "type")=true
 fi:findCls K (.ref G) (.type "type") "__init__" = some (.val (.builtin "ValueError.__init__"))
section
variable{X:Cx}{C G:Addr}{g:Str}{p pos apos:Pos}{e:Expr}{es:List Expr}{t:TA}
structure XFld(K:Frag)(C:Addr)(f:Str):Prop where
 sa:findIn K (.ref C) "__setattr__" = some (some (.builtin "object.__setattr__"))
 no:findIn K (.ref C) f=some none
 hd:hasDictIn K C=true
 ga:findIn K (.ref C) "__getattribute__" = some (some (.builtin "BaseException.__getattribute__"))
 gt:findIn K (.ref C) "__getattr__" = some none
 mb:mroIn K C (.type "BaseException")=some true
end
theorem Zf7{prog:Program}{w:World}{A:Around}{E:Value->Shared->Prop}{s:Shared}{K:Frag}{x:Addr}{C c:Value}{Q:Value->Shared->Prop}(X:K.In s.heap)(ty:∀M,Looks M s.heap (typeOf (.ref x)) C)(hne:(C == c)=false)(e:kitCls K C c=some true)
  (h:Q (.bool true) s):wpAny (model prog w) A (call (.builtin "isinstance") [.ref x,c]) Q E s:=by
 refine call_isinstance (S:=fun _ R s=>(K.In s.heap/\∀M,Looks M s.heap (typeOf (.ref x)) C)/\R (.ok (.ret (.bool true))) s) (fun prog w A R s hs=>isinstance_outer ?_ (fun z=>nomatch z)) ⟨⟨X,ty⟩,h⟩
 ·obtain⟨⟨X,LT⟩,hq⟩:=hs;obtain⟨h0,g,d,tt,os⟩:=s;unfold Builtin.«isinstance.nested»;refine wpAny_bind ((LT _).at ?_);rw[if_neg (by rw[hne];decide)];obtain⟨hty,his,hsub⟩:=kit_cls (M:=model prog w) X e;refine wpAny_bind (hty.at ?_);rw[if_pos (by decide)]
  k_delta "plainIsInstance"
  refine wpAny_bind (wpAny_bind (his.at ?_));simp only[Bool.not_true,Bool.false_eq_true,if_false];refine wpAny_bind (((LT _).andThen hsub).at ?_)
  first|exact wpAny_pure (wpAny_pure hq)|(simp only[if_true];first|exact wpAny_pure (wpAny_pure hq)|exact wpAny_pure hq)
section
variable{prog:Program}{w:World}{A:Around}{K:Frag}{C G:Addr}{R:Result->Shared->Prop}{s:Shared}
theorem ZkV{us:List Value}(x:XTop K C G)(X:K.In s.heap)(hi:findIn K (.ref C) "__init__" = some (some (.builtin "ValueError.__init__"))) (hl:us.length<=sizeLine)
  (hq:R (.ok (.ret (.ref (s.heap.objs.size+1)))) { s with heap:=(((s.heap.push (Zae us)).push (Zax C s.heap.objs.size)).push (Zae us)).update (s.heap.objs.size+1) (Obj.mapFields (·.setIfInBounds 0 (.ref (s.heap.objs.size+2)))) }) :
  codeAny (model prog w) A (.call (.ref C) ⟨us,[]⟩) R s:=by
 have F0:=F.excBase_ValueError;refine Zgz x X hi (fun self=>Looks.of_pure (F0.init.bind self)) hl ?_;obtain⟨hh,g,d,tk,os⟩:=s;obtain⟨nm,q,N,bs,hdct,sn,sub,ab,col,dd,k0,k1,k2,k3,k5,hK⟩:=x.ob;have k:∀b o,hh.get? b=some o->((hh.push (Zae us)).push (Zax C hh.objs.size)).get? b=some o:=fun b o e=>Heap.get?_push_of_some _ (Heap.get?_push_of_some _ e);have hx:((hh.push (Zae us)).push (Zax C hh.objs.size)).get? (hh.objs.size+1)=some (Zax C hh.objs.size):=by heap_get
 have X2:=X.keeps k;refine codeAny_call_builtin F0.init.plain F0.initEntry (wpAny_check_init_subT F0 (x.mid.tail X2) (X2 _ _ hK) hx rfl ?_);have hx2:(((hh.push (Zae us)).push (Zax C hh.objs.size)).push (Zae us)).get? (hh.objs.size+1)=some (Zax C hh.objs.size):=Heap.get?_push_of_some _ hx;unfold Builtin.«BaseException.__init__»;refine wpAny_bind (wpAny_newTuple ?_ hl);unfold Builtin.BaseException.bexcPut;refine wpAny_bind (wpAny_bind (wpAny_field (s:=⟨((hh.push (Zae us)).push (Zax C hh.objs.size)).push (Zae us),g,d,tk,os⟩) hx2 rfl (x:=.ref hh.objs.size) rfl (wpAny_bind (wpAny_setField (s:=⟨((hh.push (Zae us)).push (Zax C hh.objs.size)).push (Zae us),g,d,tk,os⟩) hx2 rfl (by simp) ?_))))
 wp_walk
 refine⟨rfl,?_⟩;have e2:((hh.push (Zae us)).push (Zax C hh.objs.size)).objs.size=hh.objs.size+2:=by rw[Heap.size_push,Heap.size_push]
 rw[<- e2] at hq;exact hq
end
def ZjW(C:Addr)(E:XKS)(t:TA):TS:=fun _ σ H=>t σ H fun vs H1=>vs.length<=1000/\∀y,H1 y=none->E σ (.ref C) none (upd H1 y (.ext (XO y (.ref C) none)))
section
variable{X:Cx}{j k:Nat}{C G:Addr}{E:XKS}{x:Str}{p pos cpos:Pos}{e:Expr}{es:List Expr}{t:TA}
theorem Zb5(Z:XTop X.K C G)(hi:findIn X.K (.ref C) "__init__" = some (some (.builtin "ValueError.__init__"))) (nm:X.mg x=some (.ref C)) (hT:Zgv X E) (hr:Room k X.A) (hg:Gl X x) (ha:PA X (e::es) t) (hdb:(x == ("__debug__" : Str))=false:=by decide)
  (he:starEach (e::es) X.env=(false,eval e X.env)::starEach es X.env:=by rfl) (hpl:(backTo cpos (starEach es X.env)).any (·.1)=false:=by rfl) :
  PS X (.Raise (some (.Call (.Name x p) (e::es) [] cpos)) none pos) (ZjW C E t):=by
 intro pins s σ H D I h;show wpAny _ _ (standAt pos >>= fun _=>raiseStmt X.env (some (eval (.Call (.Name x p) (e::es) [] cpos) X.env >>= fun v=>standAt pos >>= fun _=>pure v)) none) _ _ s;refine wpAny_bind (wpAny_standAt (ZiM (hr.hd) Z (wpAny_bind ?_)));refine wpAny_Call_Name_kw (Zeb I hg nm ?_ hdb);refine PySem.W.callWith_K (h₀ := X.base) I.ok.mod.kin Z.kp (thn (ha cpos pins s σ H _ I h) fun us s1 ⟨vs,H1,I1,r,hl,q⟩=>⟨I1.kIn,?_⟩) he hpl;have hlu:us.length<=sizeLine:=by rw[<- r.length];exact Nat.le_trans hl (by decide)
 have hy:H1 (s1.heap.objs.size+1)=none:=I1.hok.fresh (Nat.le_succ _);have hE:=q (s1.heap.objs.size+1) hy;refine wpAny_call (ZkV Z I1.kIn hi hlu ?_);have hx:((s1.heap.push (Zae us)).push (Zax C s1.heap.objs.size)).get? (s1.heap.objs.size+1)=some (Zax C s1.heap.objs.size):=by heap_get
 have hx2:(((s1.heap.push (Zae us)).push (Zax C s1.heap.objs.size)).push (Zae us)).get? (s1.heap.objs.size+1)=some (Zax C s1.heap.objs.size):=Heap.get?_push_of_some _ hx;have I2:Inv X pins σ (upd H1 (s1.heap.objs.size+1) (.ext (XO (s1.heap.objs.size+1) (.ref C) none))) { s1 with heap:=(s1.heap.push (Zae us)).push (Zax C s1.heap.objs.size) }:=by
  have a:=I1.kept (t':=s1.toks) (h':=s1.heap.push (Zae us)) fun b u q=>Heap.get?_push_of_some _ q;exact a.laid (t':=s1.toks) (fun b u q=>Heap.get?_push_of_some _ q) (by show(s1.heap.push (Zae us)).objs.size<=_;rw[Heap.size_push];exact Nat.le_refl _) (XO.ext_ok ⟨_,_,hx,rfl,rfl,rfl,by simp⟩)
 have I3:=I2.kept (t':=s1.toks) (h':=((s1.heap.push (Zae us)).push (Zax C s1.heap.objs.size)).push (Zae us)) fun b u q=>Heap.get?_push_of_some _ q;have I4:=I3.poke (t':=s1.toks) (h':=(((s1.heap.push (Zae us)).push (Zax C s1.heap.objs.size)).push (Zae us)).update (s1.heap.objs.size+1) (Obj.mapFields (·.setIfInBounds 0 (.ref (s1.heap.objs.size+2))))) Zc (fun b u hb z=>(Heap.get?_update_other _ _ (Ne.symm hb)).trans z) (XO.put ⟨_,_,hx2,rfl,rfl,rfl,by simp⟩ 0 _);have hget:=ZfM 0 (.ref (s1.heap.objs.size+2)) hx2 rfl;refine wpAny_bind (wpAny_standAt (wpAny_pure ⟨_,none,rfl,I4.kIn,⟨_,_,s1.heap.objs.size+2,hget,rfl,rfl,rfl,by simp,rfl,rfl⟩,?_⟩));exact hT pins σ _ _ _ (.ref C) none I4 Zc (fun _=>Nat.le_trans I1.sz (Nat.le_succ _)) (.inl ⟨_,_,hget,rfl,rfl⟩) hE
end
section
variable{X:Cx}
theorem Zeu:Zby X (.builtin "isinstance") (fun xs H Q=>∃a oe C D,xs=[.ref a,.ref D]/\H a=some (Known a oe)/\oe.cls=.ref C/\C≠D/\isClsIn X.K D=true/\typeIn X.K (.ref D)=some (.type "type")/\mroIn X.K C (.ref D)=some true/\Q (.bl true) H):=by
 intro pins s σ H xs us Q I r h;obtain⟨a,oe,C,D,rfl,hk,hc,hne,h1,h2,h3,q⟩:=h;obtain⟨u,v,rfl,rx,ry⟩:=Vals.two r;obtain rfl:u=Value.ref a:=rx;obtain rfl:v=Value.ref D:=ry;have ho:s.heap.get? a=some oe:=(I.hok a _ hk).1;refine Zf7 I.kIn (C:=.ref C) (fun M=>hc ▸ (Looks.ld ho).andThen .now) (by simpa using hne) ?_ ⟨.bl true,H,I,rfl,q⟩;unfold kitCls;dsimp only;unfold isClsIn at h1;rw[h1,h2,if_pos (by decide)];exact h3
theorem ZhN:Zby X (.builtin "isinstance") (fun xs H Q=>∃a oe C n,xs=[.ref a,.ty n]/\H a=some (Known a oe)/\oe.cls=.ref C/\kitMeta n=true/\mroIn X.K C (.type n)=some true/\Q (.bl true) H):=by
 intro pins s σ H xs us Q I r h;obtain⟨a,oe,C,n,rfl,hk,hc,h1,h3,q⟩:=h;obtain⟨u,v,rfl,rx,ry⟩:=Vals.two r;obtain rfl:u=Value.ref a:=rx;obtain rfl:v=Value.type n:=ry;have ho:s.heap.get? a=some oe:=(I.hok a _ hk).1;refine Zf7 I.kIn (C:=.ref C) (fun M=>hc ▸ (Looks.ld ho).andThen .now) rfl ?_ ⟨.bl true,H,I,rfl,q⟩;unfold kitCls;dsimp only;rw[if_pos h1];exact h3
end
end L2
namespace L2
open PySem PySem.Spec PyProof.Rows
abbrev TJ:=St->Hp->Str->(Str->Hp->Prop)->Prop
def PJ(X:Cx)(es:List Expr)(t:TJ):Prop := ∀(pins:List (Addr×Obj))(s:Shared)(σ : St)(H:Hp)(acc:Str)(Q:Str->Hp->Prop),Inv X pins σ H s->t σ H acc Q ->
 wpAny (model X.prog X.w) X.A (joinParts acc (evalEach es X.env)) (EP X pins σ fun v H'=>∃z,v=.str z/\Q z H') X.xe s
def ZlG:TJ:=fun _ H acc Q=>acc.length<=sizeLine/\Q acc H
def Zkl(te:TE)(t:TJ):TJ:=fun σ H acc Q=>te σ H fun v H1=>∃y,v=.str y/\(acc++y).length<=sizeLine/\t σ H1 (acc++y) Q
def tFv(tv:TE):TE:=fun σ H Q=>tv σ H fun v H1=>(∃z,v=.str z/\z.length<=sizeLine/\Q (.str z) H1)\/∃i:Int,v=.int i/\i.natAbs.log2<1920/\Q (.str (Str.ofString (toString i))) H1
def Zju(t:TJ):TE:=fun σ H Q=>t σ H Str.empty fun z H'=>Q (.str z) H'
section
variable{X:Cx}{e:Expr}{es:List Expr}{te:TE}{t:TJ}{pos:Pos}
theorem Zja:PJ X [] ZlG:=fun _ _ _ H acc _ I h=>joinParts_nil ⟨.str acc,H,I.tok _,⟨_,rfl⟩,acc,rfl,h.2⟩ h.1
theorem Zda(he:PE X e te)(hr:PJ X es t)(hs:evalEach (e::es) X.env=eval e X.env::evalEach es X.env:=by rfl):PJ X (e::es) (Zkl te t):=by
 intro pins s σ H acc Q I h;rw[hs];refine joinParts_cons (thn (he pins s σ H _ I h) fun u s1 ⟨v,H1,I1,r,y,ev,hz,q⟩=>?_);subst ev;obtain⟨tk,rfl⟩:=r;exact⟨hz,hr pins s1 σ H1 _ Q I1 q⟩
theorem Zlx(he:PE X e te):PE X (.FormattedValue e (-1) none pos) (tFv te):=by
 intro pins s σ H Q I h;refine FormattedValue_plain (thn (he pins s σ H _ I h) fun u s1 ⟨v,H1,I1,r,q⟩=>?_);rcases q with⟨z,rfl,hz,q⟩|⟨i,rfl,hi,q⟩
 ·obtain⟨tk,rfl⟩:=r;exact formatField_str (fun t' tk=>⟨.str z,H1,I1.tok _,⟨_,rfl⟩,q⟩) hz
 ·obtain⟨tk,rfl⟩:=r;exact formatField_int_small hi ⟨.str _,H1,I1.tok _,⟨_,rfl⟩,q⟩
theorem ZeH{e2:Expr}(h:PJ X (e::e2::es) t):PE X (.JoinedStr (e::e2::es) pos) (Zju t):=by
 intro pins s σ H Q I hw;refine JoinedStr_many (thn (h pins s σ H _ _ I hw) fun u s1 ⟨v,H1,I1,r,z,ev,q⟩=>⟨v,H1,I1,r,by rw[ev];exact q⟩)
end
def strsOf:List Expr->Option (List Str)
 | []=>some []
 | .Constant (.str x) _ _::es=>(strsOf es).map (x :: ·)
 | _=>none
def Zkn(ss:List Str):TA:=fun _ H Q=>Q (ss.map V.str) H
theorem ZgG{X:Cx}:∀{es:List Expr}{ss:List Str},strsOf es=some ss->PA X es (Zkn ss):=by
 intro es
 induction es with
 | nil =>
  intro ss h;cases h;exact Zd
 | cons e es ih =>
  intro ss h;cases e with
  | Constant k j p =>
   cases k with
   | str x =>
    cases h1:strsOf es with
    | none=>simp[strsOf,h1] at h
    | some ss' =>
     simp[strsOf,h1] at h;subst h;exact fun pos pins s σ H Q I h=>Za Zal (ih h1) rfl pos pins s σ H Q I h
   | _=>simp[strsOf] at h
  | _=>simp[strsOf] at h
theorem ZjB{X:Cx}{es:List Expr}{ss:List Str}(h:strsOf es=some ss:=by rfl):PA X es (Zkn ss):=ZgG h
end L2
namespace L2
open PySem PySem.Spec PyProof.Rows PySem.W
variable{X:Cx}
theorem Zgs{K:Frag}(hK:X.K=K):Zby X (.builtin "isinstance") (fun xs H Q=>∃a oe C n,xs=[.ref a,.ty n]/\H a=some (Known a oe)/\oe.cls=.ref C/\kitMeta n=true/\mroIn K C (.type n)=some true/\Q (.bl true) H):=by
 subst hK;exact ZhN
end L2
namespace Srt
open PySem PyProof.Rows
def ZfA:Bool->Keyed->Array Keyed->Nat->Nat->Nat->StateT SortSt Sem (Option Nat):=sortPriv% PySem.Builtin.gallop
def ZiP:Array Keyed->Array Keyed->StateT SortSt Sem (Array Keyed):=sortPriv% PySem.Builtin.mergeLo
def ZiU:Array Keyed->Array Keyed->StateT SortSt Sem (Array Keyed):=sortPriv% PySem.Builtin.mergeHi
structure Like(st st':SortSt):Prop where
 arr:arrOf st'=arrOf st
 kind:kindOf st'=kindOf st
 fail:failedOf st'=failedOf st
 pend:pendingOf st'=pendingOf st
theorem Like.refl(st:SortSt):Like st st:=⟨rfl,rfl,rfl,rfl⟩
theorem Like.trans{a b c:SortSt}(x:Like a b)(y:Like b c):Like a c:=⟨y.arr.trans x.arr,y.kind.trans x.kind,y.fail.trans x.fail,y.pend.trans x.pend⟩
section
variable{prog:Program}{w:World}{A:Around}{E:Value->Shared->Prop}{s:Shared}{κ : SortKind}{Ok:Keyed->Prop}{st:SortSt}
theorem ZQ{arr:Array Keyed}{i:Nat}{Q:Keyed->SortSt->Prop}(hi:i<arr.size)(h:∀p,p∈arr.toList->arr[i]?= some p->Q p st):wpS (model prog w) A E s (elem' arr i) Q st:=by
 have e:arr[i]?= some arr[i]:=getElem?_pos arr i hi;rw[elem'_eq,e];exact wpS_pure (h _ (by simp) e)
end
def Out(a b:Array Keyed)(out:Array Keyed)(ia ib:Nat):Prop:=out.toList.Perm (a.toList.take ia++b.toList.take ib)
section
variable{a b out:Array Keyed}{ia ib:Nat}
theorem ZkA{α : Type}(x y z w:List α):(x++y++(z++w)).Perm (x++z++(y++w)):=by
 rw[List.append_assoc,List.append_assoc];refine List.Perm.append_left x ?_;rw[<- List.append_assoc,<- List.append_assoc];exact List.Perm.append_right w List.perm_append_comm
theorem Out.done(h:Out a b out ia ib):(out++a.extract ia a.size++b.extract ib b.size).toList.Perm (a.toList++b.toList):=by
 rw[Array.toList_append,Array.toList_append,Array.toList_extract,Array.toList_extract];have e1:a.toList.extract ia a.size=a.toList.drop ia:=by rw[List.extract_eq_drop_take];apply List.take_of_length_le;rw[List.length_drop,Array.length_toList];exact Nat.le_refl _
 have e2:b.toList.extract ib b.size=b.toList.drop ib:=by rw[List.extract_eq_drop_take];apply List.take_of_length_le;rw[List.length_drop,Array.length_toList];exact Nat.le_refl _
 rw[e1,e2,List.append_assoc];refine(List.Perm.append_right _ h).trans ((ZkA ..).trans ?_);rw[List.take_append_drop,List.take_append_drop]
theorem Out.last(h:Out a b out ia ib):(out++b.extract ib b.size++a.extract ia a.size).toList.Perm (a.toList++b.toList):=by
 refine List.Perm.trans ?_ h.done;rw[Array.toList_append,Array.toList_append,Array.toList_append,Array.toList_append,List.append_assoc,List.append_assoc];exact List.Perm.append_left _ List.perm_append_comm
theorem Out.extA{k:Nat}(h:Out a b out ia ib)(hk:ia+k<=a.size):Out a b (out++a.extract ia (ia+k)) (ia+k) ib:=by
 unfold Out;rw[Array.toList_append,Array.toList_extract,List.extract_eq_drop_take];have e:a.toList.take (ia+k)=a.toList.take ia++(a.toList.drop ia).take k:=List.take_add ..;rw[e,show ia+k-ia=k by lia];refine(List.Perm.append_right _ h).trans ?_;rw[List.append_assoc,List.append_assoc];exact List.Perm.append_left _ List.perm_append_comm
theorem Out.extB{k:Nat}(h:Out a b out ia ib)(hk:ib+k<=b.size):Out a b (out++b.extract ib (ib+k)) ia (ib+k):=by
 unfold Out;rw[Array.toList_append,Array.toList_extract,List.extract_eq_drop_take];have e:b.toList.take (ib+k)=b.toList.take ib++(b.toList.drop ib).take k:=List.take_add ..;rw[e,show ib+k-ib=k by lia];refine(List.Perm.append_right _ h).trans ?_;rw[List.append_assoc]
theorem ZdP{α : Type}{xs:List α}{i:Nat}{p : α}(h:xs[i]?= some p):xs.take (i+1)=xs.take i ++ [p]:=by
 obtain⟨hi,e⟩:=List.getElem?_eq_some_iff.mp h;rw[List.take_succ_eq_append_getElem hi,e]
theorem Out.pushA{p:Keyed}(h:Out a b out ia ib)(hp:a[ia]?= some p):Out a b (out.push p) (ia+1) ib:=by
 have hp':a.toList[ia]?= some p:=by rw[<- hp];simp
 unfold Out;rw[Array.toList_push,ZdP hp'];refine(List.Perm.append_right _ h).trans ?_;rw[List.append_assoc,List.append_assoc];exact List.Perm.append_left _ List.perm_append_comm
theorem Out.pushB{p:Keyed}(h:Out a b out ia ib)(hp:b[ib]?= some p):Out a b (out.push p) ia (ib+1):=by
 have hp':b.toList[ib]?= some p:=by rw[<- hp];simp
 unfold Out;rw[Array.toList_push,ZdP hp'];refine(List.Perm.append_right _ h).trans ?_;rw[List.append_assoc]
theorem Zmg{p:Keyed}(hp:b[0]?= some p):Out a b #[p] 0 1:=by
 have h0:Out a b #[] 0 0:=by
  unfold Out;rw[List.take_zero,List.take_zero];exact List.Perm.refl _
 exact h0.pushB hp
end
section
variable{prog:Program}{w:World}{A:Around}{E:Value->Shared->Prop}{s:Shared}{κ : SortKind}{Ok:Keyed->Prop}{st:SortSt}
theorem ZaF(st:SortSt)(g:Nat):Like st (SortSt.mk' (kindOf st) (arrOf st) (pendingOf st) g (failedOf st)):=⟨rfl,rfl,rfl,rfl⟩
end
def ZcL(a b:Array Keyed)(out:Array Keyed)(na nb:Nat):Prop:=out.toList.Perm (a.toList.drop na++b.toList.drop nb)
section
variable{a b out:Array Keyed}{na nb:Nat}
theorem ex0(a:Array Keyed)(n:Nat):(a.extract 0 n).toList=a.toList.take n:=by
 rw[Array.toList_extract,List.extract_eq_drop_take,List.drop_zero,Nat.sub_zero]
theorem ZcL.done(h:ZcL a b out na nb):(a.extract 0 na++b.extract 0 nb++out.reverse).toList.Perm (a.toList++b.toList):=by
 rw[Array.toList_append,Array.toList_append,ex0,ex0,Array.toList_reverse];refine(List.Perm.append_left _ ((List.reverse_perm _).trans h)).trans ((ZkA ..).trans ?_);rw[List.take_append_drop,List.take_append_drop]
theorem ZcL.first(h:ZcL a b out na nb):(b.extract 0 nb++a.extract 0 na++out.reverse).toList.Perm (a.toList++b.toList):=by
 refine List.Perm.trans ?_ h.done;rw[Array.toList_append,Array.toList_append,Array.toList_append,Array.toList_append];exact List.Perm.append_right _ List.perm_append_comm
theorem ZfR{α : Type}{xs:List α}{i:Nat}{p : α}(h:xs[i]?= some p):xs.drop i=p::xs.drop (i+1):=by
 obtain⟨hi,e⟩:=List.getElem?_eq_some_iff.mp h;rw[<- e];exact List.drop_eq_getElem_cons hi
theorem ZcL.pushA{p:Keyed}(h:ZcL a b out na nb)(h1:1<=na)(hp:a[na-1]?= some p):ZcL a b (out.push p) (na-1) nb:=by
 have hp':a.toList[na-1]?= some p:=by rw[<- hp];simp
 unfold ZcL;rw[Array.toList_push,ZfR hp',Nat.sub_add_cancel h1];refine(List.Perm.append_right _ h).trans ?_;exact List.perm_append_comm
theorem ZcL.pushB{p:Keyed}(h:ZcL a b out na nb)(h1:1<=nb)(hp:b[nb-1]?= some p):ZcL a b (out.push p) na (nb-1):=by
 have hp':b.toList[nb-1]?= some p:=by rw[<- hp];simp
 unfold ZcL;rw[Array.toList_push,ZfR hp',Nat.sub_add_cancel h1];refine(List.Perm.append_right _ h).trans ?_;rw[List.append_assoc];refine List.Perm.append_left _ ?_;exact List.perm_append_comm
theorem Zgd{α : Type}(xs:List α){i j:Nat}(h:i<=j):xs.drop i=(xs.drop i).take (j-i)++xs.drop j:=by
 have:=List.take_append_drop (j-i) (xs.drop i);rw[List.drop_drop,Nat.add_sub_cancel' h] at this;exact this.symm
theorem ZcL.extA{k:Nat}(h:ZcL a b out na nb)(hk:k<=na):ZcL a b (out++(a.extract k na).reverse) k nb:=by
 unfold ZcL;rw[Array.toList_append,Array.toList_reverse,Array.toList_extract,List.extract_eq_drop_take];refine(List.Perm.append h (List.reverse_perm _)).trans ?_;refine List.perm_append_comm.trans ?_;rw[<- List.append_assoc,<- Zgd a.toList hk]
theorem ZcL.extB{k:Nat}(h:ZcL a b out na nb)(hk:k<=nb):ZcL a b (out++(b.extract k nb).reverse) na k:=by
 unfold ZcL;rw[Array.toList_append,Array.toList_reverse,Array.toList_extract,List.extract_eq_drop_take];refine(List.Perm.append h (List.reverse_perm _)).trans ?_;rw[List.append_assoc];refine List.Perm.append_left _ (List.perm_append_comm.trans ?_);rw[<- Zgd b.toList hk]
theorem Zlp{p:Keyed}(h1:1<=a.size)(hp:a[a.size-1]?= some p):ZcL a b #[p] (a.size-1) b.size:=by
 have h0:ZcL a b #[] a.size b.size:=by
  unfold ZcL;rw[List.drop_eq_nil_of_le (by rw[Array.length_toList];exact Nat.le_refl _),List.drop_eq_nil_of_le (by rw[Array.length_toList];exact Nat.le_refl _)];exact List.Perm.refl _
 exact h0.pushA h1 hp
end
structure Pm(st st':SortSt):Prop where
 arr:(arrOf st').toList.Perm (arrOf st).toList
 kind:kindOf st'=kindOf st
 fail:failedOf st'=failedOf st
 pend:pendingOf st'=pendingOf st
theorem Pm.refl(st:SortSt):Pm st st:=⟨List.Perm.refl _,rfl,rfl,rfl⟩
theorem Pm.trans{a b c:SortSt}(x:Pm a b)(y:Pm b c):Pm a c:=⟨y.arr.trans x.arr,y.kind.trans x.kind,y.fail.trans x.fail,y.pend.trans x.pend⟩
theorem Pm.size{a b:SortSt}(x:Pm a b):(arrOf b).size=(arrOf a).size:=by
 have:=x.arr.length_eq;rw[Array.length_toList,Array.length_toList] at this;exact this
theorem Pm.ok{a b:SortSt}{Ok:Keyed->Prop}(x:Pm a b)(h:∀p∈(arrOf a).toList,Ok p):∀p∈(arrOf b).toList,Ok p:=fun p hp=>h p (x.arr.mem_iff.mp hp)
theorem Pm.mirror(st:SortSt)(i j:Nat):Pm st (setArr st (mirror (arrOf st) i j ((j-i) / 2))):=⟨Array.perm_iff_toList_perm.mp (mirror_perm _ _ _ _),rfl,rfl,rfl⟩
theorem Pm.bubble(st:SortSt)(i j:Nat):Pm st (setArr st (bubble (arrOf st) i (i-j))):=⟨Array.perm_iff_toList_perm.mp (bubble_perm _ _ _),rfl,rfl,rfl⟩
def Cov:List (Nat×Nat×Nat)->Nat->Nat->Prop
 | [],lo,hi=>lo=hi
 | x::r,lo,hi=>x.1=lo/\1<=x.2.1/\Cov r (lo+x.2.1) hi
theorem Cov.le:∀{l:List (Nat×Nat×Nat)}{lo hi:Nat},Cov l lo hi->lo+l.length<=hi
 | [],lo,hi,h=>Nat.le_of_eq h
 | x::r,lo,hi,⟨_,h1,h2⟩=>by
  have:=Cov.le h2;rw[List.length_cons];lia
theorem Cov.push:∀{l:List (Nat×Nat×Nat)}{lo hi n p:Nat},Cov l lo hi->1<=n->Cov (l ++ [(hi,n,p)]) lo (hi+n)
 | [],lo,hi,n,p,h,h1=>by
  have e:lo=hi:=h;subst e;exact⟨rfl,h1,rfl⟩
 | x::r,lo,hi,n,p,⟨a,b,c⟩,h1=>⟨a,b,c.push h1⟩
theorem Cov.at:∀{l:List (Nat×Nat×Nat)}{i lo hi sa na p sb nb q:Nat},Cov l lo hi->l[i]?= some (sa,na,p)->l[i+1]?= some (sb,nb,q) ->
  sb=sa+na/\1<=na/\1<=nb/\sb+nb<=hi/\Cov ((l.set i (sa,na+nb,p)).eraseIdx (i+1)) lo hi
 | x::y::r,0,lo,hi,sa,na,p,sb,nb,q,⟨a,b,c1,c2,c3⟩,h1,h2=>by
  have e1:x=(sa,na,p):=by simpa using h1
  have e2:y=(sb,nb,q):=by simpa using h2
  subst e1;subst e2;have a':sa=lo:=a;have c1':sb=lo+na:=c1;have hle:=c3.le;subst a';refine⟨c1',b,c2,?_,rfl,?_,?_⟩
  ·have:sa+na+nb<=hi:=by
    have h3:sa+na+nb+r.length<=hi:=hle;lia
   lia
  ·show 1<=na+nb;have:1<=na:=b;lia
  ·show Cov r (sa+(na+nb)) hi;rw[<- Nat.add_assoc];exact c3
 | x::r,i+1,lo,hi,sa,na,p,sb,nb,q,⟨a,b,c⟩,h1,h2=>by
  obtain⟨k1,k2,k3,k4,k5⟩:=Cov.at (l:=r) (i:=i) c (by simpa using h1) (by simpa using h2);exact⟨k1,k2,k3,k4,a,b,k5⟩
 | [x],0,_,_,_,_,_,_,_,_,_,_,h2=>by simp at h2
 | [],_,_,_,_,_,_,_,_,_,_,h1,_=>by simp at h1
theorem Cov.last:∀{l:List (Nat×Nat×Nat)}{lo hi:Nat}(f:Nat×Nat×Nat->Nat×Nat×Nat)(_:∀x,(f x).1=x.1/\(f x).2.1=x.2.1)(i:Nat),Cov l lo hi->Cov (l.modify i f) lo hi
 | [],lo,hi,f,hf,i,h=>by cases i <;> exact h
 | x::r,lo,hi,f,hf,0,⟨a,b,c⟩=>by
  refine⟨(hf x).1.trans a,by rw[(hf x).2];exact b,?_⟩;rw[(hf x).2];exact c
 | x::r,lo,hi,f,hf,i+1,⟨a,b,c⟩=>⟨a,b,Cov.last f hf i c⟩
theorem splice(base:Nat):∀(m:List Keyed)(n:Nat)(arr:Array Keyed),base+n+m.length<=arr.size ->
  ((m.zipIdx n).foldl (fun(a:Array Keyed)(x:Keyed×Nat)=>match x with|(p,j)=>a.setIfInBounds (base+j) p) arr).toList=arr.toList.take (base+n)++m++arr.toList.drop (base+n+m.length)
 | [],n,arr,_=>by
  show arr.toList=_;rw[List.append_nil,List.length_nil,Nat.add_zero,List.take_append_drop]
 | p::m,n,arr,h=>by
  rw[List.length_cons] at h;rw[List.zipIdx_cons,List.foldl_cons];have hs:(arr.setIfInBounds (base+n) p).size=arr.size:=Array.size_setIfInBounds;rw[splice base m (n+1) _ (by rw[hs];lia),Array.toList_setIfInBounds];have hl:base+n<arr.toList.length:=by rw[Array.length_toList];lia
  rw[<- Nat.add_assoc,List.take_set,List.drop_set_of_lt (by lia)];have e1:(arr.toList.take (base+n+1)).set (base+n) p=arr.toList.take (base+n) ++ [p]:=by
   rw[List.take_succ_eq_append_getElem hl,List.set_append_right _ _ (by rw[List.length_take];lia)];rw[show base+n-(arr.toList.take (base+n)).length=0 by rw[List.length_take];lia];rfl
  rw[e1,List.length_cons,show base+n+1+m.length=base+n+(m.length+1) by lia];simp
section
variable{prog:Program}{w:World}{A:Around}{E:Value->Shared->Prop}{s:Shared}{κ : SortKind}{Ok:Keyed->Prop}{st:SortSt}
structure SB(a₀ : Array Keyed)(κ : SortKind)(hi:Nat)(st:SortSt):Prop where
 arr:(arrOf st).toList.Perm a₀.toList
 kind:kindOf st= κ
 fail:failedOf st=none
 cov:Cov (pendingOf st).toList 0 hi
theorem SB.size{a₀ : Array Keyed}{hi:Nat}(x:SB a₀ κ hi st):(arrOf st).size=a₀.size:=by
 have:=x.arr.length_eq;rw[Array.length_toList,Array.length_toList] at this;exact this
theorem SB.ok{a₀ : Array Keyed}{hi:Nat}(x:SB a₀ κ hi st)(h:∀p∈a₀.toList,Ok p):∀p∈(arrOf st).toList,Ok p:=fun p hp=>h p (x.arr.mem_iff.mp hp)
theorem SB.pm{a₀ : Array Keyed}{hi:Nat}{st':SortSt}(x:SB a₀ κ hi st)(p:Pm st st'):SB a₀ κ hi st':=⟨p.arr.trans x.arr,p.kind.trans x.kind,p.fail.trans x.fail,by rw[p.pend];exact x.cov⟩
theorem Zj0{v:SortSt}{Q:PUnit->SortSt->Prop}(h:Q ⟨⟩ v):wpS (model prog w) A E s (set v:StateT SortSt Sem PUnit) Q st:=by
 unfold wpS;rw[StateT.run_set];exact wpAny_pure ⟨rfl,h⟩
theorem Zg5(base:Nat)(m:List Keyed)(arr:Array Keyed)(h:base+m.length<=arr.size) :
  (m.zipIdx.foldl (fun(a:Array Keyed)(x:Keyed×Nat)=>a.setIfInBounds (base+x.2) x.1) arr).toList=arr.toList.take base++m++arr.toList.drop (base+m.length):=splice base m 0 arr h
theorem Zi9(L:List Keyed){m b e:Nat}(h1:m<=b)(h2:b<=e):L.extract m b++L.extract b e=(L.drop m).take (e-m):=by
 rw[List.extract_eq_drop_take,List.extract_eq_drop_take,show e-m=(b-m)+(e-b) by lia,List.take_add,List.drop_drop,Nat.add_sub_cancel' h1]
theorem Zf5{L r:List Keyed}{m c:Nat}(h:r.Perm ((L.drop m).take c))(hc:r.length=c):(L.take m++r++L.drop (m+r.length)).Perm L:=by
 subst hc;have e:L=L.take m++(L.drop m).take r.length++L.drop (m+r.length):=by
  rw[List.append_assoc,<- List.drop_drop,List.take_append_drop,List.take_append_drop]
 refine List.Perm.trans ?_ (List.Perm.of_eq e.symm);exact List.Perm.append_right _ (List.Perm.append_left _ h)
end
section
variable{prog:Program}{w:World}{A:Around}{E:Value->Shared->Prop}{s:Shared}
theorem ZeW{vs:List Value}{xs:Array Keyed}(h:xs.toList.Perm (pairsOf vs).toList):(xs.map (·.2)).toList.Perm vs:=by
 rw[Array.toList_map];refine(h.map (·.2)).trans (List.Perm.of_eq ?_);rw[pairsOf_toList,show(fun p:Keyed=>p.2)=Prod.snd from rfl,List.map_snd_zip (Nat.le_refl _)]
end
end Srt
namespace L2
open PySem PySem.Spec PyProof.Rows
theorem Zht{us us':List Value}(h:us'.Perm us):∀{vs:List V},Vals vs us->∃vs',vs'.Perm vs/\Vals vs' us':=by
 induction h with
 | nil=>exact fun r=>⟨_,List.Perm.refl _,r⟩
 | cons x _ ih =>
  intro vs r;cases r with
  | cons a t =>
   obtain⟨ws,p,r'⟩:=ih t;exact⟨_::ws,p.cons _,.cons a r'⟩
 | swap x y l =>
  intro vs r;cases r with
  | cons a t =>
   cases t with
   | cons b t=>exact⟨_,List.Perm.swap ..,.cons b (.cons a t)⟩
 | trans _ _ ih1 ih2 =>
  intro vs r;obtain⟨ws,p,r1⟩:=ih2 r;obtain⟨ws',p',r2⟩:=ih1 r1;exact⟨ws',p'.trans p,r2⟩
theorem Zef:∀{vs:List V}{us:List Value},Vals vs us->∀u∈us,∃v∈vs,RelV v u
 | _,_,.cons a t,u,hu=>by
  rcases List.mem_cons.mp hu with rfl|hu
  ·exact⟨_,List.mem_cons_self ..,a⟩
  ·obtain⟨v,hv,r⟩:=Zef t u hu;exact⟨v,List.mem_cons_of_mem _ hv,r⟩
end L2
namespace Sts
open PySem
def nx(m i:Nat):Nat:=(i*5+1) % (m+1)
def itn(m:Nat):Nat->Nat->Nat
 | 0,i=>i
 | n+1,i=>itn m n (nx m i)
theorem Zd7(m:Nat):∀a b i,itn m (a+b) i=itn m b (itn m a i)
 | 0,b,i=>by rw[Nat.zero_add];rfl
 | a+1,b,i=>by rw[Nat.add_right_comm];exact Zd7 m a b (nx m i)
def seen(m:Nat):Nat->Nat->Nat->Nat
 | 0,_,acc=>acc
 | n+1,i,acc=>seen m n (nx m i) (acc ||| (1 <<< i))
theorem ZfH(m:Nat):∀n i acc j,(seen m n i acc).testBit j=true->acc.testBit j=true\/∃k,k<n/\itn m k i=j
 | 0,_,_,_,h=>.inl h
 | n+1,i,acc,j,h=>by
  rcases ZfH m n (nx m i) _ j h with h|⟨k,hk,e⟩
  ·rw[Nat.testBit_or,Bool.or_eq_true] at h;rcases h with h|h
   ·exact .inl h
   ·rw[Nat.testBit_shiftLeft] at h;have h2:i<=j/\(1:Nat).testBit (j-i)=true:=by simpa using h
    have h3:j-i=0:=by
     have:=h2.2;rw[Nat.testBit_one_eq_true_iff_self_eq_zero] at this;exact this
    exact .inr ⟨0,Nat.succ_pos _,by show i=j;lia⟩
  ·exact .inr ⟨k+1,Nat.succ_lt_succ hk,e⟩
def Good(m:Nat):Prop:=m=7\/m=15\/m=31\/m=63\/m=127\/m=255\/m=511\/m=1023\/m=2047\/m=4095
def Zly(m:Nat):Bool:=seen m (m+1) 0 0 == 2 ^ (m+1)-1&&itn m (m+1) 0 == 0
theorem ZhF{m:Nat}(h:Good m):Zly m=true:=by
 rcases h with h|h|h|h|h|h|h|h|h|h <;> subst h <;> decide +kernel
theorem from0{m j:Nat}(h:Good m)(hj:j<=m):∃n,n<=m/\itn m n 0=j:=by
 have hc:=ZhF h;unfold Zly at hc;rw[Bool.and_eq_true] at hc;have h1:=eq_of_beq hc.1;have hb:(seen m (m+1) 0 0).testBit j=true:=by
  rw[h1,Nat.testBit_two_pow_sub_one];exact decide_eq_true (by lia)
 rcases ZfH m (m+1) 0 0 j hb with h|⟨k,hk,e⟩
 ·simp at h
 ·exact⟨k,by lia,e⟩
theorem ZlN{m:Nat}(h:Good m):itn m (m+1) 0=0:=by
 have hc:=ZhF h;unfold Zly at hc;rw[Bool.and_eq_true] at hc;exact eq_of_beq hc.2
theorem reach{m i j:Nat}(h:Good m)(hi:i<=m)(hj:j<=m):∃n,n<=m/\itn m n i=j:=by
 obtain⟨a,ha,ea⟩:=from0 h hi;obtain⟨b,hb,eb⟩:=from0 h hj;by_cases hab:a<=b
 ·refine⟨b-a,by lia,?_⟩;rw[<- ea,<- Zd7,Nat.add_sub_cancel' hab];exact eb
 ·refine⟨m+1-a+b,by lia,?_⟩;rw[<- ea,<- Zd7,show a+(m+1-a+b)=(m+1)+b by lia,Zd7,ZlN h];exact eb
def ZaX(t:SetTable):Nat->SetTable.Probe->SetTable.Probe
 | 0,p=>p
 | n+1,p=>ZaX t n (t.advance p)
theorem Za6(t:SetTable):∀a b p,ZaX t (a+b) p=ZaX t b (ZaX t a p)
 | 0,b,p=>by rw[Nat.zero_add];rfl
 | a+1,b,p=>by rw[Nat.add_right_comm];exact Za6 t a b (t.advance p)
def lp(t:SetTable)(p:SetTable.Probe):SetTable.Probe:={ p with j:=(p.i*5+1+p.perturb / 32) % (t.mask+1),more:=SetTable.runEnd t.mask ((p.i*5+1+p.perturb / 32) % (t.mask+1))-(p.i*5+1+p.perturb / 32) % (t.mask+1),i:=(p.i*5+1+p.perturb / 32) % (t.mask+1),perturb:=p.perturb / 32 }
theorem Zh5(t:SetTable):∀(n:Nat)(p:SetTable.Probe),p.more=n->ZaX t (n+1) p=lp t p
 | 0,p,h=>by
  show t.advance p=lp t p;unfold SetTable.advance;rw[if_neg (by lia)];rfl
 | n+1,p,h=>by
  show ZaX t (n+1) (t.advance p)=lp t p;have e:t.advance p= { p with j:=p.j+1,more:=p.more-1 }:=by
   unfold SetTable.advance;rw[if_pos (by lia)]
  rw[e,Zh5 t n { p with j:=p.j+1,more:=p.more-1 } (by show p.more-1=n;lia)];rfl
def lpn(t:SetTable):Nat->SetTable.Probe->SetTable.Probe
 | 0,p=>p
 | n+1,p=>lpn t n (lp t p)
theorem ZjN(t:SetTable)(p:SetTable.Probe):(lp t p).more<=9:=by
 show SetTable.runEnd t.mask _-_<=9;unfold SetTable.runEnd
 split <;> lia
theorem ZgZ(t:SetTable):∀(k:Nat)(p:SetTable.Probe),p.more<=9->∃n,n<=10*k/\ZaX t n p=lpn t k p
 | 0,p,_=>⟨0,Nat.le_refl _,rfl⟩
 | k+1,p,h=>by
  obtain⟨n,hn,e⟩:=ZgZ t k (lp t p) (ZjN t p);refine⟨p.more+1+n,by lia,?_⟩;rw[Za6,Zh5 t p.more p rfl,e];rfl
theorem ZcN(t:SetTable):∀(k:Nat)(p:SetTable.Probe),lpn t (k+1) p=lp t (lpn t k p)
 | 0,_=>rfl
 | k+1,p=>ZcN t k (lp t p)
theorem Zfg(t:SetTable):∀(k:Nat)(p:SetTable.Probe),(lpn t k p).perturb=p.perturb / 32 ^ k
 | 0,p=>by simp[lpn]
 | k+1,p=>by
  show(lpn t k (lp t p)).perturb=_;rw[Zfg t k (lp t p)];show p.perturb / 32 / 32 ^ k=_;rw[Nat.div_div_eq_div_mul,Nat.pow_succ,Nat.mul_comm]
theorem Zd9(t:SetTable):∀(n:Nat)(p:SetTable.Probe),p.perturb=0->(lpn t n p).i=itn t.mask n p.i/\(1<=n->(lpn t n p).j=(lpn t n p).i)/\(lpn t n p).perturb=0
 | 0,p,h=>⟨rfl,fun z=>absurd z (by decide),h⟩
 | n+1,p,h=>by
  have h0:(lp t p).perturb=0:=by show p.perturb / 32=0;rw[h]
  have hi:(lp t p).i=nx t.mask p.i:=by show(p.i*5+1+p.perturb / 32) % (t.mask+1)=_;rw[h];rfl
  obtain⟨a,b,c⟩:=Zd9 t n (lp t p) h0;refine⟨?_,fun _=>?_,c⟩
  ·show(lpn t n (lp t p)).i=_;rw[a,hi];rfl
  ·cases n with
   | zero=>rfl
   | succ n=>exact b (by lia)
theorem meets{t:SetTable}{p:SetTable.Probe}(hg:Good t.mask)(hm:p.more<=9)(hp:p.perturb<2 ^ 64){j:Nat}(hj:j<=t.mask):∃n,n<10*SetTable.turns t.mask/\(ZaX t n p).j=j:=by
 have h0:(lpn t 13 p).perturb=0:=by
  rw[Zfg];exact Nat.div_eq_of_lt (Nat.lt_of_lt_of_le hp (by decide))
 have hi:(lpn t 13 p).i<=t.mask:=by
  rw[ZcN];exact Nat.le_of_lt_succ (Nat.mod_lt _ (Nat.succ_pos _))
 have hji:(lpn t 13 p).j=(lpn t 13 p).i:=by
  rw[ZcN];rfl
 obtain⟨n,hn,e⟩:=reach hg hi hj;obtain⟨a,b,_⟩:=Zd9 t n (lpn t 13 p) h0;have hl:(lpn t n (lpn t 13 p)).j=j:=by
  cases n with
  | zero=>exact hji.trans e
  | succ n=>rw[b (by lia),a,e]
 have hcat:∀(a b:Nat)(p:SetTable.Probe),lpn t (a+b) p=lpn t b (lpn t a p):=by
  intro a
  induction a with
  | zero=>intro b p;rw[Nat.zero_add];rfl
  | succ a ih=>intro b p;rw[Nat.add_right_comm];exact ih b (lp t p)
 obtain⟨c,hc,ec⟩:=ZgZ t (13+n) p hm;refine⟨c,?_,?_⟩
 ·unfold SetTable.turns;lia
 ·rw[ec,hcat];exact hl
theorem ZbY(t:SetTable)(h:Int):(t.probeStart h).more<=9/\(t.probeStart h).perturb<2 ^ 64/\(t.probeStart h).dummy=none:=by
 refine⟨?_,?_,rfl⟩
 ·show SetTable.runEnd t.mask _-_<=9;unfold SetTable.runEnd
  split <;> lia
 ·show SetTable.bits h<2 ^ 64;unfold SetTable.bits;have h1:=Int.emod_nonneg h (by decide:((2:Int) ^ 64)≠0);have h2:=Int.emod_lt_of_pos h (by decide:(0:Int)<2 ^ 64);lia
theorem ZgL{t:SetTable}(hd:t.dummies=#[])(hf:t.fill<=t.mask):∃j,j<=t.mask/\t.slot j=.empty:=by
 apply Classical.byContradiction;intro hn;have hall:∀j,j<=t.mask->j∈t.place.toList:=fun j hj=>by
  have h1:t.slot j ≠ .empty:=fun z=>hn ⟨j,hj,z⟩;unfold SetTable.slot at h1;dsimp only at h1
  split at h1
  ·rename_i h2
   have h3:=eq_of_beq h2;rw[<- Array.getElem?_toList] at h3;exact List.mem_of_getElem? h3
  ·exfalso;rw[hd] at h1;exact h1 rfl
 have hsub:(List.range (t.mask+1)) ⊆ t.place.toList:=fun j hj=>hall j (by have:=List.mem_range.mp hj;lia);have hlen:=(List.nodup_range (n:=t.mask+1)).length_le_of_subset hsub;rw[List.length_range,Array.length_toList] at hlen;unfold SetTable.fill at hf;lia
theorem ZeL{t:SetTable}{p:SetTable.Probe}(hg:Good t.mask)(hp:p.perturb<2 ^ 64){j:Nat}(hj:j<=t.mask):∃k,k<=13+t.mask/\(lpn t k p).i=j:=by
 have h0:(lpn t 13 p).perturb=0:=by
  rw[Zfg];exact Nat.div_eq_of_lt (Nat.lt_of_lt_of_le hp (by decide))
 have hi:(lpn t 13 p).i<=t.mask:=by
  rw[ZcN];exact Nat.le_of_lt_succ (Nat.mod_lt _ (Nat.succ_pos _))
 obtain⟨n,hn,e⟩:=reach hg hi hj;obtain⟨a,_,_⟩:=Zd9 t n (lpn t 13 p) h0;have hcat:∀(a b:Nat)(p:SetTable.Probe),lpn t (a+b) p=lpn t b (lpn t a p):=by
  intro a
  induction a with
  | zero=>intro b p;rw[Nat.zero_add];rfl
  | succ a ih=>intro b p;rw[Nat.add_right_comm];exact ih b (lp t p)
 exact⟨13+n,by lia,by rw[hcat,a,e]⟩
theorem Zdc{t:SetTable}{owner:Array (Option Nat)}{j:Nat}(ho:owner.getD j (some 0)=none):∀(k fuel:Nat)(p:SetTable.Probe),k<fuel->(lpn t k p).i=j ->
  ∃j',SetTable.layClean.free t.mask owner fuel p.i p.perturb=some j'/\owner.getD j' (some 0)=none
 | k,0,_,h,_=>absurd h (Nat.not_lt_zero _)
 | k,fuel+1,p,hk,e=>by
  unfold SetTable.layClean.free;cases hf:(List.range (SetTable.runEnd t.mask p.i+1-p.i)).find? fun k=>(owner.getD (p.i+k) (some 0)).isNone with
  | some k' =>
   have h1:=List.find?_some hf;exact⟨p.i+k',rfl,Option.isNone_iff_eq_none.mp h1⟩
  | none =>
   cases k with
   | zero =>
    exfalso;have e':p.i=j:=e;have h1:=List.find?_eq_none.mp hf 0 (List.mem_range.mpr (by unfold SetTable.runEnd;split <;> lia))
    rw[Nat.add_zero,e',ho] at h1;exact h1 rfl
   | succ k =>
    exact Zdc ho k fuel (lp t p) (by lia) e
theorem ZbA{β : Type}{g g':Nat->Option β}:∀l:List Nat,(∀k∈l,g' k=g k)->l.filterMap g'=l.filterMap g
 | [],_=>rfl
 | y::l,h=>by
  have ih:=ZbA l fun k hk=>h k (List.mem_cons_of_mem _ hk);have hy:=h y (List.mem_cons_self ..);cases hg:g y with
  | none=>rw[List.filterMap_cons_none (by rw[hy,hg]),List.filterMap_cons_none hg,ih]
  | some z=>rw[List.filterMap_cons_some (by rw[hy,hg]),List.filterMap_cons_some hg,ih]
theorem Zct{β : Type}{g g':Nat->Option β}{j:Nat}{x : β}(h0:g j=none)(h1:g' j=some x)(h2:∀k,k≠j->g' k=g k):∀l:List Nat,l.Nodup->j∈l->(l.filterMap g').Perm (x::l.filterMap g)
 | y::l,hn,hj=>by
  obtain⟨hy,hl⟩:=List.nodup_cons.mp hn;by_cases e:y=j
  ·subst e;rw[List.filterMap_cons_some h1,List.filterMap_cons_none h0];have:l.filterMap g'=l.filterMap g:=ZbA l fun k hk=>h2 k fun z=>hy (z ▸ hk);rw[this]
  ·have hj':j∈l:=(List.mem_cons.mp hj).resolve_left (Ne.symm e);have ih:=Zct h0 h1 h2 l hl hj';cases hg:g y with
   | none =>
    rw[List.filterMap_cons_none (by rw[h2 y e,hg]),List.filterMap_cons_none hg];exact ih
   | some z =>
    rw[List.filterMap_cons_some (by rw[h2 y e,hg]),List.filterMap_cons_some hg];exact(ih.cons z).trans (List.Perm.swap ..)
def Zac(m:Nat)(owner:Array (Option Nat)):List (Nat×Nat):=(List.range (m+1)).filterMap fun j=>(owner.getD j none).map (j,·)
structure Own(m:Nat)(owner:Array (Option Nat))(k:Nat):Prop where
 size:owner.size=m+1
 perm:((Zac m owner).map (·.2)).Perm (List.range k)
theorem Zhk{m:Nat}{owner:Array (Option Nat)}{k:Nat}(h:Own m owner k):(Zac m owner).length=k:=by
 have:=h.perm.length_eq;rw[List.length_map,List.length_range] at this;exact this
theorem Zgc{m:Nat}{owner:Array (Option Nat)}{k:Nat}(h:Own m owner k)(hk:k<=m):∃j,j<=m/\owner.getD j (some 0)=none:=by
 apply Classical.byContradiction;intro hn;have hall:∀j∈List.range (m+1),((owner.getD j none).map (Prod.mk j)).isSome=true:=fun j hj=>by
  have hj':=List.mem_range.mp hj;cases ho:owner.getD j none with
  | some v=>rfl
  | none =>
   exfalso;refine hn ⟨j,by lia,?_⟩;have hs:j<owner.size:=by rw[h.size];exact hj'
   simp only[Array.getD,hs,dif_pos] at ho ⊢;exact ho
 have hl:(Zac m owner).length=m+1:=by
  unfold Zac;have:∀(l:List Nat)(g:Nat->Option (Nat×Nat)),(∀j∈l,(g j).isSome=true)->(l.filterMap g).length=l.length:=by
   intro l g
   induction l with
   | nil=>exact fun _=>rfl
   | cons y l ih =>
    intro hg;obtain⟨z,hz⟩:=Option.isSome_iff_exists.mp (hg y (List.mem_cons_self ..));rw[List.filterMap_cons_some hz,List.length_cons,List.length_cons,ih fun j hj=>hg j (List.mem_cons_of_mem _ hj)]
  rw[this _ _ hall,List.length_range]
 have:=Zhk h;lia
theorem Zhh{m:Nat}{owner:Array (Option Nat)}{k j:Nat}(h:Own m owner k)(hj:owner.getD j (some 0)=none):Own m (owner.setIfInBounds j (some k)) (k+1):=by
 have hs:j<owner.size:=by
  apply Classical.byContradiction;intro hn;rw[Array.getD,dif_neg hn] at hj;cases hj
 refine⟨by rw[Array.size_setIfInBounds];exact h.size,?_⟩;have hp:(Zac m (owner.setIfInBounds j (some k))).Perm ((j,k)::Zac m owner):=by
  refine Zct ?_ ?_ (fun y hy=>?_) _ List.nodup_range (List.mem_range.mpr (by rw[<- h.size];exact hs))
  ·have:owner.getD j none=none:=by
    simp only[Array.getD,hs,dif_pos] at hj ⊢;exact hj
   rw[this];rfl
  ·have:(owner.setIfInBounds j (some k)).getD j none=some k:=by
    simp[Array.getD,hs]
   rw[this];rfl
  ·have:(owner.setIfInBounds j (some k)).getD y none=owner.getD y none:=by
    simp only[Array.getD,Array.size_setIfInBounds]
    split
    ·rename_i hy2
     exact Array.getElem_setIfInBounds_ne (by simpa using hy2) (Ne.symm hy)
    ·rfl
   rw[this]
 refine(hp.map (·.2)).trans ?_;rw[List.map_cons];refine((h.perm.cons k)).trans ?_;rw[List.range_succ];exact List.perm_append_comm (l₁ :=[k]) (l₂ := List.range k)
theorem Zgf{m:Nat}(hg:Good m):∀(hs:List Int)(owner:Array (Option Nat))(k:Nat),Own m owner k->k+hs.length<=m ->
  ∃owner',hs.foldl (fun(acc:Option (Array (Option Nat)×Nat)) h=>do
   let (owner,k) <- acc
   let j <- SetTable.layClean.free m owner (SetTable.turns m) (SetTable.bits h % (m+1)) (SetTable.bits h)
   pure (owner.setIfInBounds j (some k),k+1)) (some (owner,k))=some (owner',k+hs.length)/\Own m owner' (k+hs.length)
 | [],owner,k,h,_=>⟨owner,rfl,h⟩
 | x::hs,owner,k,h,hl=>by
  rw[List.length_cons] at hl;obtain⟨j,hj,ho⟩:=Zgc h (by lia);have t:SetTable:={ mask:=m,place :=#[],dummies :=#[],finger:=0,led:=true,moves:=0,plain:=true };have hb:SetTable.bits x<2 ^ 64:=(ZbY (SetTable.fresh 0 0 true) x).2.1;obtain⟨n,hn,e⟩:=ZeL (t:={ mask:=m,place :=#[],dummies :=#[],finger:=0,led:=true,moves:=0,plain:=true }) (p:={ j:=0,more:=0,i:=SetTable.bits x % (m+1),perturb:=SetTable.bits x,dummy:=none }) hg hb hj;obtain⟨j',hf,ho'⟩:=Zdc ho n (SetTable.turns m) _ (by unfold SetTable.turns;have:n<=13+m:=hn;lia) e;have hf':SetTable.layClean.free m owner (SetTable.turns m) (SetTable.bits x % (m+1)) (SetTable.bits x)=some j':=hf;obtain⟨owner',h1,h2⟩:=Zgf hg hs _ (k+1) (Zhh h ho') (by lia);refine⟨owner',?_,by rw[List.length_cons,show k+(hs.length+1)=k+1+hs.length by lia];exact h2⟩;rw[List.foldl_cons];simp only[Option.bind_eq_bind,Option.bind_some,hf',Option.pure_def];rw[List.length_cons,show k+(hs.length+1)=k+1+hs.length by lia];exact h1
theorem Zhx{m:Nat}(hg:Good m)(fi mo:Nat)(led plain:Bool)(hs:Array Int)(hl:hs.size<=m):∃t order,SetTable.laid m fi mo led plain hs=some (t,order)/\t.mask=m/\t.dummies=#[]/\t.place.size=hs.size/\order.toList.Perm (List.range hs.size)/\t.led=led/\t.plain=plain/\t.moves=mo/\t.place.toList.Pairwise (· < ·):=by
 have h0:Own m (Array.replicate (m+1) none) 0:=by
  refine⟨Array.size_replicate,?_⟩;have:Zac m (Array.replicate (m+1) none)=[]:=by
   unfold Zac;rw[List.filterMap_eq_nil_iff];intro j hj;have:(Array.replicate (m+1) (none:Option Nat)).getD j none=none:=by
    simp[Array.getD]
   rw[this];rfl
  rw[this];exact List.Perm.refl _
 obtain⟨owner,h1,h2⟩:=Zgf hg hs.toList _ 0 h0 (by rw[Array.length_toList];lia);rw[Nat.zero_add,Array.length_toList] at h1 h2;have hc:SetTable.layClean m hs=some owner:=by
  unfold SetTable.layClean;rw[<- Array.foldl_toList];have:=congrArg (Option.map (·.1)) h1;exact this
 refine⟨{ mask:=m,place:=((Zac m owner).map (·.1)).toArray,dummies :=#[],finger:=fi,led:=led,moves:=mo,plain:=plain },((Zac m owner).map (·.2)).toArray,?_,rfl,rfl,?_,?_,rfl,rfl,rfl,?_⟩
 ·unfold SetTable.laid;rw[hc];rfl
 ·show((Zac m owner).map (·.1)).toArray.size=_;rw[List.size_toArray,List.length_map,Zhk h2]
 ·show((Zac m owner).map (·.2)).toArray.toList.Perm _;exact h2.perm
 ·show((Zac m owner).map (·.1)).toArray.toList.Pairwise (· < ·);have hsub:((Zac m owner).map (·.1)).Sublist (List.range (m+1)):=by
   unfold Zac;generalize List.range (m+1)=l
   induction l with
   | nil=>exact List.Sublist.slnil
   | cons y l ih =>
    cases hy:owner.getD y none with
    | none =>
     rw[List.filterMap_cons_none (by rw[hy];rfl)];exact ih.cons _
    | some v =>
     rw[List.filterMap_cons_some (b:=(y,v)) (by rw[hy];rfl)];exact ih.cons_cons y
  exact List.Pairwise.sublist hsub List.pairwise_lt_range
def Ris(xs:Array Nat):Prop:=xs.toList.Pairwise (· < ·)
theorem Zcg{xs:Array Nat}(h:Ris xs){i j:Nat}(hij:i<j)(hj:j<xs.size):xs[i]'(Nat.lt_trans hij hj)<xs[j]:=by
 have:=List.pairwise_iff_getElem.mp h i j (by rw[Array.length_toList];lia) (by rw[Array.length_toList];exact hj) hij
 simpa using this
theorem Zeg{xs:Array Nat}(h:Ris xs)(j:Nat):∀(fuel lo hi:Nat),lo<=hi->hi<=xs.size->hi-lo<=fuel->(∀i (hi':i<xs.size),i<lo->xs[i]<j)->(∀i (hi':i<xs.size),hi<=i -> ¬ xs[i]<j) ->
  ∀r,SetTable.below.go xs j fuel lo hi=r->r<=xs.size/\(∀i (hi':i<xs.size),i<r->xs[i]<j)/\(∀i (hi':i<xs.size),r<=i -> ¬ xs[i]<j)
 | 0,lo,hi,h1,h2,h3,a,b,r,e=>by
  have e':lo=r:=e;subst e';have:lo=hi:=by lia
  subst this;exact⟨h2,a,b⟩
 | fuel+1,lo,hi,h1,h2,h3,a,b,r,e=>by
  unfold SetTable.below.go at e;by_cases hl:lo<hi
  ·rw[if_pos hl] at e;dsimp only at e;have hm:(lo+hi) / 2<xs.size:=by lia
   have hgd:xs.getD ((lo+hi) / 2) j=xs[(lo+hi) / 2]:=by simp[Array.getD,hm]
   rw[hgd] at e;by_cases hx:xs[(lo+hi) / 2]<j
   ·rw[if_pos hx] at e;refine Zeg h j fuel ((lo+hi) / 2+1) hi (by lia) h2 (by lia) (fun i hi' hlt=>?_) b r e;by_cases e2:i=(lo+hi) / 2
    ·subst e2;exact hx
    ·exact Nat.lt_trans (Zcg h (show i<(lo+hi) / 2 by lia) hm) hx
   ·rw[if_neg hx] at e;refine Zeg h j fuel lo ((lo+hi) / 2) (by lia) (by lia) (by lia) a (fun i hi' hle=>?_) r e;by_cases e2:i=(lo+hi) / 2
    ·subst e2;exact hx
    ·have:=Zcg h (show(lo+hi) / 2<i by lia) hi';lia
  ·rw[if_neg hl] at e;subst e;have:lo=hi:=by lia
   subst this;exact⟨h2,a,b⟩
theorem ZaZ{xs:Array Nat}(h:Ris xs)(j:Nat):SetTable.below xs j<=xs.size/\(∀i (hi':i<xs.size),i<SetTable.below xs j->xs[i]<j)/\(∀i (hi':i<xs.size),SetTable.below xs j<=i -> ¬ xs[i]<j) :=
 Zeg h j xs.size 0 xs.size (Nat.zero_le _) (Nat.le_refl _) (by lia) (fun _ _ z=>absurd z (Nat.not_lt_zero _)) (fun i hi' z=>by lia) _ rfl
theorem ZbN{α : Type}(xs:Array α)(p:Nat)(x : α):(SetTable.insertAt xs p x).toList=xs.toList.take p++x::xs.toList.drop p:=by
 unfold SetTable.insertAt;simp[Array.toList_extract,List.extract];rw[List.take_of_length_le];simp
theorem Zcm{xs:Array Nat}(h:Ris xs){j:Nat}(hj:j∉xs.toList):Ris (SetTable.insertAt xs (SetTable.below xs j) j):=by
 obtain⟨h1,h2,h3⟩:=ZaZ h j;unfold Ris;rw[ZbN,List.pairwise_append];refine⟨List.Pairwise.sublist (List.take_sublist _ _) h,?_,?_⟩
 ·rw[List.pairwise_cons];refine⟨fun y hy=>?_,List.Pairwise.sublist (List.drop_sublist _ _) h⟩;obtain⟨i,hi,e⟩:=List.mem_iff_getElem.mp hy;rw[List.length_drop,Array.length_toList] at hi;rw[List.getElem_drop] at e;have:=h3 (SetTable.below xs j+i) (by lia) (by lia);have e2:y=xs[SetTable.below xs j+i]'(by lia):=by rw[<- e];simp
  have hne:y≠j:=fun z=>hj (z ▸ List.mem_of_mem_drop hy);lia
 ·intro a ha b hb;obtain⟨i,hi,e⟩:=List.mem_iff_getElem.mp ha;rw[List.length_take,Array.length_toList] at hi;rw[List.getElem_take] at e;have h4:=h2 i (by lia) (by lia);have e2:a=xs[i]'(by lia):=by rw[<- e];simp
  rcases List.mem_cons.mp hb with rfl|hb
  ·lia
  ·obtain⟨k,hk,ek⟩:=List.mem_iff_getElem.mp hb;rw[List.length_drop,Array.length_toList] at hk;rw[List.getElem_drop] at ek;have h5:=h3 (SetTable.below xs j+k) (by lia) (by lia);have e3:b=xs[SetTable.below xs j+k]'(by lia):=by rw[<- ek];simp
   lia
theorem ZgF{xs:Array Nat}(h:Ris xs){i:Nat}(hi:i<xs.size):SetTable.below xs (xs[i]+1)=i+1:=by
 obtain⟨h1,h2,h3⟩:=ZaZ h (xs[i]+1);rcases Nat.lt_trichotomy (SetTable.below xs (xs[i]+1)) (i+1) with z|z|z
 ·exact absurd (Nat.lt_succ_self xs[i]) (h3 i hi (by lia))
 ·exact z
 ·exfalso;have h4:=h2 (i+1) (by lia) (by lia);have h5:=Zcg h (show i<i+1 by lia) (show i+1<xs.size by lia);lia
theorem Zgr{xs:Array Nat}(h:Ris xs):SetTable.below xs 0=0:=by
 obtain⟨h1,h2,h3⟩:=ZaZ h 0;rcases Nat.eq_zero_or_pos (SetTable.below xs 0) with z|z
 ·exact z
 ·exact absurd (h2 0 (by lia) z) (Nat.not_lt_zero _)
theorem Zbj{t:SetTable}(h:Ris t.place){j:Nat}(he:t.slot j=.empty):j∉t.place.toList:=fun hm=>by
 obtain⟨i,hi,e⟩:=List.mem_iff_getElem.mp hm;rw[Array.length_toList] at hi;have e2:t.place[i]=j:=by rw[<- e];simp
 obtain⟨h1,h2,h3⟩:=ZaZ h j;have hb:SetTable.below t.place j=i:=by
  rcases Nat.lt_trichotomy (SetTable.below t.place j) i with z|z|z
  ·have h4:=Zcg h z hi;have h5:=h3 (SetTable.below t.place j) (by lia) (Nat.le_refl _);lia
  ·exact z
  ·have h4:=h2 i hi z;lia
 unfold SetTable.slot at he;dsimp only at he;rw[hb,Array.getElem?_eq_getElem hi,e2] at he;simp at he
section
variable{prog:Program}{w:World}{K:Type}[DecidableEq K]{knd:KeyKind prog w K}{A:Around}{E:Value->Shared->Prop}{s:Shared}
theorem ZiI{n:Nat}{v:Value}(h:carriedByValue v=true):ofAClassStatement n v=pure false:=by
 cases v <;> first|(unfold ofAClassStatement;rfl)|(cases h)
theorem ZeY{ks:List K}{a:Addr}{Q:Bool->Shared->Prop}(hk:IsTupleKey knd s.heap ks a)(h:Q false s):wpAny (model prog w) A (ofAClassStatement 8 (.ref a)) Q E s:=by
 have hT:=hk.typeIs;obtain⟨o,items,n,ho,hc,hd,hi⟩:=hk;unfold ofAClassStatement;refine wpAny_bind (wpAny_typeOf hT ?_);dsimp only;rw[if_pos (by decide)];refine wpAny_bind (wpAny_pure ?_);rw[if_neg (by decide)];refine wpAny_bind (wpAny_seqItems ho hd ?_);dsimp only;rw[<- Array.forIn_toList];refine wpAny_bind (wpAny_forIn_list _ (fun rest r s'=>r.1=none/\s'=s/\∀v∈rest,carriedByValue v=true) _ ?_ ?_ _ _ ⟨rfl,rfl,hi.byValue⟩)
 ·rintro v rest r s' ⟨hr,rfl,hall⟩;rw[ZiI (hall v List.mem_cons_self)];refine wpAny_bind (wpAny_pure ?_);rw[if_neg (by decide)];exact wpAny_pure ⟨rfl,rfl,fun u hu'=>hall u (List.mem_cons_of_mem _ hu')⟩
 ·rintro⟨r1,r2⟩ s' ⟨hr,rfl,_⟩;obtain rfl:r1=none:=hr;exact wpAny_pure h
theorem ZiB{n:Nat}{v:Value}(h:carriedByValue v=true):∃b,hashByValue n v=pure b:=by
 cases v <;> first|exact⟨_,by unfold hashByValue;rfl⟩|(cases h)
theorem Zio{ks:List K}{a:Addr}{Q:Bool->Shared->Prop}(hk:IsTupleKey knd s.heap ks a)(h:∀b,Q b s):wpAny (model prog w) A (hashByValue 8 (.ref a)) Q E s:=by
 have hT:=hk.typeIs;obtain⟨o,items,n,ho,hc,hd,hi⟩:=hk;unfold hashByValue;refine wpAny_bind (wpAny_specialOf hT F.slot_tuple_hash.lookup ?_);dsimp only;refine wpAny_bind (wpAny_seqItems ho hd ?_);dsimp only[Option.getD_some];rw[<- Array.forIn_toList];refine wpAny_bind (wpAny_forIn_list _ (fun rest r s'=>r.1=none/\s'=s/\∀v∈rest,carriedByValue v=true) _ ?_ ?_ _ _ ⟨rfl,rfl,hi.byValue⟩)
 ·rintro v rest r s' ⟨hr,rfl,hall⟩;obtain⟨b,hb⟩:=ZiB (n:=7) (hall v List.mem_cons_self);rw[hb];refine wpAny_bind (wpAny_pure ?_);cases b with
  | true =>
   rw[if_neg (by decide)];exact wpAny_pure ⟨rfl,rfl,fun u hu'=>hall u (List.mem_cons_of_mem _ hu')⟩
  | false =>
   rw[if_pos (by decide)];exact wpAny_pure (wpAny_pure (h _))
 ·rintro⟨r1,r2⟩ s' ⟨hr,rfl,_⟩;obtain rfl:r1=none:=hr;exact wpAny_pure (h _)
theorem Zko{ks:List K}{a:Addr}(hk:IsTupleKey knd s.heap ks a):∀(stored:List Value){Q:Bool->Shared->Prop},(∀v∈stored,∃ks b,v=.ref b/\IsTupleKey knd s.heap ks b)->Q false s->wpAny (model prog w) A (searchCouldBeSeen (.ref a) stored) Q E s:=by
 intro stored Q hs h;unfold searchCouldBeSeen;refine wpAny_bind (wpAny_forIn_list _ (fun rest r s'=>r.1=none/\s'=s/\∀v∈rest,∃ks b,v=Value.ref b/\IsTupleKey knd s.heap ks b) _ ?_ ?_ _ _ ⟨rfl,rfl,hs⟩)
 ·rintro v rest r s' ⟨hr,rfl,hall⟩;obtain⟨ks',b,rfl,hb⟩:=hall v List.mem_cons_self;have hrest:∀v∈rest,∃ks b,v=Value.ref b/\IsTupleKey knd s'.heap ks b:=fun v hv=>hall v (List.mem_cons_of_mem _ hv);dsimp only
  split
  ·exact wpAny_pure ⟨rfl,rfl,hrest⟩
  ·refine wpAny_bind (wpAny_eqIsQuiet_tuple hk ?_);rw[if_neg (by decide)];refine wpAny_bind (wpAny_eqIsQuiet_tuple hb ?_);rw[if_neg (by decide)];refine wpAny_bind (ZeY hk ?_);rw[if_neg (by decide)];refine wpAny_bind (ZeY hb ?_);rw[if_neg (by decide)];exact wpAny_pure ⟨rfl,rfl,hrest⟩
 ·rintro⟨r1,r2⟩ s' ⟨hr,rfl,_⟩;obtain rfl:r1=none:=hr;exact wpAny_pure h
def EK(knd:KeyKind prog w K):Bool->Heap->Int×Value->Prop
 | true,_,e=>∃i t,e.2=Value.int i t/\e.1=(intKind prog w).hash i
 | false,h,e=>∃ks b,e.2=.ref b/\IsTupleKey knd h ks b
def ZkU(knd:KeyKind prog w K)(b:Bool)(h:Heap)(es:Array (Int×Value)):Prop := ∀e∈es.toList,EK knd b h e
structure Tab(es:Array (Int×Value))(t:SetTable):Prop where
 size:t.place.size=es.size
 none:t.dummies=#[]
 good:Good t.mask
 room:t.fill*5<t.mask*3
 ris:Ris t.place
theorem Tab.fill_eq{es:Array (Int×Value)}{t:SetTable}(h:Tab es t):t.fill=es.size:=by
 unfold SetTable.fill;rw[h.size,h.none];rfl
theorem Tab.fits{es:Array (Int×Value)}{t:SetTable}(h:Tab es t):t.fits es.size=true:=by
 have:=h.room;unfold SetTable.fits;rw[h.size];simp;lia
theorem Ziu{m:Nat}(h:Good m):m % 2=1:=by
 rcases h with h|h|h|h|h|h|h|h|h|h <;> subst h <;> rfl
theorem Zdu(t:SetTable):∀(n:Nat)(p:SetTable.Probe),p.dummy=none->(ZaX t n p).dummy=none
 | 0,_,h=>h
 | n+1,p,h=>Zdu t n (t.advance p) (by
  unfold SetTable.advance
  split
  ·exact h
  ·exact h)
theorem ZhU{t:SetTable}{j i:Nat}(h:t.slot j=.live i):i<t.place.size:=by
 unfold SetTable.slot at h;dsimp only at h
 split at h
 ·rename_i h2
  cases h;have h3:=eq_of_beq h2;exact(Array.getElem?_eq_some_iff.mp h3).1
 ·split at h <;> cases h
end
def Zi5(n:Nat):Bool:=(SetTable.sizeAbove n-1 == 7 || SetTable.sizeAbove n-1 == 15 || SetTable.sizeAbove n-1 == 31 || SetTable.sizeAbove n-1 == 63 || SetTable.sizeAbove n-1 == 127 || SetTable.sizeAbove n-1 == 255 || SetTable.sizeAbove n-1 == 511 || SetTable.sizeAbove n-1 == 1023 || SetTable.sizeAbove n-1 == 2047 || SetTable.sizeAbove n-1 == 4095)&&decide (n<SetTable.sizeAbove n)&&decide (SetTable.sizeAbove n<=4096)
theorem Zin:(List.range 4096).all Zi5=true:=by decide +kernel
theorem above{n:Nat}(h:n<4096):Good (SetTable.sizeAbove n-1)/\n<SetTable.sizeAbove n/\SetTable.sizeAbove n<=4096:=by
 have:=List.all_eq_true.mp Zin n (List.mem_range.mpr h);unfold Zi5 at this;simp only[Bool.and_eq_true,Bool.or_eq_true,beq_iff_eq,decide_eq_true_eq] at this;obtain⟨⟨h1,h2⟩,h3⟩:=this;refine⟨?_,h2,h3⟩;unfold Good
 simpa only[or_assoc] using h1
section
variable{prog:Program}{w:World}{K:Type}[DecidableEq K]{knd:KeyKind prog w K}{A:Around}{E:Value->Shared->Prop}{s:Shared}
theorem stored{h:Heap}{S:Addr}{o:Obj}{es:Array (Int×Value)}{ep:Nat}{t:SetTable}(ho:h.get? S=some o)(hd:o.data=.set es ep t)(es':Array (Int×Value))(t':SetTable) :
  (h.update S (Obj.putSet es' t')).get? S=some { o with data:=.set es' (ep+1) t' }:=by
 have:=Heap.get?_update_self (Obj.putSet es' t') ho (by rw[putSet_of es' t' hd];rfl);rw[putSet_of es' t' hd] at this;exact this
theorem ZjJ{h h':Heap}{S a:Addr}{o:Obj}{es:Array (Int×Value)}{ep:Nat}{t:SetTable}{ks:List K}(ho:h.get? S=some o)(hd:o.data=.set es ep t)(sb:Heap.SameBut S h h')(hk:IsTupleKey knd h ks a):IsTupleKey knd h' ks a:=by
 obtain⟨o2,items,n,h1,h2,h3,h4⟩:=hk;have hne:a≠S:=fun z=>by
  rw[z,ho] at h1;cases h1;rw[hd] at h3;cases h3
 exact⟨o2,items,n,(sb.2 a hne).trans h1,h2,h3,h4⟩
theorem Zc7{es:Array (Int×Value)}{t:SetTable}(hT:Tab es t)(h:Int):∃n,n<10*SetTable.turns t.mask/\t.slot (ZaX t n (t.probeStart h)).j=.empty:=by
 obtain⟨a,b,c⟩:=ZbY t h;have hr:=hT.room;obtain⟨j,hj,he⟩:=ZgL hT.none (by lia);obtain⟨n,hn,e⟩:=meets hT.good a b hj;exact⟨n,hn,by rw[e];exact he⟩
theorem Zfa{m:Nat}(h:Good m):10*SetTable.turns m<100000:=by
 unfold SetTable.turns;rcases h with h|h|h|h|h|h|h|h|h|h <;> subst h <;> decide
theorem ZhO{t:SetTable}(hd:t.dummies=#[])(ha:Nat->Int)(h:Int)(hne:∀i,(ha i == h)=false):∀(n fuel:Nat)(p:SetTable.Probe),p.dummy=none->n<fuel->t.slot (ZaX t n p).j=.empty ->
  ∃j,SetTable.probe.go t ha h fuel p=some (.empty j none)/\t.slot j=.empty
 | n,0,_,_,hn,_=>absurd hn (Nat.not_lt_zero _)
 | n,fuel+1,p,hp,hn,he=>by
  unfold SetTable.probe.go;cases hs:t.slot p.j with
  | empty=>exact⟨p.j,by rw[hp],hs⟩
  | dummy =>
   exfalso;unfold SetTable.slot at hs;dsimp only at hs
   split at hs
   ·cases hs
   ·rw[hd] at hs;exact SetTable.Slot.noConfusion hs
  | live i =>
   dsimp only;cases n with
   | zero =>
    rw[show(ZaX t 0 p).j=p.j from rfl,hs] at he;cases he
   | succ n =>
    rw[if_neg (by rw[hne i];decide)];have hdm:(t.advance p).dummy=none:=by
     unfold SetTable.advance
     split
     ·exact hp
     ·exact hp
    exact ZhO hd ha h hne n fuel (t.advance p) hdm (by lia) he
theorem Zhq{es:Array (Int×Value)}{t:SetTable}(hT:Tab es t)(h:Int):∃j,t.freeSlot h=some (j,false)/\t.slot j=.empty:=by
 obtain⟨n,hn,he⟩:=Zc7 hT h;obtain⟨j,e,hj⟩:=ZhO hT.none (fun _=>h+1) h (fun _=>by simp;lia) n (10*SetTable.turns t.mask) (t.probeStart h) (ZbY t h).2.2 hn he;refine⟨j,?_,hj⟩;unfold SetTable.freeSlot SetTable.probe;rw[e];rfl
theorem ZhG{es:Array (Int×Value)}{t:SetTable}(hT:Tab es t)(h:Int)(x:Value):∃j,t.slot j=.empty/\layNew t es h x=(SetTable.insertAt es (SetTable.below t.place j) (h,x),{ t with place:=SetTable.insertAt t.place (SetTable.below t.place j) j },false,false):=by
 obtain⟨j,e,hj⟩:=Zhq hT h;refine⟨j,hj,?_⟩;have hhas:SetTable.has t.dummies j=false:=by rw[hT.none];rfl
 have hput:t.put j=({ t with place:=SetTable.insertAt t.place (SetTable.below t.place j) j },SetTable.below t.place j):=by
  unfold SetTable.put;rw[hhas];rfl
 have hs1:(SetTable.insertAt es (SetTable.below t.place j) (h,x)).size=es.size+1:=by
  rw[<- Array.length_toList,(SetTable.insertAt_perm es (SetTable.below t.place j) (h,x)).length_eq,Array.length_toList,Array.size_push]
 have hp1:(SetTable.insertAt t.place (SetTable.below t.place j) j).size=es.size+1:=by
  rw[<- Array.length_toList,(SetTable.insertAt_perm t.place (SetTable.below t.place j) j).length_eq,Array.length_toList,Array.size_push,hT.size]
 have hr:=hT.room;have hfe:=hT.fill_eq;have hfits:({ t with place:=SetTable.insertAt t.place (SetTable.below t.place j) j }:SetTable).fits (SetTable.insertAt es (SetTable.below t.place j) (h,x)).size=true:=by
  unfold SetTable.fits SetTable.fill;rw[hs1];dsimp only;rw[hp1,hT.none];simp;lia
 unfold layNew;rw[e];dsimp only;rw[hput];dsimp only;unfold SetTable.orStandIn;rw[hfits];rfl
theorem ZeQ{es:Array (Int×Value)}{t:SetTable}(h1:1<=es.size)(hn:es.size<=1000):∃es' t' g,relayAll t es (SetTable.grown es.size)=(es',t',g)/\es'.toList.Perm es.toList/\Tab es' t'/\t'.led=t.led:=by
 have hgr:SetTable.grown es.size=es.size*4:=by unfold SetTable.grown;rw[if_neg (by lia)]
 rw[hgr];obtain⟨g1,g2,g3⟩:=above (n:=es.size*4) (by lia);obtain⟨t',order,e,m1,m2,m3,m4,m5,m6,m7,m8⟩:=Zhx g1 t.finger (t.movedTo (SetTable.sizeAbove (es.size*4)-1)) t.led t.plain (es.map (·.1)) (by rw[Array.size_map];lia);rw[Array.size_map] at m3 m4;have e2:t.relaid (es.map (·.1)) (es.size*4)=some (t',order):=e;have hperm:(order.filterMap (es[·]?)).toList.Perm es.toList:=by
  rw[Array.toList_filterMap];exact(m4.filterMap _).trans (List.Perm.of_eq (filterMap_getElem?_range es))
 have hsz:(order.filterMap (es[·]?)).size=es.size:=by
  rw[<- Array.length_toList,hperm.length_eq,Array.length_toList]
 have hfill:t'.fill=es.size:=by
  unfold SetTable.fill;rw[m2,m3];rfl
 have hfits:t'.fits (order.filterMap (es[·]?)).size=true:=by
  unfold SetTable.fits;rw[hsz,m3,hfill,m1];simp;lia
 have hcov:coversAll order es.size=true:=by
  unfold coversAll;exact List.isPerm_iff.mpr m4
 refine⟨order.filterMap (es[·]?),t',false,?_,hperm,⟨by rw[m3,hsz],m2,by rw[m1];exact g1,?_,m8⟩,m5⟩
 ·unfold relayAll;rw[e2];dsimp only;rw[hcov,hfits];rfl
 ·rw[hfill,m1];lia
theorem Zdw{h:Heap}{es:Array (Int×Value)}(hE:ZkU knd true h es):ElemsOf (intKind prog w) es.toList:=fun e he=>by
 obtain⟨i,t,e1,e2⟩:=hE e he;refine⟨⟨i,?_,e2⟩,?_⟩
 ·rw[e1];exact intKind_is _ _ _ _
 ·rw[e1];rfl
end
end Sts
namespace Sts
open PySem PyProof.Rows
section
variable{prog:Program}{w:World}{K:Type}[DecidableEq K]{knd:KeyKind prog w K}{A:Around}{E:Value->Shared->Prop}{s:Shared}
abbrev Zft(w:World):Bool := !w.params.followText "set-order"
abbrev Zai(w:World):Obj:={ cls:=.type "set",dict:=none,data:=.set #[] 0 (.fresh 0 0 (Zft w)) }
theorem ZiH(a:Value){Q₁ : Value->Shared->Prop}(h:Q₁ (.ref s.heap.objs.size) { s with heap:=s.heap.push (Zai w) }) :
  codeAny (model prog w) A (.call (.builtin "set.__new__") ⟨[.type "set",a],[]⟩) (wants Q₁ E) s:=by
 refine codeAny_of_tree ?_;change wpAny _ A.in1 (do checkBuiltinCall "set.__new__" ⟨[.type "set",a],[]⟩;again (.builtin "set.__new__" ⟨[.type "set",a],[]⟩)) _ _ s;refine wpAny_bind (wpAny_of_eq (PySem.F.newCall_set_1 a) (wpAny_pure ⟨plainId_quiet PySem.F.plain_set_new _,codeAny_builtin PySem.F.entry_set_new ?_⟩));rw[Around.under_plainId PySem.F.plain_set_new _];unfold Builtin.«set.__new__» Builtin.Frozenset.newClass;have isSelf:=sub_set_self;obtain⟨hp,g,d,tk,os⟩:=s;dsimp only
 wp_walk
 refine wpAny_askSetting (wpAny_pure ?_);dsimp only;simp only[newObj];exact wpAny_bind (wpAny_alloc (wpAny_pure (wpAny_pure h)))
end
theorem Zaq:Slot "set_iterator" "__next__" "set_iterator.__next__" :=
 .of (owner := "set_iterator") (n := "__next__") (by rw[typeLookup_type,builtinLookup_eq_fast];kernel_rfl) (by decide +kernel) (by decide +kernel) (by decide +kernel) (by first|exact .inl (by decide +kernel)|exact .inr (by decide +kernel)) (by rw[isSubtype_type];kernel_rfl)
theorem ZbP:entryFor table "set_iterator.__next__" = some Builtin.«set_iterator.__next__» := entryFor_of_tree (by kernel_rfl)
theorem ZfQ:Manifest.owners.lookup (String.ofList ['r','o','t','a','r','e','t','i','_','t','e','s'].reverse)=some Manifest.sig_set_iterator:=by kernel_rfl
theorem ZcA(a:Value):argsOk "set_iterator.__next__" ⟨[a],[]⟩:=by
 unfold argsOk;rw[signature?_of (id := "set_iterator.__next__") (n:=['_','_','t','x','e','n','_','_']) (o:=['r','o','t','a','r','e','t','i','_','t','e','s']) (by kernel_rfl) ZfQ];kernel_rfl
theorem ZcB:Slot "set_iterator" "__iter__" "set_iterator.__iter__" :=
 .of (owner := "set_iterator") (n := "__iter__") (by rw[typeLookup_type,builtinLookup_eq_fast];kernel_rfl) (by decide +kernel) (by decide +kernel) (by decide +kernel) (by first|exact .inl (by decide +kernel)|exact .inr (by decide +kernel)) (by rw[isSubtype_type];kernel_rfl)
theorem ZdY:entryFor table "set_iterator.__iter__" = some Builtin.«dict_keyiterator.__iter__» := entryFor_alias (id' := "dict_keyiterator.__iter__") (by kernel_rfl) rfl (by decide +kernel) (by kernel_rfl)
theorem ZeK(a:Value):argsOk "set_iterator.__iter__" ⟨[a],[]⟩:=by
 unfold argsOk;rw[signature?_of (id := "set_iterator.__iter__") (n:=['_','_','r','e','t','i','_','_']) (o:=['r','o','t','a','r','e','t','i','_','t','e','s']) (by kernel_rfl) ZfQ];kernel_rfl
theorem Ze7:entryFor table "set.__iter__" = some Builtin.«frozenset.__iter__» := entryFor_alias (id' := "frozenset.__iter__") (by kernel_rfl) rfl (by decide +kernel) (by kernel_rfl)
theorem Zcl{α : Type}:∀{l:List α}{i:Nat}(hi:i<l.length),(l[i]::l.eraseIdx i).Perm l
 | x::l,0,_=>List.Perm.refl _
 | x::l,i+1,hi=>by
  have hi':i<l.length:=by simpa using hi
  show(l[i]::x::l.eraseIdx i).Perm (x::l);exact(List.Perm.swap ..).trans ((Zcl hi').cons x)
section
variable{prog:Program}{w:World}{A:Around}{E:Value->Shared->Prop}{s:Shared}
theorem wp_choose{src:Source}{n:Nat}{Q:Nat->Shared->Prop}(hn:n≠0)(h:∀i d,i<n->Q i { s with drawn:=d }):wpAny (model prog w) A (choose src n) Q E s:=fun _ _ _=>⟨hn,h _ _ (Nat.mod_lt _ (Nat.pos_of_ne_zero hn))⟩
theorem Zhf{α : Type}:∀(n:Nat)(xs:List α)(s:Shared){Q:List α -> Shared->Prop},xs.length=n->(∀ys d,ys.Perm xs->Q ys { s with drawn:=d })->wpAny (model prog w) A (drawOrder n xs) Q E s
 | 0,xs,s,Q,hl,h=>by
  obtain rfl:=List.eq_nil_of_length_eq_zero hl;unfold drawOrder;exact wpAny_pure (h [] s.drawn (List.Perm.refl _))
 | n+1,[],s,Q,hl,h=>by simp at hl
 | n+1,x::xs,s,Q,hl,h=>by
  unfold drawOrder;refine wpAny_bind (wp_choose (by simp) fun i d hi=>?_);rw[List.getElem?_eq_getElem hi];dsimp only;refine wpAny_bind (Zhf n ((x::xs).eraseIdx i) { s with drawn:=d } (by rw[List.length_eraseIdx_of_lt hi,hl];rfl) fun ys d' hp=>wpAny_pure (h _ d' ?_));refine(hp.cons _).trans ?_;exact(Zcl hi)
theorem Zeq{α : Type}(next:Nat->Nat):∀(n k:Nat)(left:List α)(out:Array α),left.length=n->(pickOrder.go next n k left out).toList.Perm (out.toList++left)
 | 0,k,left,out,hl=>by
  obtain rfl:=List.eq_nil_of_length_eq_zero hl;unfold pickOrder.go;rw[List.append_nil]
 | n+1,k,left,out,hl=>by
  unfold pickOrder.go;have hi:next k % left.length<left.length:=Nat.mod_lt _ (by lia)
  rw[List.getElem?_eq_getElem hi];dsimp only;refine(Zeq next n (k+1) _ _ (by rw[List.length_eraseIdx_of_lt hi,hl];rfl)).trans ?_
  rw[Array.toList_push,List.append_assoc];exact List.Perm.append_left _ (Zcl hi)
structure SIt(w:World)(h:Heap)(I S T:Addr)(es:Array (Int×Value))(ep:Nat)(t:SetTable)(ys:List Value)(i:Nat):Prop where
  set:∃o,h.get? S=some o/\o.data=.set es ep t
  tab:t.fits es.size=true
  at_:∃first o,h.get? I=some o/\o.cls=.type "set_iterator" /\ o.data=.fields #[first,.int i 0,.ref S,.int es.size 0,.int ep 0] /\
    ((∃sl:Nat,first=Value.int sl 0/\w.params.followText "set-order" = true/\ys=(pickOrder (w.params.setOrder S ep) es).toList.map (·.2)) \/
     (∃sl:Nat,first=Value.int sl 0/\w.params.followText "set-order" = false/\(!t.plain&&decide (es.size > 1))=false/\t.led=true/\SetTable.below t.place sl=i/\Ris t.place/\ys=es.toList.map (·.2)) \/
     (∃places n oT,first=Value.ref T/\h.get? T=some oT/\oT.data=.seq places n/\places.toList.length=es.size/\∀(k:Nat)(v:Value),places[k]?= some v->∃(j:Nat)(tk:Tok),v=Value.int (j:Nat) tk/\(es[j]?).map (·.2)=ys[k]? /\ j<es.size))
theorem SIt.ty{h:Heap}{I S T:Addr}{es:Array (Int×Value)}{ep:Nat}{t:SetTable}{ys:List Value}{i:Nat}{s:Shared}(x:SIt w s.heap I S T es ep t ys i):s.TypeIs (.ref I) "set_iterator" := let ⟨_,o,ho,hc,_⟩:=x.at_;⟨o,ho,hc⟩
theorem Ze9{S:Addr}{o:Obj}{es:Array (Int×Value)}{ep:Nat}{t:SetTable}{Q:Array (Int×Value)->Shared->Prop}(ho:s.heap.get? S=some o)(hd:o.data=.set es ep t)(hf:t.fits es.size=true)(h:Q es s):wpAny (model prog w) A (setEntries S) Q E s:=by
 unfold setEntries;exact wpAny_bind (wpAny_setState_of ho hd hf (wpAny_pure h))
theorem byText{Q:Bool->Shared->Prop}(h:Q (w.params.followText "set-order") s):wpAny (model prog w) A setsByText Q E s:=by
 unfold setsByText;exact wpAny_bind (wpAny_askSetting (wpAny_pure h))
theorem fld{I:Addr}{o:Obj}{fs:Array Value}{k:Nat}{v:Value}{Q:Unit->Shared->Prop}(ho:s.heap.get? I=some o)(hd:o.data=.fields fs)(hk:k<fs.size)(hc:o.cls=.type "set_iterator")
  (h:∀h' o',h'.get? I=some o'->o'.cls=.type "set_iterator" -> o'.data=.fields (fs.setIfInBounds k v)->Heap.SameBut I s.heap h'->Q () { s with heap:=h' }):wpAny (model prog w) A (setField (.ref I) k v) Q E s :=
 wpAny_setField ho hd hk (h _ _ (Heap.get?_update_self _ ho (Obj.isFreed_of_fields (Obj.data_mapFields hd _))) ((Obj.cls_mapFields ..).trans hc) (Obj.data_mapFields hd _) (Heap.SameBut.update ..))
theorem ZeA{S:Addr}{o:Obj}{es:Array (Int×Value)}{ep:Nat}{t:SetTable}{sl i:Nat}{Q:Option (Value×Nat)->Shared->Prop}(hT:w.params.followText "set-order" = true) (ho:s.heap.get? S=some o) (hd:o.data=.set es ep t) (hf:t.fits es.size=true)
  (h:Q (((pickOrder (w.params.setOrder S ep) es)[i]?).map fun e=>(e.2,sl)) s):wpAny (model prog w) A (setNext S sl i ep) Q E s:=by
 unfold setNext;refine wpAny_bind (wpAny_setState_of ho hd hf ?_);dsimp only;refine wpAny_bind (byText ?_);rw[hT,if_pos rfl,if_neg (by simp)];unfold setWalk;refine wpAny_bind (wpAny_bind (wpAny_setState_of ho hd hf ?_));dsimp only;refine wpAny_bind (byText ?_);rw[hT,if_pos rfl];exact wpAny_bind (wpAny_askSetting (wpAny_pure (wpAny_pure h)))
theorem ZeO{S:Addr}{o:Obj}{es:Array (Int×Value)}{ep:Nat}{t:SetTable}{sl i:Nat}{Q:Option (Value×Nat)->Shared->Prop}(hT:w.params.followText "set-order" = false) (hp:(!t.plain&&decide (es.size > 1))=false) (hl:t.led=true) (ho:s.heap.get? S=some o) (hd:o.data=.set es ep t) (hf:t.fits es.size=true)
  (h:Q (match es[SetTable.below t.place sl]?,t.place[SetTable.below t.place sl]? with|some (_,x),some j=>some (x,j+1)|_,_=>none) s):wpAny (model prog w) A (setNext S sl i ep) Q E s:=by
 unfold setNext;refine wpAny_bind (wpAny_setState_of ho hd hf ?_);dsimp only;refine wpAny_bind (byText ?_);rw[hT,if_neg (by decide)];change wpAny _ _ (if(!t.plain&&decide (es.size > 1))=true then _ else _) _ _ _
 rw[hp,if_neg (by decide)];refine wpAny_bind ?_;change wpAny _ _ (if(!t.led && !es.isEmpty)=true then _ else _) _ _ _
 rw[hl,if_neg (by simp)];exact wpAny_pure (wpAny_pure h)
set_option maxHeartbeats 1000000 in
theorem ZjD{I S T:Addr}{es:Array (Int×Value)}{ep:Nat}{t:SetTable}{ys:List Value}{i:Nat}{Q:Option Value->Shared->Prop}(x:SIt w s.heap I S T es ep t ys i)(hy:ys.length=es.size)(hi:i<ys.length)
  (q:∀h',SIt w h' I S T es ep t ys (i+1)->Heap.SameBut I s.heap h'->Q (some ys[i]) { s with heap:=h' }):wpAny (model prog w) A (pyNext (.ref I)) Q E s:=by
 have hT:=x.ty (h:=s.heap);obtain⟨⟨oS,hoS,hdS⟩,hf,first,o,ho,hc,hd,hmode⟩:=id x
 have hIS:S≠I:=fun z=>by
  rw[z,ho] at hoS;cases hoS;rw[hd] at hdS;cases hdS
 unfold pyNext;refine wpAny_bind (wpAny_attempt (wpAny_callSpecial?_slot (name:=Str.ofString "__next__") hT Zaq (wpAny_call_entry Zaq hT ZbP ?_ (ZcA _))));unfold Builtin.«set_iterator.__next__»;refine wpAny_bind (wpAny_pure (wpAny_bind (wpAny_fieldsOf ho hd ?_)));dsimp only;refine wpAny_bind (Ze9 hoS hdS hf ?_);rw[if_neg (by simp)];have key:∀nx:Nat,(∀h',(∃o',h'.get? I=some o'/\o'.cls=.type "set_iterator" /\ o'.data=.fields #[Value.int nx 0,.int (i+1:Nat) 0,.ref S,.int es.size 0,.int ep 0])->Heap.SameBut I s.heap h'->SIt w h' I S T es ep t ys (i+1)) ->
   wpAny (model prog w) A.in1 (do
     setField (Value.ref I) 0 (rawInt nx)
     setField (Value.ref I) 1 (rawInt ((i:Int)+1))
     ret ys[i]) (fun fin s'=>∃v,fin=Fin.done (Flow.ret v)/\wpAny (model prog w) A (pure (some v)) Q E s')
    (fun e s'=>wpAny (model prog w) A (do
     let __do_lift <- isInstance e (Value.type "StopIteration")
     if __do_lift=true then pure none else throw e) Q E s') s:=fun nx hS=>by
  refine wpAny_bind (fld ho hd (by simp) hc fun h1 o1 ho1 hc1 hd1 sb1=>wpAny_bind (fld (s:={ s with heap:=h1 }) ho1 hd1 (by simp) hc1 fun h2 o2 ho2 hc2 hd2 sb2=>wpAny_pure ⟨_,rfl,wpAny_pure (q h2 (hS h2 ⟨o2,ho2,hc2,?_⟩ (sb1.trans sb2)) (sb1.trans sb2))⟩));rw[hd2];rfl
 have hSk:∀h',Heap.SameBut I s.heap h'->∃o,h'.get? S=some o/\o.data=.set es ep t:=fun h' sb=>⟨oS,(sb.2 S hIS).trans hoS,hdS⟩;have hplace:t.place.size=es.size:=by
  unfold SetTable.fits at hf;rw[Bool.and_eq_true] at hf;exact eq_of_beq hf.1
 rcases hmode with⟨sl,rfl,hT1,e⟩|⟨sl,rfl,hT1,hpl,hld,hbl,hr,e⟩|⟨places,n,oT,rfl,hoT,hdT,hpn,hpv⟩
 ·dsimp only;rw[Int.toNat_natCast,Int.toNat_natCast,Int.toNat_natCast];refine wpAny_bind (ZeA hT1 hoS hdS hf ?_);have hpi:((pickOrder (w.params.setOrder S ep) es)[i]?).map (fun e=>(e.2,sl))=some (ys[i],sl):=by
   have h1:((pickOrder (w.params.setOrder S ep) es).toList.map (·.2))[i]?= some ys[i]:=by rw[<- e];exact List.getElem?_eq_getElem hi
   rw[List.getElem?_map,Array.getElem?_toList] at h1;obtain⟨x,hx,hx2⟩:=Option.map_eq_some_iff.mp h1;rw[hx];show some (x.2,sl)=_;rw[hx2]
  rw[hpi];dsimp only;exact key sl fun h' ⟨o',a1,a2,a3⟩ sb=>⟨hSk h' sb,hf,_,o',a1,a2,a3,.inl ⟨sl,rfl,hT1,e⟩⟩
 ·dsimp only;rw[Int.toNat_natCast,Int.toNat_natCast,Int.toNat_natCast];refine wpAny_bind (ZeO hT1 hpl hld hoS hdS hf ?_);have hie:i<es.size:=by lia
  rw[hbl,Array.getElem?_eq_getElem hie,Array.getElem?_eq_getElem (show i<t.place.size by lia)];have hyi:ys[i]=es[i].2:=by
   have h1:ys[i]?= some es[i].2:=by rw[e,List.getElem?_map,Array.getElem?_toList,Array.getElem?_eq_getElem hie];rfl
   rw[List.getElem?_eq_getElem hi] at h1;exact Option.some.inj h1
  dsimp only;rw[<- hyi];exact key (t.place[i]+1) fun h' ⟨o',a1,a2,a3⟩ sb=>⟨hSk h' sb,hf,_,o',a1,a2,a3,.inr (.inl ⟨_,rfl,hT1,hpl,hld,ZgF hr _,hr,e⟩)⟩
 ·dsimp only;refine wpAny_bind (wpAny_seqItems hoT hdT ?_);dsimp only;rw[Int.toNat_natCast,Int.toNat_natCast];have hpi:i<places.size:=by rw[<- Array.length_toList];lia
  obtain⟨j,tk,hv,hj,hjs⟩:=hpv i _ (Array.getElem?_eq_getElem hpi);rw[Array.getElem?_eq_getElem hpi,hv];dsimp only;rw[Int.toNat_natCast];rw[List.getElem?_eq_getElem hi,Array.getElem?_eq_getElem hjs] at hj;have hyi:es[j].2=ys[i]:=Option.some.inj hj;unfold setNextDrawn;refine wpAny_bind (wpAny_bind (wpAny_setState_of hoS hdS hf ?_));dsimp only;rw[if_neg (by simp),Array.getElem?_eq_getElem hjs];refine wpAny_pure ?_;rw[show(es.toList.get ⟨j,hjs⟩).snd=ys[i] from hyi];have hTI:T≠I:=fun z=>by
   rw[z,ho] at hoT;cases hoT;rw[hd] at hdT;cases hdT
  refine wpAny_bind (fld ho hd (by simp) hc fun h2 o2 ho2 hc2 hd2 sb2=>wpAny_pure ⟨_,rfl,wpAny_pure (q h2 ⟨hSk h2 sb2,hf,_,o2,ho2,hc2,?_,.inr (.inr ⟨places,n,oT,rfl,(sb2.2 T hTI).trans hoT,hdT,hpn,hpv⟩)⟩ sb2)⟩);rw[hd2];rfl
theorem Zfh{I:Addr}{o:Obj}{fs:Array Value}{Q:Option Value->Shared->Prop}(hh:A.handled=none)(ho:s.heap.get? I=some o)(hd:o.data=.fields fs)(hk:2<fs.size)(hc:o.cls=.type "set_iterator") (q:∀h',Heap.ExtBut I s.heap h'->Q none { s with heap:=h' }) :
  wpAny (model prog w) A.in1 (do
    setField (Value.ref I) 2 Value.none
    let __do_lift <- newExc (Value.type "StopIteration") []
    raiseNew __do_lift) (fun fin s'=>∃v,fin=Fin.done (Flow.ret v)/\wpAny (model prog w) A (pure (some v)) Q E s')
   (fun e s'=>wpAny (model prog w) A (do
    let __do_lift <- isInstance e (Value.type "StopIteration")
    if __do_lift=true then pure none else throw e) Q E s') s:=by
 refine wpAny_bind (fld ho hd hk hc fun h1 o1 ho1 hc1 hd1 sb1=>?_);refine wpAny_bind ?_;simp only[newExc,newTuple];refine wpAny_bind (wpAny_newObj_type (wpAny_bind (m:=firstArgMember _ _) (wpAny_of_eq (a:=Value.none) (by first|rfl|(simp only[firstArgMember];rfl)) (wpAny_newObj_type ?_ (by size_fits)))) (by size_fits))
 simp only[raiseNew];refine wpAny_bind (wpAny_handled ?_);rw[show A.in1.handled=none from hh];refine wpAny_bind (wpAny_pure (wpAny_throw ?_));refine wpAny_bind (wpAny_isInstance (T := "StopIteration") (b:=true) (v:=.ref _) (by exact⟨_,Heap.get?_push_size _ rfl,rfl⟩) isSubtype_stop ?_);exact wpAny_pure (q _ ((sb1.extBut.push _).push _))
set_option maxHeartbeats 1000000 in
theorem ZkQ{I S T:Addr}{es:Array (Int×Value)}{ep:Nat}{t:SetTable}{ys:List Value}{Q:Option Value->Shared->Prop}(hh:A.handled=none)(x:SIt w s.heap I S T es ep t ys ys.length)(hy:ys.length=es.size)
  (q:∀h',Heap.ExtBut I s.heap h'->Q none { s with heap:=h' }):wpAny (model prog w) A (pyNext (.ref I)) Q E s:=by
 have hT:=x.ty (h:=s.heap);obtain⟨⟨oS,hoS,hdS⟩,hf,first,o,ho,hc,hd,hmode⟩:=id x
 unfold pyNext;refine wpAny_bind (wpAny_attempt (wpAny_callSpecial?_slot (name:=Str.ofString "__next__") hT Zaq (wpAny_call_entry Zaq hT ZbP ?_ (ZcA _))));unfold Builtin.«set_iterator.__next__»;refine wpAny_bind (wpAny_pure (wpAny_bind (wpAny_fieldsOf ho hd ?_)));dsimp only;refine wpAny_bind (Ze9 hoS hdS hf ?_);rw[if_neg (by simp)];rcases hmode with⟨sl,rfl,hT1,e⟩|⟨sl,rfl,hT1,hpl,hld,hbl,hr,e⟩|⟨places,n,oT,rfl,hoT,hdT,hpn,hpv⟩
 ·dsimp only;rw[Int.toNat_natCast,Int.toNat_natCast,Int.toNat_natCast];refine wpAny_bind (ZeA hT1 hoS hdS hf ?_);have hpi:(pickOrder (w.params.setOrder S ep) es)[ys.length]?= none:=by
   have h1:ys.length=(pickOrder (w.params.setOrder S ep) es).size:=by
    rw[e,List.length_map,Array.length_toList]
   exact Array.getElem?_eq_none (Nat.le_of_eq h1.symm)
  rw[hpi];exact Zfh hh ho hd (by simp) hc q
 ·dsimp only;rw[Int.toNat_natCast,Int.toNat_natCast,Int.toNat_natCast];refine wpAny_bind (ZeO hT1 hpl hld hoS hdS hf ?_);rw[hbl,Array.getElem?_eq_none (show es.size<=ys.length by lia)];exact Zfh hh ho hd (by simp) hc q
 ·dsimp only;refine wpAny_bind (wpAny_seqItems hoT hdT ?_);dsimp only;rw[Int.toNat_natCast];have hpi:places.size<=ys.length:=by rw[<- Array.length_toList];lia
  rw[Array.getElem?_eq_none hpi];dsimp only;refine wpAny_bind (fld ho hd (by simp) hc fun h1 o1 ho1 hc1 hd1 sb1=>Zfh (s:={ s with heap:=h1 }) hh ho1 hd1 (by simp) hc1 fun h' eb=>q h' fun b o2 hb e2=>eb b o2 hb ((sb1.2 b hb).trans e2))
theorem Ziv{I S T:Addr}{es:Array (Int×Value)}{ep:Nat}{t:SetTable}{ys:List Value}(hh:A.handled=none)(hIS:S≠I)(hTI:T≠I)(hy:ys.length=es.size):Walks prog w A I [I,S,T] [I] ys.length (fun i v=>ys[i]?= some v) (fun i h=>SIt w h I S T es ep t ys i) where
 sub:=fun b hb=>List.mem_cons.mpr (.inl (List.mem_singleton.mp hb))
 frame:=fun i h h' x hk=>by
  obtain⟨⟨oS,hoS,hdS⟩,hf,first,o,ho,hc,hd,hmode⟩:=x
  refine⟨⟨oS,hk S (by simp) oS hoS,hdS⟩,hf,first,o,hk I (by simp) o ho,hc,hd,?_⟩
  rcases hmode with h1|h1|⟨places,n,oT,e,hoT,r⟩
  ·exact .inl h1
  ·exact .inr (.inl h1)
  ·exact .inr (.inr ⟨places,n,oT,e,hk T (by simp) oT hoT,r⟩)
 item:=fun i s Q E hi x hQ=>ZjD x hy hi fun h' x' sb=>hQ _ h' s.toks (List.getElem?_eq_getElem hi) x' fun b o hb e=>(sb.2 b (fun z=>hb (List.mem_singleton.mpr z))).trans e
 done:=fun s Q E x hQ=>ZkQ hh x hy fun h' eb=>hQ h' s.toks fun b o hb e=>eb b o (fun z=>hb (List.mem_singleton.mpr z)) e
 self:=fun i s Q E x hQ=>by
  have hT:=x.ty (h:=s.heap);refine wpAny_pyIter_slot hT ZcB (wpAny_call_entry ZcB hT ZdY ?_ (ZeK _));change wpAny _ _ (ret (.ref I)) _ _ s;exact wpAny_pure ⟨_,rfl,"set_iterator",_,hT,Zaq.lookup,hQ⟩
end
section
variable{prog:Program}{w:World}{K:Type}[DecidableEq K]{knd:KeyKind prog w K}{A:Around}{E:Value->Shared->Prop}{s:Shared}
theorem ZjF{S:Addr}{o:Obj}{es:Array (Int×Value)}{ep:Nat}{t:SetTable}{Q:Bool->Shared->Prop}(ho:s.heap.get? S=some o)(hd:o.data=.set es ep t)(hf:t.fits es.size=true)(h:Q (!w.params.followText "set-order" && (!t.plain&&decide (es.size > 1))) s):wpAny (model prog w) A (setDrawn S) Q E s:=by
 unfold setDrawn;refine wpAny_bind (wpAny_setState_of ho hd hf ?_);dsimp only;exact wpAny_bind (byText (wpAny_pure h))
end
end Sts
namespace Sts
open PySem PyProof.Rows PySem.W
section
variable{prog:Program}{w:World}{K:Type}[DecidableEq K]{knd:KeyKind prog w K}{A:Around}{E:Value->Shared->Prop}{s:Shared}
theorem Zix{r:Addr}{Q:Bool->Shared->Prop}(hT:s.TypeIs (.ref r) "set") (h:Q false s):wpAny (model prog w) A (Builtin.List.listLengthHint (.ref r)) Q E s:=by
 unfold Builtin.List.listLengthHint;refine wpAny_bind (wpAny_specialOf hT PySem.F.slot_set_len.lookup ?_);generalize hid:("set.__len__" : String)=id0
 wp_delta
 rw[show splitId id0=some ("set","__len__") from by subst hid;decide +kernel];subst hid;refine wpAny_bind (wpAny_isInstance (T := "set") (b:=true) hT (by rw[isSubtype_type];kernel_rfl) (wpAny_ite_split (fun hab=>absurd hab (by decide)) (fun _=>wpAny_ite_split (fun _=>?_) (fun hab=>absurd (by decide +kernel) hab))));exact wpAny_bind (wpAny_typeOf hT (wpAny_pure h))
end
end Sts
namespace L2
open PySem PySem.Spec PyProof.Rows PySem.W
section
variable{X:Cx}{e:Expr}{te:TE}{p p' pos pos':Pos}
theorem Inv.draws{pins:List (Addr×Obj)}{σ : St}{H:Hp}{s:Shared}{d:Drawn}(I:Inv X pins σ H s):Inv X pins σ H { s with drawn:=d } :=
 I.step (g':=s.gens) (d':=d) (t':=s.toks) (ch:=[]) (fun _ z=>nomatch z) (fun _ _ _ _ _ e _=>e) (fun _ o _ _ _ e _=>⟨o.slots,e⟩) (fun _ _ _ _ n=>n) (fun _ o _ e=>⟨o,e⟩) (fun _ _ h=>h) (fun _ _ _ h=>h) (fun _ ps h=>⟨#[],by simpa using h⟩) (fun _ h=>h) I.hok I.bare
theorem Zi8:bootBuiltins "set" = some (.type "set"):=by decide +kernel
theorem ZgE:bootBuiltins "sorted" = some (.builtin "sorted"):=by decide +kernel
theorem Zf4{ns:List Int}:∀zs:List V,(∀z∈zs,z∈ns.map V.int)->∃ms:List Int,zs=ms.map V.int/\∀m∈ms,m∈ns
 | [],_=>⟨[],rfl,fun _ h=>nomatch h⟩
 | z::zs,h=>by
  obtain⟨m,hm,rfl⟩:=List.mem_map.mp (h z (List.mem_cons_self ..));obtain⟨ms,rfl,hms⟩:=Zf4 zs fun x hx=>h x (List.mem_cons_of_mem _ hx);refine⟨m::ms,rfl,fun x hx=>?_⟩;rcases List.mem_cons.mp hx with rfl|hx
  ·exact hm
  ·exact hms x hx
end
end L2
namespace Srd
open PySem PyProof.Rows Srt
structure Swo(lt:Keyed->Keyed->Bool):Prop where
 asym:∀x y,lt x y=true->lt y x=false
 neg:∀x y z,lt x y=false->lt y z=false->lt x z=false
def Le(lt:Keyed->Keyed->Bool)(x y:Keyed):Prop:=lt y x=false
section
variable{lt:Keyed->Keyed->Bool}(o:Swo lt){x y z:Keyed}
include o
theorem Swo.le_trans(h1:Le lt x y)(h2:Le lt y z):Le lt x z:=o.neg z y x h2 h1
theorem Swo.le_of(h:lt x y=true):Le lt x y:=o.asym x y h
theorem Swo.lt_le(h1:lt x y=true)(h2:Le lt y z):lt x z=true:=by
 cases h:lt x z with
 | true=>rfl
 | false=>rw[o.neg x z y h h2] at h1;cases h1
theorem Swo.le_lt(h1:Le lt x y)(h2:lt y z=true):lt x z=true:=by
 cases h:lt x z with
 | true=>rfl
 | false=>rw[o.neg y x z h1 h] at h2;cases h2
theorem Swo.le_refl(x:Keyed):Le lt x x:=by
 show lt x x=false;cases h:lt x x with
 | false=>rfl
 | true=>have:=o.asym x x h;rw[h] at this;exact this
end
def Zgq(prog:Program)(w:World)(A:Around)(s:Shared)(κ : SortKind)(Ok:Keyed->Prop)(lt:Keyed->Keyed->Bool):Prop :=
 ∀x y,Ok x->Ok y->∀E:Value->Shared->Prop,wpAny (model prog w) A (keyLt' κ x.1 y.1) (fun b s'=>s'=s/\b=lt x y) E s
def Up(lt:Keyed->Keyed->Bool)(arr:Array Keyed)(i j:Nat):Prop := ∀x y p q,i<=x->x<y->y<j->arr[x]?= some p->arr[y]?= some q->Le lt p q
def bv(lt:Keyed->Keyed->Bool)(l:Bool)(key p:Keyed):Bool:=if l=true then lt p key else !lt key p
def BV(lt:Keyed->Keyed->Bool)(l:Bool)(key:Keyed)(a:Array Keyed)(base i:Nat):Bool:=match a[base+i]? with|some p=>bv lt l key p|none=>false
theorem BV.anti{lt:Keyed->Keyed->Bool}(o:Swo lt){l:Bool}{key:Keyed}{a:Array Keyed}{base n:Nat}(hb:base+n<=a.size)(hu:Up lt a base (base+n)){i j:Nat}(hij:i<=j)(hj:j<n)(h:BV lt l key a base j=true):BV lt l key a base i=true:=by
 rcases Nat.eq_or_lt_of_le hij with rfl|hlt
 ·exact h
 have ei:a[base+i]?= some a[base+i]:=getElem?_pos a _ (by lia);have ej:a[base+j]?= some a[base+j]:=getElem?_pos a _ (by lia);have hle:=hu (base+i) (base+j) _ _ (by lia) (by lia) (by lia) ei ej;unfold BV at h ⊢;rw[ej] at h;rw[ei];dsimp only at h ⊢;unfold bv at h ⊢;cases l with
 | true =>
  rw[if_pos rfl] at h ⊢;exact o.le_lt hle h
 | false =>
  rw[if_neg (by decide)] at h ⊢;have h1:lt key a[base+j]=false:=by simpa using h
  have:lt key a[base+i]=false:=o.le_trans (lt:=lt) hle h1;rw[this];rfl
section
variable{prog:Program}{w:World}{A:Around}{E:Value->Shared->Prop}{s:Shared}{κ : SortKind}{Ok:Keyed->Prop}{st:SortSt}{lt:Keyed->Keyed->Bool}
theorem Zc1{x y:Keyed}{Q:Option Bool->SortSt->Prop}(hc:Zgq prog w A s κ Ok lt)(hk:kindOf st= κ)(hx:Ok x)(hy:Ok y)(h:Q (some (lt x y)) st):wpS (model prog w) A E s (lt' x y) Q st:=by
 rw[lt'_eq];refine wpS_bind (wpS_get ?_);rw[hk];refine wpS_bind (wpS_lift (wpAny_attempt (wpAny_mono (hc x y hx hy _) (fun b s' e=>⟨e.1,?_⟩) fun _ _ z=>z)));rw[e.2];exact wpS_pure h
theorem Zmq{l:Bool}{key:Keyed}{a:Array Keyed}{base n i:Nat}{Q:Option Bool->SortSt->Prop}(hc:Zgq prog w A s κ Ok lt)(hk:kindOf st= κ)(hkey:Ok key)(ha:∀p∈a.toList,Ok p)(hb:base+n<=a.size)(hi:i<n)(h:Q (some (BV lt l key a base i)) st) :
  wpS (model prog w) A E s (elem' a (base+i) >>= fun x=>if l=true then lt' x key else(lt' key x >>= fun r=>pure (Option.map (fun z=>!z) r))) Q st:=by
 refine wpS_bind (ZQ (by lia) fun p hp e=>?_);unfold BV at h;rw[e] at h;dsimp only at h;unfold bv at h;cases l with
 | true =>
  rw[if_pos rfl] at h ⊢;exact Zc1 hc hk (ha p hp) hkey h
 | false =>
  rw[if_neg Bool.false_ne_true] at h ⊢;exact wpS_bind (Zc1 hc hk hkey (ha p hp) (wpS_pure h))
set_option maxHeartbeats 1000000 in
theorem Zar{l:Bool}{key:Keyed}{a:Array Keyed}{base n hint:Nat}{Q:Option Nat->SortSt->Prop}(o:Swo lt)(hc:Zgq prog w A s κ Ok lt)(hk:kindOf st= κ)(hkey:Ok key)(ha:∀p∈a.toList,Ok p)(hb:base+n<=a.size)(hh:hint<n)(hu:Up lt a base (base+n))
  (h:∀k,k<=n->(∀i,i<k->BV lt l key a base i=true)->(∀i,k<=i->i<n->BV lt l key a base i=false)->Q (some k) st):wpS (model prog w) A E s (ZfA l key a base n hint) Q st:=by
 have up:∀{i j},i<=j->j<n->BV lt l key a base j=true->BV lt l key a base i=true:=fun hij hj h=>BV.anti o hb hu hij hj h;have dn:∀{i j},i<=j->j<n->BV lt l key a base i=false->BV lt l key a base j=false:=fun{i j} hij hj h=>by
  cases e:BV lt l key a base j with
  | false=>rfl
  | true=>rw[up hij hj e] at h;cases h
 generalize hBB:BV lt l key a base=BB at up dn h;have bey:∀{st':SortSt}{i:Nat}{Q':Option Bool->SortSt->Prop},st'=st->i<n->Q' (some (BB i)) st'->wpS (model prog w) A E s (elem' a (base+i) >>= fun x=>if l=true then lt' x key else(lt' key x >>= fun r=>pure (Option.map (fun z=>!z) r))) Q' st':=fun{st' i Q'} e hi hq=>by
  subst e;exact Zmq hc hk hkey ha hb hi (by rw[hBB];exact hq)
 refine wpS_bind (bey rfl hh ?_);cases hright:BB hint with
 | true =>
  dsimp only;rw[if_pos rfl];refine wpS_bind (wpS_mono (wpS_forRange (I:=fun x c st'=>st'=st/\∃lo of,c=(none,lo,of)/\lo<n-hint/\lo<of/\BB (hint+lo)=true/\x+1<=of) (Q:=fun c st'=>st'=st/\∃lo of,c=(none,lo,of)/\lo<n-hint/\lo<of/\BB (hint+lo)=true/\(n-hint<=of\/BB (hint+of)=false)) ?_ ?_ ⟨rfl,0,1,rfl,by lia,by lia,hright,by lia⟩) ?_)
  ·rintro i c st' _ _ ⟨rfl,lo,of,rfl,h1,h2,h3,h4⟩;dsimp only;by_cases hlt:of>=n-hint
   ·rw[if_pos hlt];exact wpS_pure ⟨rfl,lo,of,rfl,h1,h2,h3,.inl hlt⟩
   ·rw[if_neg hlt];refine wpS_bind (bey rfl (by lia) ?_);cases hb2:BB (hint+of) with
    | true=>exact wpS_pure ⟨rfl,_,_,rfl,by lia,by lia,hb2,by lia⟩
    | false=>exact wpS_pure ⟨rfl,lo,of,rfl,h1,h2,h3,.inr hb2⟩
  ·rintro c st' ⟨rfl,lo,of,rfl,h1,h2,h3,h4⟩;exact⟨rfl,lo,of,rfl,h1,h2,h3,.inl (by lia)⟩
  ·rintro c st'' ⟨rfl,lo,of,rfl,h1,h2,h3,h4⟩;dsimp only;have g1:hint+lo+1<=hint+min of (n-hint):=by lia
   have g2:hint+min of (n-hint)<=n:=by lia
   have g3:∀i,i<hint+lo+1->BB i=true:=fun i hi=>up (show i<=hint+lo by lia) (by lia) h3;have g4:∀i,hint+min of (n-hint)<=i->i<n->BB i=false:=fun i hi hin=>by
    rcases h4 with h4|h4
    ·lia
    ·exact dn (show hint+of<=i by lia) hin h4
   generalize hint+lo+1=lo1 at g1 g3;generalize hint+min of (n-hint)=hi1 at g1 g2 g4;refine wpS_bind (wpS_mono (wpS_forRange (I:=fun x c st'=>st'=st''/\∃lo hi,c=(none,lo,hi)/\lo<=hi/\hi<=n/\(∀i,i<lo->BB i=true)/\(∀i,hi<=i->i<n->BB i=false)/\hi-lo+x<=n) (Q:=fun c st'=>st'=st''/\∃lo hi,c=(none,lo,hi)/\lo=hi/\hi<=n/\(∀i,i<lo->BB i=true)/\(∀i,hi<=i->i<n->BB i=false)) ?_ ?_ ⟨rfl,lo1,hi1,rfl,g1,g2,g3,g4,by lia⟩) ?_)
   ·rintro i c st' _ _ ⟨rfl,lo,hi,rfl,h1,h2,h3,h4,h5⟩;dsimp only;by_cases hlt:lo>=hi
    ·rw[if_pos hlt];exact wpS_pure ⟨rfl,lo,hi,rfl,by lia,h2,h3,h4⟩
    ·rw[if_neg hlt];refine wpS_bind (bey rfl (by lia) ?_);cases hb2:BB (lo+(hi-lo) / 2) with
     | true=>exact wpS_pure ⟨rfl,_,_,rfl,by lia,by lia,fun i hi'=>up (show i<=lo+(hi-lo) / 2 by lia) (by lia) hb2,h4,by lia⟩
     | false=>exact wpS_pure ⟨rfl,_,_,rfl,by lia,by lia,h3,fun i hi' hin=>dn hi' hin hb2,by lia⟩
   ·rintro c st' ⟨rfl,lo,hi,rfl,h1,h2,h3,h4,h5⟩;exact⟨rfl,lo,hi,rfl,by lia,h2,h3,h4⟩
   ·rintro c st' ⟨rfl,lo,hi,rfl,h1,h2,h3,h4⟩;exact wpS_pure (h hi h2 (fun i hi'=>h3 i (by lia)) h4)
 | false =>
  dsimp only;rw[if_neg Bool.false_ne_true];refine wpS_bind (wpS_mono (wpS_forRange (I:=fun x c st'=>st'=st/\∃lo of,c=(none,lo,of)/\lo<hint+1/\lo<of/\BB (hint-lo)=false/\x+1<=of) (Q:=fun c st'=>st'=st/\∃lo of,c=(none,lo,of)/\lo<hint+1/\lo<of/\BB (hint-lo)=false/\(hint+1<=of\/BB (hint-of)=true)) ?_ ?_ ⟨rfl,0,1,rfl,by lia,by lia,hright,by lia⟩) ?_)
  ·rintro i c st' _ _ ⟨rfl,lo,of,rfl,h1,h2,h3,h4⟩;dsimp only;by_cases hlt:of>=hint+1
   ·rw[if_pos hlt];exact wpS_pure ⟨rfl,lo,of,rfl,h1,h2,h3,.inl hlt⟩
   ·rw[if_neg hlt];refine wpS_bind (bey rfl (by lia) ?_);cases hb2:BB (hint-of) with
    | true=>exact wpS_pure ⟨rfl,lo,of,rfl,h1,h2,h3,.inr hb2⟩
    | false=>exact wpS_pure ⟨rfl,_,_,rfl,by lia,by lia,hb2,by lia⟩
  ·rintro c st' ⟨rfl,lo,of,rfl,h1,h2,h3,h4⟩;exact⟨rfl,lo,of,rfl,h1,h2,h3,.inl (by lia)⟩
  ·rintro c st'' ⟨rfl,lo,of,rfl,h1,h2,h3,h4⟩;dsimp only;have g1:hint+1-min of (hint+1)<=hint-lo:=by lia
   have g2:hint-lo<=n:=by lia
   have g3:∀i,i<hint+1-min of (hint+1)->BB i=true:=fun i hi=>by
    rcases h4 with h4|h4
    ·lia
    ·exact up (show i<=hint-of by lia) (by lia) h4
   have g4:∀i,hint-lo<=i->i<n->BB i=false:=fun i hi hin=>dn hi hin h3;generalize hint+1-min of (hint+1)=lo1 at g1 g3;generalize hint-lo=hi1 at g1 g2 g4;refine wpS_bind (wpS_mono (wpS_forRange (I:=fun x c st'=>st'=st''/\∃lo hi,c=(none,lo,hi)/\lo<=hi/\hi<=n/\(∀i,i<lo->BB i=true)/\(∀i,hi<=i->i<n->BB i=false)/\hi-lo+x<=n) (Q:=fun c st'=>st'=st''/\∃lo hi,c=(none,lo,hi)/\lo=hi/\hi<=n/\(∀i,i<lo->BB i=true)/\(∀i,hi<=i->i<n->BB i=false)) ?_ ?_ ⟨rfl,lo1,hi1,rfl,g1,g2,g3,g4,by lia⟩) ?_)
   ·rintro i c st' _ _ ⟨rfl,lo,hi,rfl,h1,h2,h3,h4,h5⟩;dsimp only;by_cases hlt:lo>=hi
    ·rw[if_pos hlt];exact wpS_pure ⟨rfl,lo,hi,rfl,by lia,h2,h3,h4⟩
    ·rw[if_neg hlt];refine wpS_bind (bey rfl (by lia) ?_);cases hb2:BB (lo+(hi-lo) / 2) with
     | true=>exact wpS_pure ⟨rfl,_,_,rfl,by lia,by lia,fun i hi'=>up (show i<=lo+(hi-lo) / 2 by lia) (by lia) hb2,h4,by lia⟩
     | false=>exact wpS_pure ⟨rfl,_,_,rfl,by lia,by lia,h3,fun i hi' hin=>dn hi' hin hb2,by lia⟩
   ·rintro c st' ⟨rfl,lo,hi,rfl,h1,h2,h3,h4,h5⟩;exact⟨rfl,lo,hi,rfl,by lia,h2,h3,h4⟩
   ·rintro c st' ⟨rfl,lo,hi,rfl,h1,h2,h3,h4⟩;exact wpS_pure (h hi h2 (fun i hi'=>h3 i (by lia)) h4)
end
section
variable{lt:Keyed->Keyed->Bool}{a b out:Array Keyed}{ia ib k:Nat}{p q:Keyed}
abbrev So(lt:Keyed->Keyed->Bool)(l:List Keyed):Prop:=l.Pairwise (Le lt)
theorem ZiR(h:a[ia]?= some p):a.toList[ia]?= some p:=by rw[<- h];simp
theorem Z8{i:Nat}{x y:Keyed}(h1:a[i]?= some x)(h2:a[i]?= some y):x=y:=by
 rw[h1] at h2;exact Option.some.inj h2
theorem Zb6(h:a[ia]?= some p):a.toList.drop ia=p::a.toList.drop (ia+1):=by
 obtain⟨hi,e⟩:=List.getElem?_eq_some_iff.mp (ZiR h);rw[List.drop_eq_getElem_cons hi,e]
theorem So.drop{l:List Keyed}(h:So lt l)(n:Nat):So lt (l.drop n):=List.Pairwise.sublist (List.drop_sublist n l) h
theorem So.head(h:So lt a.toList)(hp:a[ia]?= some p):∀y∈a.toList.drop (ia+1),Le lt p y:=by
 have:=h.drop ia;rw[Zb6 hp] at this;exact(List.pairwise_cons.mp this).1
theorem ZeS(o:Swo lt)(h:So lt a.toList)(hp:a[ia]?= some p){x:Keyed}(hx:Le lt x p):∀y∈a.toList.drop ia,Le lt x y:=fun y hy=>by
 rw[Zb6 hp] at hy;rcases List.mem_cons.mp hy with rfl|hy
 ·exact hx
 ·exact o.le_trans hx (h.head hp y hy)
theorem Zfn(h:So lt a.toList)(i j:Nat):Up lt a i j:=fun x y p q _ hxy _ ex ey=>by
 obtain⟨hx,rfl⟩:=List.getElem?_eq_some_iff.mp (ZiR ex);obtain⟨hy,rfl⟩:=List.getElem?_eq_some_iff.mp (ZiR ey);exact(List.pairwise_iff_getElem.mp h) x y hx hy hxy
theorem Zk1{n:Nat}(h:Up lt a 0 n)(hn:a.size<=n):So lt a.toList:=by
 refine List.pairwise_iff_getElem.mpr fun i j hi hj hij=>?_;have hi':i<a.size:=by rw[<- Array.length_toList];exact hi
 have hj':j<a.size:=by rw[<- Array.length_toList];exact hj
 exact h i j _ _ (Nat.zero_le _) hij (by lia) (by rw[<- Array.getElem?_toList];exact List.getElem?_eq_getElem hi) (by rw[<- Array.getElem?_toList];exact List.getElem?_eq_getElem hj)
theorem Zdj{l:List Keyed}{n:Nat}{y:Keyed}(h:y∈l.drop n):∃i,l[n+i]?= some y:=by
 obtain⟨i,hi⟩:=List.mem_iff_getElem?.mp h;rw[List.getElem?_drop] at hi;exact⟨i,hi⟩
theorem Zlb(F:∀i,k<=i->i<a.size-ia->BV lt false p a ia i=false)(o:Swo lt):∀y∈a.toList.drop (ia+k),Le lt p y:=fun y hy=>by
 obtain⟨i,hi⟩:=Zdj hy;obtain⟨hl,_⟩:=List.getElem?_eq_some_iff.mp hi;rw[Array.length_toList] at hl;have h1:=F (k+i) (by lia) (by lia);unfold BV at h1;rw[show ia+(k+i)=ia+k+i by lia,<- Array.getElem?_toList,hi] at h1;have h2:(!lt p y)=false:=h1;exact o.le_of (by simpa using h2)
theorem ZkG(F:∀i,i<k->BV lt false p a ia i=true):∀x∈(a.toList.drop ia).take k,Le lt x p:=fun x hx=>by
 obtain⟨i,hi⟩:=List.mem_iff_getElem?.mp hx;have hik:i<k:=by
  have:=(List.getElem?_eq_some_iff.mp hi).1;rw[List.length_take] at this;lia
 rw[List.getElem?_take_of_lt hik,List.getElem?_drop] at hi;have h1:=F i hik;unfold BV at h1;rw[<- Array.getElem?_toList,hi] at h1;have h2:(!lt p x)=true:=h1;show lt p x=false
 simpa using h2
theorem ZlZ(F:∀i,k<=i->i<b.size-ib->BV lt true q b ib i=false):∀y∈b.toList.drop (ib+k),Le lt q y:=fun y hy=>by
 obtain⟨i,hi⟩:=Zdj hy;obtain⟨hl,_⟩:=List.getElem?_eq_some_iff.mp hi;rw[Array.length_toList] at hl;have h1:=F (k+i) (by lia) (by lia);unfold BV at h1;rw[show ib+(k+i)=ib+k+i by lia,<- Array.getElem?_toList,hi] at h1;exact h1
theorem Zli(F:∀i,i<k->BV lt true q b ib i=true)(o:Swo lt):∀x∈(b.toList.drop ib).take k,Le lt x q:=fun x hx=>by
 obtain⟨i,hi⟩:=List.mem_iff_getElem?.mp hx;have hik:i<k:=by
  have:=(List.getElem?_eq_some_iff.mp hi).1;rw[List.length_take] at this;lia
 rw[List.getElem?_take_of_lt hik,List.getElem?_drop] at hi;have h1:=F i hik;unfold BV at h1;rw[<- Array.getElem?_toList,hi] at h1;exact o.le_of h1
structure OutL(lt:Keyed->Keyed->Bool)(a b out:Array Keyed)(ia ib:Nat):Prop where
 perm:Out a b out ia ib
 sort:So lt out.toList
 lowA:∀x∈out.toList,∀y∈a.toList.drop ia,Le lt x y
 lowB:∀x∈out.toList,∀y∈b.toList.drop ib,Le lt x y
structure Rs(lt:Keyed->Keyed->Bool)(a b r:Array Keyed):Prop where
 perm:r.toList.Perm (a.toList++b.toList)
 sort:So lt r.toList
theorem mem_push{x:Keyed}(h:x∈(out.push p).toList):x∈out.toList\/x=p:=by
 rw[Array.toList_push] at h;rcases List.mem_append.mp h with h|h
 ·exact .inl h
 ·exact .inr (List.mem_singleton.mp h)
theorem ZhE(h:So lt out.toList)(hp:∀x∈out.toList,Le lt x p):So lt (out.push p).toList:=by
 rw[Array.toList_push];refine List.pairwise_append.mpr ⟨h,List.pairwise_singleton _ _,fun x hx y hy=>?_⟩;rw[List.mem_singleton.mp hy];exact hp x hx
theorem Zep{l:List Keyed}{i j:Nat}(h:i<=j){y:Keyed}(hy:y∈l.drop j):y∈l.drop i:=by
 rw[show j=i+(j-i) by lia,<- List.drop_drop] at hy;exact List.mem_of_mem_drop hy
theorem OutL.pushA(h:OutL lt a b out ia ib)(SA:So lt a.toList)(hp:a[ia]?= some p)(hb:∀y∈b.toList.drop ib,Le lt p y):OutL lt a b (out.push p) (ia+1) ib:=by
 have hm:p∈a.toList.drop ia:=by rw[Zb6 hp];exact List.mem_cons_self ..
 refine⟨h.perm.pushA hp,ZhE h.sort fun x hx=>h.lowA x hx p hm,fun x hx y hy=>?_,fun x hx y hy=>?_⟩
 ·rcases mem_push hx with hx|rfl
  ·exact h.lowA x hx y (Zep (by lia) hy)
  ·exact SA.head hp y hy
 ·rcases mem_push hx with hx|rfl
  ·exact h.lowB x hx y hy
  ·exact hb y hy
theorem OutL.pushB(h:OutL lt a b out ia ib)(SB:So lt b.toList)(hp:b[ib]?= some p)(ha:∀y∈a.toList.drop ia,Le lt p y):OutL lt a b (out.push p) ia (ib+1):=by
 have hm:p∈b.toList.drop ib:=by rw[Zb6 hp];exact List.mem_cons_self ..
 refine⟨h.perm.pushB hp,ZhE h.sort fun x hx=>h.lowB x hx p hm,fun x hx y hy=>?_,fun x hx y hy=>?_⟩
 ·rcases mem_push hx with hx|rfl
  ·exact h.lowA x hx y hy
  ·exact ha y hy
 ·rcases mem_push hx with hx|rfl
  ·exact h.lowB x hx y (Zep (by lia) hy)
  ·exact SB.head hp y hy
theorem ZcM(a:Array Keyed)(i k:Nat):(a.extract i (i+k)).toList=(a.toList.drop i).take k:=by
 rw[Array.toList_extract,List.extract_eq_drop_take,show i+k-i=k by lia]
theorem Zcf(a:Array Keyed)(i:Nat):(a.extract i a.size).toList=a.toList.drop i:=by
 rw[Array.toList_extract,List.extract_eq_drop_take];apply List.take_of_length_le;rw[List.length_drop,Array.length_toList];exact Nat.le_refl _
theorem Zcx{l:List Keyed}{i k:Nat}(h:So lt l){x y:Keyed}(hx:x∈(l.drop i).take k)(hy:y∈l.drop (i+k)):Le lt x y:=by
 have h1:=h.drop i;rw[<- List.take_append_drop k (l.drop i),List.drop_drop] at h1;exact(List.pairwise_append.mp h1).2.2 x hx y hy
theorem OutL.extA(h:OutL lt a b out ia ib)(SA:So lt a.toList)(hk:ia+k<=a.size)(hb:∀x∈(a.toList.drop ia).take k,∀y∈b.toList.drop ib,Le lt x y):OutL lt a b (out++a.extract ia (ia+k)) (ia+k) ib:=by
 have hm:∀x,x∈(out++a.extract ia (ia+k)).toList->x∈out.toList\/x∈(a.toList.drop ia).take k:=fun x hx=>by
  rw[Array.toList_append,ZcM] at hx;exact List.mem_append.mp hx
 refine⟨h.perm.extA hk,?_,fun x hx y hy=>?_,fun x hx y hy=>?_⟩
 ·rw[Array.toList_append,ZcM];exact List.pairwise_append.mpr ⟨h.sort,List.Pairwise.sublist (List.take_sublist _ _) (SA.drop ia),fun x hx y hy=>h.lowA x hx y (List.mem_of_mem_take hy)⟩
 ·rcases hm x hx with hx|hx
  ·exact h.lowA x hx y (Zep (by lia) hy)
  ·exact Zcx SA hx hy
 ·rcases hm x hx with hx|hx
  ·exact h.lowB x hx y hy
  ·exact hb x hx y hy
theorem OutL.extB(h:OutL lt a b out ia ib)(SB:So lt b.toList)(hk:ib+k<=b.size)(ha:∀x∈(b.toList.drop ib).take k,∀y∈a.toList.drop ia,Le lt x y):OutL lt a b (out++b.extract ib (ib+k)) ia (ib+k):=by
 have hm:∀x,x∈(out++b.extract ib (ib+k)).toList->x∈out.toList\/x∈(b.toList.drop ib).take k:=fun x hx=>by
  rw[Array.toList_append,ZcM] at hx;exact List.mem_append.mp hx
 refine⟨h.perm.extB hk,?_,fun x hx y hy=>?_,fun x hx y hy=>?_⟩
 ·rw[Array.toList_append,ZcM];exact List.pairwise_append.mpr ⟨h.sort,List.Pairwise.sublist (List.take_sublist _ _) (SB.drop ib),fun x hx y hy=>h.lowB x hx y (List.mem_of_mem_take hy)⟩
 ·rcases hm x hx with hx|hx
  ·exact h.lowA x hx y hy
  ·exact ha x hx y hy
 ·rcases hm x hx with hx|hx
  ·exact h.lowB x hx y (Zep (by lia) hy)
  ·exact Zcx SB hx hy
theorem OutL.doneB(h:OutL lt a b out ia ib)(SA:So lt a.toList)(e:(ib == b.size)=true):Rs lt a b (out++a.extract ia a.size++b.extract ib b.size):=by
 refine⟨h.perm.done,?_⟩;have e':b.toList.drop ib=[]:=List.drop_eq_nil_of_le (by rw[Array.length_toList,eq_of_beq e];exact Nat.le_refl _);rw[Array.toList_append,Array.toList_append,Zcf,Zcf,e',List.append_nil];exact List.pairwise_append.mpr ⟨h.sort,SA.drop ia,fun x hx y hy=>h.lowA x hx y hy⟩
theorem OutL.doneA(h:OutL lt a b out ia ib)(SB:So lt b.toList)(e:(ia == a.size)=true):Rs lt a b (out++a.extract ia a.size++b.extract ib b.size):=by
 refine⟨h.perm.done,?_⟩;have e':a.toList.drop ia=[]:=List.drop_eq_nil_of_le (by rw[Array.length_toList,eq_of_beq e];exact Nat.le_refl _);rw[Array.toList_append,Array.toList_append,Zcf,Zcf,e',List.append_nil];exact List.pairwise_append.mpr ⟨h.sort,SB.drop ib,fun x hx y hy=>h.lowB x hx y hy⟩
theorem OutL.lastL(h:OutL lt a b out ia ib)(SA:So lt a.toList)(SB:So lt b.toList)(LA:∀x∈b.toList,∀q,a[a.size-1]?= some q->Le lt x q)(e:(ia+1 == a.size)=true):Rs lt a b (out++b.extract ib b.size++a.extract ia a.size):=by
 refine⟨h.perm.last,?_⟩;have e1:=eq_of_beq e;rw[Array.toList_append,Array.toList_append,Zcf,Zcf];refine List.pairwise_append.mpr ⟨List.pairwise_append.mpr ⟨h.sort,SB.drop ib,fun x hx y hy=>h.lowB x hx y hy⟩,SA.drop ia,fun x hx y hy=>?_⟩;rcases List.mem_append.mp hx with hx|hx
 ·exact h.lowA x hx y hy
 ·refine LA x (List.mem_of_mem_drop hx) y ?_;obtain⟨i,hi⟩:=Zdj hy;have hl:=(List.getElem?_eq_some_iff.mp hi).1;rw[Array.length_toList] at hl;rw[show a.size-1=ia+i by lia,<- Array.getElem?_toList];exact hi
theorem ZlD(SB:So lt b.toList)(hp:b[0]?= some p)(hb0:∀p,b[0]?= some p->∀y∈a.toList,Le lt p y):OutL lt a b #[p] 0 1:=by
 refine⟨Zmg hp,List.pairwise_singleton _ _,fun x hx y hy=>?_,fun x hx y hy=>?_⟩
 ·obtain rfl:x=p:=by simpa using hx
  exact hb0 x hp y hy
 ·obtain rfl:x=p:=by simpa using hx
  exact SB.head hp y hy
end
section
variable{prog:Program}{w:World}{A:Around}{E:Value->Shared->Prop}{s:Shared}{κ : SortKind}{Ok:Keyed->Prop}{st:SortSt}{lt:Keyed->Keyed->Bool}
abbrev LoT:=Option (Array Keyed)×Array Keyed×Nat×Nat×Nat×Nat×Nat
def lo3(a b out:Array Keyed)(ia ib g ac bc:Nat):StateT SortSt Sem (ForInStep LoT) :=
 elem' a ia >>= fun p=>if(ia+1+1 == a.size)=true then pure (.done (some (out.push p++b.extract ib b.size++a.extract (ia+1) a.size),out.push p,ia+1,ib,g,ac,bc))
  else if(decide (ac<7)&&decide (bc<7))=true then pure (.done (none,out.push p,ia+1,ib,g,ac,bc)) else pure (.yield (none,out.push p,ia+1,ib,g,ac,bc))
def LoP(lt:Keyed->Keyed->Bool)(a b:Array Keyed)(st:SortSt)(x:Nat):ForInStep LoT->SortSt->Prop:=fun r st'=>match r with
 | .done c=>Like st st'/\((∃r out ia ib g ac bc,c=(some r,out,ia,ib,g,ac,bc)/\Rs lt a b r)\/∃out ia ib g ac bc,c=(none,out,ia,ib,g,ac,bc)/\OutL lt a b out ia ib/\ia+1<a.size/\ib<b.size/\x+2<=ia+ib)
 | .yield c=>Like st st'/\∃out ia ib g ac bc,c=(none,out,ia,ib,g,ac,bc)/\OutL lt a b out ia ib/\ia+1<a.size/\ib<b.size/\x+2<=ia+ib
structure LoQ(lt:Keyed->Keyed->Bool)(a b:Array Keyed)(st:SortSt)(N:Nat)(Q:ForInStep LoT->SortSt->Prop):Prop where
 R:∀r out ia ib g ac bc,Rs lt a b r->Q (.done (some r,out,ia,ib,g,ac,bc)) st
 N:∀out ia ib g ac bc,OutL lt a b out ia ib->ia+1<a.size->ib<b.size->N<=ia+ib->Q (.done (none,out,ia,ib,g,ac,bc)) st/\Q (.yield (none,out,ia,ib,g,ac,bc)) st
section
variable{a b out:Array Keyed}{ia ib g ac bc N:Nat}{Q:ForInStep LoT->SortSt->Prop}
theorem Zjk(SA:So lt a.toList)(SB:So lt b.toList)(LA:∀x∈b.toList,∀q,a[a.size-1]?= some q->Le lt x q)(q:LoQ lt a b st N Q)(ho:OutL lt a b out ia ib)(h1:ia+1<a.size)(h2:ib<b.size)(hN:N<=ia+ib)(hp:∀p,a[ia]?= some p->∀y∈b.toList.drop ib,Le lt p y) :
  wpS (model prog w) A E s (lo3 a b out ia ib g ac bc) Q st:=by
 unfold lo3;refine wpS_bind (ZQ (by lia) fun p4 h4 e4=>?_);have o4:=ho.pushA SA e4 (hp p4 e4);by_cases f1:(ia+1+1 == a.size)=true
 ·rw[if_pos f1];exact wpS_pure (q.R _ _ _ _ _ _ _ (o4.lastL SA SB LA f1))
 rw[if_neg f1];have n4:ia+1+1<a.size:=by
  have : ¬ ia+1+1=a.size:=fun e=>f1 (by simp[<- e]);lia
 have z:=q.N _ _ _ g ac bc o4 n4 h2 (by lia);by_cases f2:(decide (ac<7)&&decide (bc<7))=true
 ·rw[if_pos f2];exact wpS_pure z.1
 ·rw[if_neg f2];exact wpS_pure z.2
theorem ZfV(o:Swo lt)(hc:Zgq prog w A s κ Ok lt)(hk:kindOf st= κ)(ha:∀p∈a.toList,Ok p)(hb:∀p∈b.toList,Ok p)(SA:So lt a.toList)(SB:So lt b.toList)(LA:∀x∈b.toList,∀q,a[a.size-1]?= some q->Le lt x q)(q:LoQ lt a b st N Q)(ho:OutL lt a b out ia ib)(h1:ia+1<a.size)(h2:ib<b.size)(hN:N<=ia+ib)(hp:∀p,b[ib]?= some p->∀y∈a.toList.drop ia,Le lt p y)
  {T:Keyed->Option Nat->StateT SortSt Sem (ForInStep LoT)} (hT:∀p k,T p (some k)=if k > 0 then(if(ib+1+k == b.size)=true then pure (.done (some (out.push p++b.extract (ib+1) (ib+1+k)++a.extract ia a.size++b.extract (ib+1+k) b.size),out.push p++b.extract (ib+1) (ib+1+k),ia,ib+1+k,g,ac,k))
     else lo3 a b (out.push p++b.extract (ib+1) (ib+1+k)) ia (ib+1+k) g ac k)
    else lo3 a b (out.push p) ia (ib+1) g ac k) :
  wpS (model prog w) A E s (elem' b ib >>= fun p=>if(ib+1 == b.size)=true then pure (.done (some (out.push p++a.extract ia a.size++b.extract (ib+1) b.size),out.push p,ia,ib+1,g,ac,bc))
   else elem' a ia >>= fun q=>ZfA true q b (ib+1) (b.size-(ib+1)) 0 >>= T p) Q st:=by
 refine wpS_bind (ZQ (by lia) fun p3 h3 e3=>?_);have o2:=ho.pushB SB e3 (hp p3 e3);by_cases c3:(ib+1 == b.size)=true
 ·rw[if_pos c3];exact wpS_pure (q.R _ _ _ _ _ _ _ (o2.doneB SA c3))
 rw[if_neg c3];have n3:ib+1<b.size:=by
  have : ¬ ib+1=b.size:=fun e=>c3 (by simp[<- e]);lia
 refine wpS_bind (ZQ (by lia) fun q3 g3 u3=>?_);refine wpS_bind (Zar o hc hk (ha q3 g3) hb (by lia) (by lia) (Zfn SB _ _) fun k2 hk2 G1 G2=>?_);rw[hT];by_cases k20:k2 > 0
 ·rw[if_pos k20];have o3:=o2.extB SB (k:=k2) (by lia) (fun x hx=>ZeS o SA u3 (Zli G1 o x hx));by_cases c4:(ib+1+k2 == b.size)=true
  ·rw[if_pos c4];exact wpS_pure (q.R _ _ _ _ _ _ _ (o3.doneB SA c4))
  rw[if_neg c4];have n5:ib+1+k2<b.size:=by
   have : ¬ ib+1+k2=b.size:=fun e=>c4 (by simp[<- e]);lia
  exact Zjk SA SB LA q o3 h1 n5 (by lia) fun p e=>by rw[Z8 e u3];exact ZlZ G2
 ·rw[if_neg k20];exact Zjk SA SB LA q o2 h1 n3 (by lia) fun p e=>by rw[Z8 e u3];exact ZlZ (k:=0) (fun i _ hi=>G2 i (by lia) hi)
end
set_option maxHeartbeats 2000000 in
theorem ZeB{a b:Array Keyed}{Q:Array Keyed->SortSt->Prop}(o:Swo lt)(hc:Zgq prog w A s κ Ok lt)(hk:kindOf st= κ)(ha:∀p∈a.toList,Ok p)(hb:∀p∈b.toList,Ok p)(ha1:1<=a.size)(hb1:1<=b.size)(SA:So lt a.toList)(SB:So lt b.toList)(hb0:∀p,b[0]?= some p->∀y∈a.toList,Le lt p y)(LA:∀x∈b.toList,∀q,a[a.size-1]?= some q->Le lt x q)
  (h:∀r st',Like st st'->Rs lt a b r->Q r st'):wpS (model prog w) A E s (ZiP a b) Q st:=by
 refine wpS_bind (wpS_lift (wpAny_rule ⟨rfl,?_⟩));refine wpS_bind (ZQ (by lia) fun p hp he=>?_)
 try dsimp -zeta only
 have o0:OutL lt a b #[p] 0 1:=ZlD SB he hb0;by_cases c1:(1 == b.size)=true
 ·rw[if_pos c1];exact wpS_pure (h _ _ (Like.refl _) (o0.doneB SA c1))
 rw[if_neg c1];by_cases c2:(0+1 == a.size)=true
 ·rw[if_pos c2];exact wpS_pure (h _ _ (Like.refl _) (o0.lastL SA SB LA c2))
 rw[if_neg c2];have n1:1<b.size:=by
  have : ¬ 1=b.size:=fun e=>c1 (by simp[<- e]);lia
 have n2:1<a.size:=by
  have : ¬ 1=a.size:=fun e=>c2 (by simp[<- e]);lia
 refine wpS_bind (wpS_get ?_);refine wpS_bind (wpS_mono (wpS_forRange (I:=fun x c st'=>Like st st'/\∃out ia ib g,c=(none,out,ia,ib,g)/\OutL lt a b out ia ib/\ia+1<a.size/\ib<b.size/\x+1<=ia+ib)
  (Q:=fun c st'=>Like st st'/\∃r out ia ib g,c=(some r,out,ia,ib,g)/\Rs lt a b r) ?_ ?_ ⟨Like.refl _,_,0,1,_,rfl,o0,by lia,by lia,by lia⟩) ?_)
 ·rintro x c st1 _ hx ⟨lk,out,ia,ib,g,rfl,ho,hia,hib,hxx⟩
  try dsimp -zeta only
  refine wpS_bind (wpS_mono (wpS_forRange (I:=fun y c st'=>Like st st'/\∃out ia ib ac bc,c=(none,out,ia,ib,ac,bc)/\OutL lt a b out ia ib/\ia+1<a.size/\ib<b.size/\x+1+(if y=0 then 0 else 1)<=ia+ib)
   (Q:=fun c st'=>Like st st'/\((∃r out ia ib ac bc,c=(some r,out,ia,ib,ac,bc)/\Rs lt a b r)\/∃out ia ib ac bc,c=(none,out,ia,ib,ac,bc)/\OutL lt a b out ia ib/\ia+1<a.size/\ib<b.size/\x+2<=ia+ib)) ?_ ?_ ⟨lk,out,ia,ib,0,0,rfl,ho,hia,hib,by simp;lia⟩) ?_)
  ·rintro y c st2 _ hy ⟨lk2,out,ia,ib,ac,bc,rfl,ho,hia,hib,hxx⟩;dsimp only;have hxx2:x+1<=ia+ib:=by split at hxx <;> lia
   refine wpS_bind (ZQ (by lia) fun p hp ep=>?_);refine wpS_bind (ZQ (by lia) fun q hq eq=>?_);refine wpS_bind (Zc1 hc (lk2.kind.trans hk) (hb p hp) (ha q hq) ?_);cases hbw:lt p q with
   | true =>
    try dsimp -zeta only
    rw[if_pos rfl];refine wpS_bind (ZQ (by lia) fun p2 hp2 ep2=>?_);have o1:=ho.pushB SB ep2 (by rw[Z8 ep2 ep];exact ZeS o SA eq (o.le_of hbw));by_cases d1:(ib+1 == b.size)=true
    ·rw[if_pos d1];exact wpS_pure ⟨lk2,.inl ⟨_,_,_,_,_,_,rfl,(o1.doneB SA d1)⟩⟩
    rw[if_neg d1];have m1:ib+1<b.size:=by
     have : ¬ ib+1=b.size:=fun e=>d1 (by simp[<- e]);lia
    by_cases d2:bc+1>=g
    ·rw[if_pos d2];exact wpS_pure ⟨lk2,.inr ⟨_,_,_,_,_,rfl,o1,hia,m1,by lia⟩⟩
    ·rw[if_neg d2];exact wpS_pure ⟨lk2,_,_,_,_,_,rfl,o1,hia,m1,by rw[if_neg (by lia)];lia⟩
   | false =>
    try dsimp -zeta only
    rw[if_neg Bool.false_ne_true];refine wpS_bind (ZQ (by lia) fun p2 hp2 ep2=>?_);have o1:=ho.pushA SA ep2 (by rw[Z8 ep2 eq];exact ZeS o SB ep hbw);by_cases d1:(ia+1+1 == a.size)=true
    ·rw[if_pos d1];exact wpS_pure ⟨lk2,.inl ⟨_,_,_,_,_,_,rfl,(o1.lastL SA SB LA d1)⟩⟩
    rw[if_neg d1];have m1:ia+1+1<a.size:=by
     have : ¬ ia+1+1=a.size:=fun e=>d1 (by simp[<- e]);lia
    by_cases d2:ac+1>=g
    ·rw[if_pos d2];exact wpS_pure ⟨lk2,.inr ⟨_,_,_,_,_,rfl,o1,m1,hib,by lia⟩⟩
    ·rw[if_neg d2];exact wpS_pure ⟨lk2,_,_,_,_,_,rfl,o1,m1,hib,by rw[if_neg (by lia)];lia⟩
  ·rintro c st2 ⟨lk2,out,ia,ib,ac,bc,rfl,ho,hia,hib,hxx⟩;refine⟨lk2,.inr ⟨_,_,_,_,_,rfl,ho,hia,hib,?_⟩⟩;rw[if_neg (by lia)] at hxx;lia
  ·rintro c st2 ⟨lk2,⟨r,out,ia,ib,ac,bc,rfl,hr⟩|⟨out,ia,ib,ac,bc,rfl,ho,hia,hib,hxx⟩⟩
   ·exact wpS_pure ⟨lk2,_,_,_,_,_,rfl,hr⟩
   try dsimp -zeta only
   refine wpS_bind (wpS_lift (wpAny_rule ⟨rfl,?_⟩))
   try dsimp -zeta only
   refine wpS_bind (wpS_mono (wpS_forRange (I:=fun y c st'=>Like st st'/\∃out ia ib g ac bc,c=(none,out,ia,ib,g,ac,bc)/\OutL lt a b out ia ib/\ia+1<a.size/\ib<b.size/\x+2<=ia+ib)
    (Q:=fun c st'=>Like st st'/\((∃r out ia ib g ac bc,c=(some r,out,ia,ib,g,ac,bc)/\Rs lt a b r)\/∃out ia ib g ac bc,c=(none,out,ia,ib,g,ac,bc)/\OutL lt a b out ia ib/\ia+1<a.size/\ib<b.size/\x+2<=ia+ib)) ?_ ?_ ⟨lk2,out,ia,ib,_,_,_,rfl,ho,hia,hib,hxx⟩) ?_)
   ·rintro y c st3 _ hy ⟨lk3,out,ia,ib,g3,ac,bc,rfl,ho,hia,hib,hxx⟩;dsimp only;refine wpS_mono (Q:=LoP lt a b st x) ?_ (fun r st' h=>by cases r <;> exact h)
    have loq:∀{st4},Like st st4->LoQ lt a b st4 (ia+ib) (LoP lt a b st x):=fun lk4=>⟨fun r out ia ib g ac bc hr=>⟨lk4,.inl ⟨r,out,ia,ib,g,ac,bc,rfl,hr⟩⟩,fun out ia ib g ac bc ho h1 h2 hN=>⟨⟨lk4,.inr ⟨out,ia,ib,g,ac,bc,rfl,ho,h1,h2,by lia⟩⟩,⟨lk4,out,ia,ib,g,ac,bc,rfl,ho,h1,h2,by lia⟩⟩⟩;by_cases g1:g3 > 1
    ·rw[if_pos g1];refine wpS_bind (wpS_modify ?_);have lk4:=lk3.trans (ZaF st3 (g3-1));refine wpS_bind (ZQ (by lia) fun p0 h0 e0=>?_);refine wpS_bind (Zar o hc (lk4.kind.trans hk) (hb p0 h0) ha (by lia) (by lia) (Zfn SA _ _) fun k hk1 F1 F2=>?_)
     try dsimp -zeta only
     by_cases k0:k > 0
     ·rw[if_pos k0];have o1:=ho.extA SA (k:=k) (by lia) (fun x hx=>ZeS o SB e0 (ZkG F1 x hx));by_cases c1:(ia+k+1 == a.size)=true
      ·rw[if_pos c1];exact wpS_pure ⟨lk4,.inl ⟨_,_,_,_,_,_,_,rfl,(o1.lastL SA SB LA c1)⟩⟩
      rw[if_neg c1];by_cases c2:(ia+k == a.size)=true
      ·rw[if_pos c2];exact wpS_pure ⟨lk4,.inl ⟨_,_,_,_,_,_,_,rfl,(o1.doneA SB c2)⟩⟩
      rw[if_neg c2];have n1:ia+k+1<a.size:=by
       have h1 : ¬ ia+k+1=a.size:=fun e=>c1 (by simp[<- e]);have h2 : ¬ ia+k=a.size:=fun e=>c2 (by simp[<- e]);lia
      refine ZfV o hc (lk4.kind.trans hk) ha hb SA SB LA (N:=ia+ib) (loq lk4) o1 n1 hib (by lia) (fun p e=>by rw[Z8 e e0];exact Zlb F2 o) ?_;exact fun _ _=>rfl
     ·rw[if_neg k0];refine ZfV o hc (lk4.kind.trans hk) ha hb SA SB LA (N:=ia+ib) (loq lk4) ho hia hib (Nat.le_refl _) (fun p e=>by rw[Z8 e e0];exact Zlb (k:=0) (fun i _ hi=>F2 i (by lia) hi) o) ?_;exact fun _ _=>rfl
    ·rw[if_neg g1];refine wpS_bind (wpS_modify ?_);have lk4:=lk3.trans (ZaF st3 g3);refine wpS_bind (ZQ (by lia) fun p0 h0 e0=>?_);refine wpS_bind (Zar o hc (lk4.kind.trans hk) (hb p0 h0) ha (by lia) (by lia) (Zfn SA _ _) fun k hk1 F1 F2=>?_)
     try dsimp -zeta only
     by_cases k0:k > 0
     ·rw[if_pos k0];have o1:=ho.extA SA (k:=k) (by lia) (fun x hx=>ZeS o SB e0 (ZkG F1 x hx));by_cases c1:(ia+k+1 == a.size)=true
      ·rw[if_pos c1];exact wpS_pure ⟨lk4,.inl ⟨_,_,_,_,_,_,_,rfl,(o1.lastL SA SB LA c1)⟩⟩
      rw[if_neg c1];by_cases c2:(ia+k == a.size)=true
      ·rw[if_pos c2];exact wpS_pure ⟨lk4,.inl ⟨_,_,_,_,_,_,_,rfl,(o1.doneA SB c2)⟩⟩
      rw[if_neg c2];have n1:ia+k+1<a.size:=by
       have h1 : ¬ ia+k+1=a.size:=fun e=>c1 (by simp[<- e]);have h2 : ¬ ia+k=a.size:=fun e=>c2 (by simp[<- e]);lia
      refine ZfV o hc (lk4.kind.trans hk) ha hb SA SB LA (N:=ia+ib) (loq lk4) o1 n1 hib (by lia) (fun p e=>by rw[Z8 e e0];exact Zlb F2 o) ?_;exact fun _ _=>rfl
     ·rw[if_neg k0];refine ZfV o hc (lk4.kind.trans hk) ha hb SA SB LA (N:=ia+ib) (loq lk4) ho hia hib (Nat.le_refl _) (fun p e=>by rw[Z8 e e0];exact Zlb (k:=0) (fun i _ hi=>F2 i (by lia) hi) o) ?_;exact fun _ _=>rfl
   ·rintro c st3 ⟨lk3,out,ia,ib,g3,ac,bc,rfl,ho,hia,hib,hxx⟩;exact⟨lk3,.inr ⟨_,_,_,_,_,_,rfl,ho,hia,hib,hxx⟩⟩
   ·rintro c st3 ⟨lk3,⟨r,out,ia,ib,g3,ac,bc,rfl,hr⟩|⟨out,ia,ib,g3,ac,bc,rfl,ho,hia,hib,hxx⟩⟩
    ·exact wpS_pure ⟨lk3,_,_,_,_,_,rfl,hr⟩
    ·try dsimp -zeta only
     refine wpS_bind (wpS_modify ?_);exact wpS_pure ⟨lk3.trans (ZaF _ _),_,_,_,_,rfl,ho,hia,hib,by lia⟩
 ·rintro c st1 ⟨lk,out,ia,ib,g,rfl,ho,hia,hib,hx⟩;exfalso;lia
 ·rintro c st1 ⟨lk,r,out,ia,ib,g,rfl,hr⟩;exact wpS_pure (h r st1 lk hr)
end
section
variable{lt:Keyed->Keyed->Bool}{a b out:Array Keyed}{na nb k:Nat}{p q:Keyed}
structure OutHL(lt:Keyed->Keyed->Bool)(a b out:Array Keyed)(na nb:Nat):Prop where
 perm:ZcL a b out na nb
 sort:So lt out.toList.reverse
 hiA:∀x∈out.toList,∀y∈a.toList.take na,Le lt y x
 hiB:∀x∈out.toList,∀y∈b.toList.take nb,Le lt y x
theorem ZbQ(h1:1<=na)(hp:a[na-1]?= some p):a.toList.take na=a.toList.take (na-1) ++ [p]:=by
 have:=ZdP (ZiR hp);rw[Nat.sub_add_cancel h1] at this;exact this
theorem So.take{l:List Keyed}(h:So lt l)(n:Nat):So lt (l.take n):=List.Pairwise.sublist (List.take_sublist n l) h
theorem So.last(h:So lt a.toList)(h1:1<=na)(hp:a[na-1]?= some p):∀y∈a.toList.take (na-1),Le lt y p:=fun y hy=>by
 have:=h.take na;rw[ZbQ h1 hp] at this;exact(List.pairwise_append.mp this).2.2 y hy p (List.mem_singleton.mpr rfl)
theorem ZeF(o:Swo lt)(h:So lt a.toList)(h1:1<=na)(hp:a[na-1]?= some p){x:Keyed}(hx:Le lt p x):∀y∈a.toList.take na,Le lt y x:=fun y hy=>by
 rw[ZbQ h1 hp] at hy;rcases List.mem_append.mp hy with hy|hy
 ·exact o.le_trans (h.last h1 hp y hy) hx
 ·rw[List.mem_singleton.mp hy];exact hx
theorem Zea{l:List Keyed}{i j:Nat}(h:i<=j){y:Keyed}(hy:y∈l.take i):y∈l.take j:=by
 rw[show i=min i j by lia,<- List.take_take] at hy;exact List.mem_of_mem_take hy
theorem Zbe{l:List Keyed}{n:Nat}{y:Keyed}(h:y∈l.take n):∃i,i<n/\l[i]?= some y:=by
 obtain⟨i,hi⟩:=List.mem_iff_getElem?.mp h;have hik:i<n:=by
  have:=(List.getElem?_eq_some_iff.mp hi).1;rw[List.length_take] at this;lia
 rw[List.getElem?_take_of_lt hik] at hi;exact⟨i,hik,hi⟩
theorem Zbh{i j:Nat}{x:Keyed}(h:x∈(a.extract i j).toList):∃m,i<=m/\m<j/\a[m]?= some x:=by
 rw[Array.toList_extract,List.extract_eq_drop_take] at h;obtain⟨m,hm,e⟩:=Zbe h;rw[List.getElem?_drop] at e;exact⟨i+m,by lia,by lia,by rw[<- Array.getElem?_toList];exact e⟩
theorem ZkX(F:∀i,k<=i->i<na->BV lt false p a 0 i=false)(o:Swo lt):∀x∈(a.extract k na).toList,Le lt p x:=fun x hx=>by
 obtain⟨m,h1,h2,e⟩:=Zbh hx;have h3:=F m h1 h2;unfold BV at h3;rw[Nat.zero_add,e] at h3;have h4:(!lt p x)=false:=h3;exact o.le_of (by simpa using h4)
theorem ZfZ(F:∀i,i<k->BV lt false p a 0 i=true):∀y∈a.toList.take k,Le lt y p:=fun y hy=>by
 obtain⟨i,hi,e⟩:=Zbe hy;have h3:=F i hi;unfold BV at h3;rw[Nat.zero_add,<- Array.getElem?_toList,e] at h3;have h4:(!lt p y)=true:=h3;show lt p y=false
 simpa using h4
theorem ZlF(F:∀i,k<=i->i<nb->BV lt true q b 0 i=false):∀x∈(b.extract k nb).toList,Le lt q x:=fun x hx=>by
 obtain⟨m,h1,h2,e⟩:=Zbh hx;have h3:=F m h1 h2;unfold BV at h3;rw[Nat.zero_add,e] at h3;exact h3
theorem Zi1(F:∀i,i<k->BV lt true q b 0 i=true)(o:Swo lt):∀y∈b.toList.take k,Le lt y q:=fun y hy=>by
 obtain⟨i,hi,e⟩:=Zbe hy;have h3:=F i hi;unfold BV at h3;rw[Nat.zero_add,<- Array.getElem?_toList,e] at h3;exact o.le_of h3
theorem ZfN(h:So lt out.toList.reverse)(hp:∀x∈out.toList,Le lt p x):So lt (out.push p).toList.reverse:=by
 rw[Array.toList_push,List.reverse_append];exact List.pairwise_cons.mpr ⟨fun x hx=>hp x (List.mem_reverse.mp hx),h⟩
theorem OutHL.pushA(h:OutHL lt a b out na nb)(SA:So lt a.toList)(h1:1<=na)(hp:a[na-1]?= some p)(hb:∀y∈b.toList.take nb,Le lt y p):OutHL lt a b (out.push p) (na-1) nb:=by
 have hm:p∈a.toList.take na:=by rw[ZbQ h1 hp];exact List.mem_append_right _ (List.mem_singleton.mpr rfl)
 refine⟨h.perm.pushA h1 hp,ZfN h.sort fun x hx=>h.hiA x hx p hm,fun x hx y hy=>?_,fun x hx y hy=>?_⟩
 ·rcases mem_push hx with hx|rfl
  ·exact h.hiA x hx y (Zea (by lia) hy)
  ·exact SA.last h1 hp y hy
 ·rcases mem_push hx with hx|rfl
  ·exact h.hiB x hx y hy
  ·exact hb y hy
theorem OutHL.pushB(h:OutHL lt a b out na nb)(SB:So lt b.toList)(h1:1<=nb)(hp:b[nb-1]?= some p)(ha:∀y∈a.toList.take na,Le lt y p):OutHL lt a b (out.push p) na (nb-1):=by
 have hm:p∈b.toList.take nb:=by rw[ZbQ h1 hp];exact List.mem_append_right _ (List.mem_singleton.mpr rfl)
 refine⟨h.perm.pushB h1 hp,ZfN h.sort fun x hx=>h.hiB x hx p hm,fun x hx y hy=>?_,fun x hx y hy=>?_⟩
 ·rcases mem_push hx with hx|rfl
  ·exact h.hiA x hx y hy
  ·exact ha y hy
 ·rcases mem_push hx with hx|rfl
  ·exact h.hiB x hx y (Zea (by lia) hy)
  ·exact SB.last h1 hp y hy
theorem Zjh(h:So lt a.toList)(i j:Nat):So lt (a.extract i j).toList:=by
 rw[Array.toList_extract,List.extract_eq_drop_take];exact(h.drop i).take _
theorem Zhe{i j:Nat}{x:Keyed}(h:x∈(a.extract i j).toList):x∈a.toList.take j:=by
 obtain⟨m,h1,h2,e⟩:=Zbh h;rw[<- Array.getElem?_toList] at e;refine List.mem_iff_getElem?.mpr ⟨m,?_⟩;rw[List.getElem?_take_of_lt h2];exact e
theorem Zdz(h:So lt a.toList){i j:Nat}{x y:Keyed}(hy:y∈a.toList.take i)(hx:x∈(a.extract i j).toList):Le lt y x:=by
 obtain⟨m,h1,h2,e⟩:=Zbh hx;obtain⟨l,hl,e2⟩:=Zbe hy;rw[Array.getElem?_toList] at e2;exact Zfn h 0 (m+1) l m _ _ (Nat.zero_le _) (by lia) (by lia) e2 e
theorem OutHL.extA(h:OutHL lt a b out na nb)(SA:So lt a.toList)(hk:k<=na)(hb:∀x∈(a.extract k na).toList,∀y∈b.toList.take nb,Le lt y x):OutHL lt a b (out++(a.extract k na).reverse) k nb:=by
 have hm:∀x,x∈(out++(a.extract k na).reverse).toList->x∈out.toList\/x∈(a.extract k na).toList:=fun x hx=>by
  rw[Array.toList_append,Array.toList_reverse] at hx;rcases List.mem_append.mp hx with hx|hx
  ·exact .inl hx
  ·exact .inr (List.mem_reverse.mp hx)
 refine⟨h.perm.extA hk,?_,fun x hx y hy=>?_,fun x hx y hy=>?_⟩
 ·rw[Array.toList_append,Array.toList_reverse,List.reverse_append,List.reverse_reverse];exact List.pairwise_append.mpr ⟨Zjh SA _ _,h.sort,fun x hx y hy=>h.hiA y (List.mem_reverse.mp hy) x (Zhe hx)⟩
 ·rcases hm x hx with hx|hx
  ·exact h.hiA x hx y (Zea (by lia) hy)
  ·exact Zdz SA hy hx
 ·rcases hm x hx with hx|hx
  ·exact h.hiB x hx y hy
  ·exact hb x hx y hy
theorem OutHL.extB(h:OutHL lt a b out na nb)(SB:So lt b.toList)(hk:k<=nb)(ha:∀x∈(b.extract k nb).toList,∀y∈a.toList.take na,Le lt y x):OutHL lt a b (out++(b.extract k nb).reverse) na k:=by
 have hm:∀x,x∈(out++(b.extract k nb).reverse).toList->x∈out.toList\/x∈(b.extract k nb).toList:=fun x hx=>by
  rw[Array.toList_append,Array.toList_reverse] at hx;rcases List.mem_append.mp hx with hx|hx
  ·exact .inl hx
  ·exact .inr (List.mem_reverse.mp hx)
 refine⟨h.perm.extB hk,?_,fun x hx y hy=>?_,fun x hx y hy=>?_⟩
 ·rw[Array.toList_append,Array.toList_reverse,List.reverse_append,List.reverse_reverse];exact List.pairwise_append.mpr ⟨Zjh SB _ _,h.sort,fun x hx y hy=>h.hiB y (List.mem_reverse.mp hy) x (Zhe hx)⟩
 ·rcases hm x hx with hx|hx
  ·exact h.hiA x hx y hy
  ·exact ha x hx y hy
 ·rcases hm x hx with hx|hx
  ·exact h.hiB x hx y (Zea (by lia) hy)
  ·exact Zdz SB hy hx
theorem OutHL.doneA(h:OutHL lt a b out na nb)(SB:So lt b.toList)(e:(na == 0)=true):Rs lt a b (a.extract 0 na++b.extract 0 nb++out.reverse):=by
 refine⟨h.perm.done,?_⟩;rw[Array.toList_append,Array.toList_append,ex0,ex0,Array.toList_reverse,eq_of_beq e,List.take_zero,List.nil_append];exact List.pairwise_append.mpr ⟨SB.take nb,h.sort,fun x hx y hy=>h.hiB y (List.mem_reverse.mp hy) x hx⟩
theorem OutHL.doneB(h:OutHL lt a b out na nb)(SA:So lt a.toList)(e:(nb == 0)=true):Rs lt a b (a.extract 0 na++b.extract 0 nb++out.reverse):=by
 refine⟨h.perm.done,?_⟩;rw[Array.toList_append,Array.toList_append,ex0,ex0,Array.toList_reverse,eq_of_beq e,List.take_zero,List.append_nil];exact List.pairwise_append.mpr ⟨SA.take na,h.sort,fun x hx y hy=>h.hiA y (List.mem_reverse.mp hy) x hx⟩
theorem OutHL.firstL(h:OutHL lt a b out na nb)(SA:So lt a.toList)(SB:So lt b.toList)(hb0:∀p,b[0]?= some p->∀y∈a.toList,Le lt p y)(e:(nb == 1)=true):Rs lt a b (b.extract 0 nb++a.extract 0 na++out.reverse):=by
 refine⟨h.perm.first,?_⟩
 rw[Array.toList_append,Array.toList_append,ex0,ex0,Array.toList_reverse];refine List.pairwise_append.mpr ⟨List.pairwise_append.mpr ⟨SB.take nb,SA.take na,fun x hx y hy=>?_⟩,h.sort,fun x hx y hy=>?_⟩
 ·obtain⟨i,hi,e2⟩:=Zbe hx;rw[eq_of_beq e] at hi;obtain rfl:i=0:=by lia
  rw[Array.getElem?_toList] at e2;exact hb0 x e2 y (List.mem_of_mem_take hy)
 ·rcases List.mem_append.mp hx with hx|hx
  ·exact h.hiB y (List.mem_reverse.mp hy) x hx
  ·exact h.hiA y (List.mem_reverse.mp hy) x hx
theorem Zke(SA:So lt a.toList)(h1:1<=a.size)(hp:a[a.size-1]?= some p)(LA:∀x∈b.toList,∀q,a[a.size-1]?= some q->Le lt x q):OutHL lt a b #[p] (a.size-1) b.size:=by
 refine⟨Zlp h1 hp,List.pairwise_singleton _ _,fun x hx y hy=>?_,fun x hx y hy=>?_⟩
 ·obtain rfl:x=p:=by simpa using hx
  exact SA.last h1 hp y hy
 ·obtain rfl:x=p:=by simpa using hx
  exact LA y (List.mem_of_mem_take hy) x hp
end
section
variable{prog:Program}{w:World}{A:Around}{E:Value->Shared->Prop}{s:Shared}{κ : SortKind}{Ok:Keyed->Prop}{st:SortSt}{lt:Keyed->Keyed->Bool}
abbrev HiT:=Option (Array Keyed)×Nat×Nat×Array Keyed×Nat×Nat×Nat
def hi3(a b:Array Keyed)(na nb:Nat)(out:Array Keyed)(g ac bc:Nat):StateT SortSt Sem (ForInStep HiT) :=
 elem' a (na-1) >>= fun p=>if(na-1 == 0)=true then pure (.done (some (a.extract 0 (na-1)++b.extract 0 nb++(out.push p).reverse),na-1,nb,out.push p,g,ac,bc))
  else if(decide (ac<7)&&decide (bc<7))=true then pure (.done (none,na-1,nb,out.push p,g,ac,bc)) else pure (.yield (none,na-1,nb,out.push p,g,ac,bc))
structure HiQ(lt:Keyed->Keyed->Bool)(a b:Array Keyed)(st:SortSt)(N:Nat)(Q:ForInStep HiT->SortSt->Prop):Prop where
 R:∀r na nb out g ac bc,Rs lt a b r->Q (.done (some r,na,nb,out,g,ac,bc)) st
 N:∀na nb out g ac bc,OutHL lt a b out na nb->1<=na->na<=a.size->2<=nb->nb<=b.size->na+nb<=N->Q (.done (none,na,nb,out,g,ac,bc)) st/\Q (.yield (none,na,nb,out,g,ac,bc)) st
def HiP(lt:Keyed->Keyed->Bool)(a b:Array Keyed)(st:SortSt)(x:Nat):ForInStep HiT->SortSt->Prop:=fun r st'=>match r with
 | .done c=>Like st st'/\((∃r na nb out g ac bc,c=(some r,na,nb,out,g,ac,bc)/\Rs lt a b r)\/∃na nb out g ac bc,c=(none,na,nb,out,g,ac,bc)/\OutHL lt a b out na nb/\1<=na/\na<=a.size/\2<=nb/\nb<=b.size/\na+nb+x+2<=a.size+b.size)
 | .yield c=>Like st st'/\∃na nb out g ac bc,c=(none,na,nb,out,g,ac,bc)/\OutHL lt a b out na nb/\1<=na/\na<=a.size/\2<=nb/\nb<=b.size/\na+nb+x+2<=a.size+b.size
section
variable{a b out:Array Keyed}{na nb g ac bc N:Nat}{Q:ForInStep HiT->SortSt->Prop}
theorem Zjd(SA:So lt a.toList)(SB:So lt b.toList)(q:HiQ lt a b st N Q)(ho:OutHL lt a b out na nb)(h1:1<=na)(h2:na<=a.size)(h3:2<=nb)(h4:nb<=b.size)(hN:na+nb<=N)(hp:∀p,a[na-1]?= some p->∀y∈b.toList.take nb,Le lt y p) :
  wpS (model prog w) A E s (hi3 a b na nb out g ac bc) Q st:=by
 unfold hi3;refine wpS_bind (ZQ (by lia) fun p4 w4 e4=>?_);have o4:=ho.pushA SA h1 e4 (hp p4 e4);by_cases f1:(na-1 == 0)=true
 ·rw[if_pos f1];exact wpS_pure (q.R _ _ _ _ _ _ _ (o4.doneA SB f1))
 rw[if_neg f1];have n4 : ¬ na-1=0:=fun e=>f1 (by simp[e]);have z:=q.N _ _ _ g ac bc o4 (by lia) (by lia) h3 h4 (by lia);by_cases f2:(decide (ac<7)&&decide (bc<7))=true
 ·rw[if_pos f2];exact wpS_pure z.1
 ·rw[if_neg f2];exact wpS_pure z.2
theorem ZfJ(o:Swo lt)(hc:Zgq prog w A s κ Ok lt)(hk:kindOf st= κ)(ha:∀p∈a.toList,Ok p)(hb:∀p∈b.toList,Ok p)(hb0:∀p,b[0]?= some p->∀y∈a.toList,Le lt p y)(SA:So lt a.toList)(SB:So lt b.toList)(q:HiQ lt a b st N Q)(ho:OutHL lt a b out na nb)(h1:1<=na)(h2:na<=a.size)(h3:2<=nb)(h4:nb<=b.size)(hN:na+nb<=N)(hp:∀p,b[nb-1]?= some p->∀y∈a.toList.take na,Le lt y p)
  {T:Keyed->Option Nat->StateT SortSt Sem (ForInStep HiT)} (hT:∀p k,T p (some k)=if nb-1-k > 0 then(if(k == 1)=true then pure (.done (some (b.extract 0 k++a.extract 0 na++(out.push p++(b.extract k (nb-1)).reverse).reverse),na,k,out.push p++(b.extract k (nb-1)).reverse,g,ac,nb-1-k))
     else if(k == 0)=true then pure (.done (some (a.extract 0 na++b.extract 0 k++(out.push p++(b.extract k (nb-1)).reverse).reverse),na,k,out.push p++(b.extract k (nb-1)).reverse,g,ac,nb-1-k))
     else hi3 a b na k (out.push p++(b.extract k (nb-1)).reverse) g ac (nb-1-k))
    else hi3 a b na (nb-1) (out.push p) g ac (nb-1-k)) :
  wpS (model prog w) A E s (elem' b (nb-1) >>= fun p=>if(nb-1 == 1)=true then pure (.done (some (b.extract 0 (nb-1)++a.extract 0 na++(out.push p).reverse),na,nb-1,out.push p,g,ac,bc))
   else elem' a (na-1) >>= fun q=>ZfA true q b 0 (nb-1) (nb-1-1) >>= T p) Q st:=by
 refine wpS_bind (ZQ (by lia) fun p3 w3 e3=>?_);have o2:=ho.pushB SB (by lia) e3 (hp p3 e3);by_cases c3:(nb-1 == 1)=true
 ·rw[if_pos c3];exact wpS_pure (q.R _ _ _ _ _ _ _ (o2.firstL SA SB hb0 c3))
 rw[if_neg c3];have n3 : ¬ nb-1=1:=fun e=>c3 (by simp[e]);refine wpS_bind (ZQ (by lia) fun q3 v3 u3=>?_);refine wpS_bind (Zar o hc hk (ha q3 v3) hb (by lia) (by lia) (Zfn SB _ _) fun k2 hk2 G1 G2=>?_);rw[hT];by_cases k20:nb-1-k2 > 0
 ·rw[if_pos k20];have o3:=o2.extB SB (k:=k2) (by lia) (fun x hx=>ZeF o SA (by lia) u3 (ZlF G2 x hx));by_cases c4:(k2 == 1)=true
  ·rw[if_pos c4];exact wpS_pure (q.R _ _ _ _ _ _ _ (o3.firstL SA SB hb0 c4))
  rw[if_neg c4];by_cases c5:(k2 == 0)=true
  ·rw[if_pos c5];exact wpS_pure (q.R _ _ _ _ _ _ _ (o3.doneB SA c5))
  rw[if_neg c5];have n5 : ¬ k2=1:=fun e=>c4 (by simp[e]);have n6 : ¬ k2=0:=fun e=>c5 (by simp[e]);exact Zjd SA SB q o3 h1 h2 (by lia) (by lia) (by lia) fun p e=>by rw[Z8 e u3];exact Zi1 G1 o
 ·rw[if_neg k20];exact Zjd SA SB q o2 h1 h2 (by lia) (by lia) (by lia) fun p e=>by rw[Z8 e u3];exact Zi1 (fun i hi=>G1 i (by lia)) o
end
set_option maxHeartbeats 2000000 in
theorem ZeR{a b:Array Keyed}{Q:Array Keyed->SortSt->Prop}(o:Swo lt)(hc:Zgq prog w A s κ Ok lt)(hk:kindOf st= κ)(ha:∀p∈a.toList,Ok p)(hb:∀p∈b.toList,Ok p)(ha1:1<=a.size)(hb1:1<=b.size)(SA:So lt a.toList)(SB:So lt b.toList)(hb0:∀p,b[0]?= some p->∀y∈a.toList,Le lt p y)(LA:∀x∈b.toList,∀q,a[a.size-1]?= some q->Le lt x q)
  (h:∀r st',Like st st'->Rs lt a b r->Q r st'):wpS (model prog w) A E s (ZiU a b) Q st:=by
 refine wpS_bind (wpS_lift (wpAny_rule ⟨rfl,?_⟩));refine wpS_bind (ZQ (by lia) fun p hp he=>?_)
 try dsimp -zeta only
 have o0:OutHL lt a b #[p] (a.size-1) b.size:=Zke SA ha1 he LA;by_cases c1:(a.size-1 == 0)=true
 ·rw[if_pos c1];exact wpS_pure (h _ _ (Like.refl _) (o0.doneA SB c1))
 rw[if_neg c1];by_cases c2:(b.size == 1)=true
 ·rw[if_pos c2];exact wpS_pure (h _ _ (Like.refl _) (o0.firstL SA SB hb0 c2))
 rw[if_neg c2];have n1:1<b.size:=by
  have : ¬ b.size=1:=fun e=>c2 (by simp[e]);lia
 have n2:1<a.size:=by
  have : ¬ a.size-1=0:=fun e=>c1 (by simp[e]);lia
 refine wpS_bind (wpS_get ?_);refine wpS_bind (wpS_mono (wpS_forRange (I:=fun x c st'=>Like st st'/\∃na nb out g,c=(none,na,nb,out,g)/\OutHL lt a b out na nb/\1<=na/\na<=a.size/\2<=nb/\nb<=b.size/\na+nb+x+1<=a.size+b.size)
  (Q:=fun c st'=>Like st st'/\∃r na nb out g,c=(some r,na,nb,out,g)/\Rs lt a b r) ?_ ?_ ⟨Like.refl _,_,_,_,_,rfl,o0,by lia,by lia,by lia,by lia,by lia⟩) ?_)
 ·rintro x c st1 _ hx ⟨lk,na,nb,out,g,rfl,ho,h1,h2,h3,h4,hxx⟩
  try dsimp -zeta only
  refine wpS_bind (wpS_mono (wpS_forRange (I:=fun y c st'=>Like st st'/\∃na nb out ac bc,c=(none,na,nb,out,ac,bc)/\OutHL lt a b out na nb/\1<=na/\na<=a.size/\2<=nb/\nb<=b.size/\na+nb+x+1+(if y=0 then 0 else 1)<=a.size+b.size)
   (Q:=fun c st'=>Like st st'/\((∃r na nb out ac bc,c=(some r,na,nb,out,ac,bc)/\Rs lt a b r)\/∃na nb out ac bc,c=(none,na,nb,out,ac,bc)/\OutHL lt a b out na nb/\1<=na/\na<=a.size/\2<=nb/\nb<=b.size/\na+nb+x+2<=a.size+b.size)) ?_ ?_ ⟨lk,na,nb,out,0,0,rfl,ho,h1,h2,h3,h4,by simp;lia⟩) ?_)
  ·rintro y c st2 _ hy ⟨lk2,na,nb,out,ac,bc,rfl,ho,h1,h2,h3,h4,hxx⟩;have hxx2:na+nb+x+1<=a.size+b.size:=by split at hxx <;> lia
   try dsimp only
   refine wpS_bind (ZQ (by lia) fun p hp ep=>?_);refine wpS_bind (ZQ (by lia) fun q hq eq=>?_);refine wpS_bind (Zc1 hc (lk2.kind.trans hk) (hb p hp) (ha q hq) ?_);cases hbw:lt p q with
   | true =>
    try dsimp only
    rw[if_pos rfl];refine wpS_bind (ZQ (by lia) fun p2 hp2 ep2=>?_);have o1:=ho.pushA SA h1 ep2 (by rw[Z8 ep2 eq];exact ZeF o SB (by lia) ep (o.le_of hbw));by_cases d1:(na-1 == 0)=true
    ·rw[if_pos d1];exact wpS_pure ⟨lk2,.inl ⟨_,_,_,_,_,_,rfl,(o1.doneA SB d1)⟩⟩
    rw[if_neg d1];have m1 : ¬ na-1=0:=fun e=>d1 (by simp[e]);by_cases d2:ac+1>=g
    ·rw[if_pos d2];exact wpS_pure ⟨lk2,.inr ⟨_,_,_,_,_,rfl,o1,by lia,by lia,h3,h4,by lia⟩⟩
    ·rw[if_neg d2];exact wpS_pure ⟨lk2,_,_,_,_,_,rfl,o1,by lia,by lia,h3,h4,by rw[if_neg (by lia)];lia⟩
   | false =>
    try dsimp only
    rw[if_neg Bool.false_ne_true];refine wpS_bind (ZQ (by lia) fun p2 hp2 ep2=>?_);have o1:=ho.pushB SB (by lia) ep2 (by rw[Z8 ep2 ep];exact ZeF o SA h1 eq hbw);by_cases d1:(nb-1 == 1)=true
    ·rw[if_pos d1];exact wpS_pure ⟨lk2,.inl ⟨_,_,_,_,_,_,rfl,(o1.firstL SA SB hb0 d1)⟩⟩
    rw[if_neg d1];have m1 : ¬ nb-1=1:=fun e=>d1 (by simp[e]);by_cases d2:bc+1>=g
    ·rw[if_pos d2];exact wpS_pure ⟨lk2,.inr ⟨_,_,_,_,_,rfl,o1,h1,h2,by lia,by lia,by lia⟩⟩
    ·rw[if_neg d2];exact wpS_pure ⟨lk2,_,_,_,_,_,rfl,o1,h1,h2,by lia,by lia,by rw[if_neg (by lia)];lia⟩
  ·rintro c st2 ⟨lk2,na,nb,out,ac,bc,rfl,ho,h1,h2,h3,h4,hxx⟩;refine⟨lk2,.inr ⟨_,_,_,_,_,rfl,ho,h1,h2,h3,h4,?_⟩⟩;rw[if_neg (by lia)] at hxx;lia
  ·rintro c st2 ⟨lk2,⟨r,na,nb,out,ac,bc,rfl,hr⟩|⟨na,nb,out,ac,bc,rfl,ho,h1,h2,h3,h4,hxx⟩⟩
   ·exact wpS_pure ⟨lk2,_,_,_,_,_,rfl,hr⟩
   try dsimp -zeta only
   refine wpS_bind (wpS_lift (wpAny_rule ⟨rfl,?_⟩))
   try dsimp -zeta only
   refine wpS_bind (wpS_mono (wpS_forRange (I:=fun y c st'=>Like st st'/\∃na nb out g ac bc,c=(none,na,nb,out,g,ac,bc)/\OutHL lt a b out na nb/\1<=na/\na<=a.size/\2<=nb/\nb<=b.size/\na+nb+x+2<=a.size+b.size)
    (Q:=fun c st'=>Like st st'/\((∃r na nb out g ac bc,c=(some r,na,nb,out,g,ac,bc)/\Rs lt a b r)\/∃na nb out g ac bc,c=(none,na,nb,out,g,ac,bc)/\OutHL lt a b out na nb/\1<=na/\na<=a.size/\2<=nb/\nb<=b.size/\na+nb+x+2<=a.size+b.size)) ?_ ?_ ⟨lk2,na,nb,out,_,_,_,rfl,ho,h1,h2,h3,h4,hxx⟩) ?_)
   ·rintro y c st3 _ hy ⟨lk3,na,nb,out,g3,ac,bc,rfl,ho,h1,h2,h3,h4,hxx⟩
    try dsimp only
    refine wpS_mono (Q:=HiP lt a b st x) ?_ (fun r st' h=>by cases r <;> exact h)
    have hiq:∀{st4},Like st st4->HiQ lt a b st4 (na+nb) (HiP lt a b st x):=fun lk4=>⟨fun r na nb out g ac bc hr=>⟨lk4,.inl ⟨r,na,nb,out,g,ac,bc,rfl,hr⟩⟩,fun na nb out g ac bc ho h1 h2 h3 h4 hN=>⟨⟨lk4,.inr ⟨na,nb,out,g,ac,bc,rfl,ho,h1,h2,h3,h4,by lia⟩⟩,⟨lk4,na,nb,out,g,ac,bc,rfl,ho,h1,h2,h3,h4,by lia⟩⟩⟩;by_cases g1:g3 > 1
    ·rw[if_pos g1];refine wpS_bind (wpS_modify ?_);have lk4:=lk3.trans (ZaF st3 (g3-1));refine wpS_bind (ZQ (by lia) fun p0 w0 e0=>?_);refine wpS_bind (Zar o hc (lk4.kind.trans hk) (hb p0 w0) ha (by lia) (by lia) (Zfn SA _ _) fun k hk1 F1 F2=>?_);dsimp only;by_cases k0:na-k > 0
     ·rw[if_pos k0];have o1:=ho.extA SA (k:=k) (by lia) (fun x hx=>ZeF o SB (by lia) e0 (ZkX F2 o x hx));by_cases c1:(k == 0)=true
      ·rw[if_pos c1];exact wpS_pure ⟨lk4,.inl ⟨_,_,_,_,_,_,_,rfl,(o1.doneA SB c1)⟩⟩
      rw[if_neg c1];have n1 : ¬ k=0:=fun e=>c1 (by simp[e]);refine ZfJ o hc (lk4.kind.trans hk) ha hb hb0 SA SB (N:=na+nb) (hiq lk4) o1 (by lia) (by lia) h3 h4 (by lia) (fun p e=>by rw[Z8 e e0];exact ZfZ F1) ?_;exact fun _ _=>rfl
     ·rw[if_neg k0];refine ZfJ o hc (lk4.kind.trans hk) ha hb hb0 SA SB (N:=na+nb) (hiq lk4) ho h1 h2 h3 h4 (Nat.le_refl _) (fun p e=>by rw[Z8 e e0];exact ZfZ fun i hi=>F1 i (by lia)) ?_;exact fun _ _=>rfl
    ·rw[if_neg g1];refine wpS_bind (wpS_modify ?_);have lk4:=lk3.trans (ZaF st3 g3);refine wpS_bind (ZQ (by lia) fun p0 w0 e0=>?_);refine wpS_bind (Zar o hc (lk4.kind.trans hk) (hb p0 w0) ha (by lia) (by lia) (Zfn SA _ _) fun k hk1 F1 F2=>?_);dsimp only;by_cases k0:na-k > 0
     ·rw[if_pos k0];have o1:=ho.extA SA (k:=k) (by lia) (fun x hx=>ZeF o SB (by lia) e0 (ZkX F2 o x hx));by_cases c1:(k == 0)=true
      ·rw[if_pos c1];exact wpS_pure ⟨lk4,.inl ⟨_,_,_,_,_,_,_,rfl,(o1.doneA SB c1)⟩⟩
      rw[if_neg c1];have n1 : ¬ k=0:=fun e=>c1 (by simp[e]);refine ZfJ o hc (lk4.kind.trans hk) ha hb hb0 SA SB (N:=na+nb) (hiq lk4) o1 (by lia) (by lia) h3 h4 (by lia) (fun p e=>by rw[Z8 e e0];exact ZfZ F1) ?_;exact fun _ _=>rfl
     ·rw[if_neg k0];refine ZfJ o hc (lk4.kind.trans hk) ha hb hb0 SA SB (N:=na+nb) (hiq lk4) ho h1 h2 h3 h4 (Nat.le_refl _) (fun p e=>by rw[Z8 e e0];exact ZfZ fun i hi=>F1 i (by lia)) ?_;exact fun _ _=>rfl
   ·rintro c st3 ⟨lk3,na,nb,out,g3,ac,bc,rfl,ho,h1,h2,h3,h4,hxx⟩;exact⟨lk3,.inr ⟨_,_,_,_,_,_,rfl,ho,h1,h2,h3,h4,hxx⟩⟩
   ·rintro c st3 ⟨lk3,⟨r,na,nb,out,g3,ac,bc,rfl,hr⟩|⟨na,nb,out,g3,ac,bc,rfl,ho,h1,h2,h3,h4,hxx⟩⟩
    ·exact wpS_pure ⟨lk3,_,_,_,_,_,rfl,hr⟩
    ·try dsimp only
     refine wpS_bind (wpS_modify ?_);exact wpS_pure ⟨lk3.trans (ZaF _ _),_,_,_,_,rfl,ho,h1,h2,h3,h4,by lia⟩
 ·rintro c st1 ⟨lk,na,nb,out,g,rfl,ho,h1,h2,h3,h4,hx⟩;exfalso;lia
 ·rintro c st1 ⟨lk,r,na,nb,out,g,rfl,hr⟩;exact wpS_pure (h r st1 lk hr)
end
structure Pl(lo hi:Nat)(st st':SortSt):Prop where
 pm:Pm st st'
 out:∀i,i<lo\/hi<=i->(arrOf st')[i]?= (arrOf st)[i]?
theorem Pl.refl(lo hi:Nat)(st:SortSt):Pl lo hi st st:=⟨Pm.refl _,fun _ _=>rfl⟩
theorem Pl.trans{lo hi:Nat}{a b c:SortSt}(x:Pl lo hi a b)(y:Pl lo hi b c):Pl lo hi a c:=⟨x.pm.trans y.pm,fun i h=>(y.out i h).trans (x.out i h)⟩
theorem Pl.mirror{lo hi i j:Nat}(st:SortSt)(h1:lo<=i)(h2:j<=hi)(hj:j<=(arrOf st).size):Pl lo hi st (setArr st (mirror (arrOf st) i j ((j-i) / 2))):=⟨Pm.mirror st i j,fun k hk=>by
 show(PyProof.Rows.mirror (arrOf st) i j ((j-i) / 2))[k]?= _;rw[getElem?_mirror_all hj,if_neg (by lia)]⟩
theorem Pl.bubble{lo hi src dst:Nat}(st:SortSt)(h1:lo<=dst)(h2:dst<=src)(h3:src<hi)(hs:src<(arrOf st).size):Pl lo hi st (setArr st (bubble (arrOf st) src (src-dst))):=⟨Pm.bubble st src dst,fun k hk=>by
 show(PyProof.Rows.bubble (arrOf st) src (src-dst))[k]?= _;rw[getElem?_bubble hs _ (by lia),if_neg (by lia),if_neg (by lia)]⟩
section
variable{lt:Keyed->Keyed->Bool}{arr:Array Keyed}{lo hi m:Nat}{p q:Keyed}
def Dn(lt:Keyed->Keyed->Bool)(arr:Array Keyed)(i j:Nat):Prop := ∀x y p q,i<=x->x<y->y<j->arr[x]?= some p->arr[y]?= some q->Le lt q p
def Eqv(lt:Keyed->Keyed->Bool)(arr:Array Keyed)(i j:Nat):Prop := ∀x y p q,i<=x->x<j->i<=y->y<j->arr[x]?= some p->arr[y]?= some q->Le lt p q
theorem Zjm:Up lt arr lo (lo+1):=fun x y _ _ h1 h2 h3=>by lia
theorem ZkD:Dn lt arr lo (lo+1):=fun x y _ _ h1 h2 h3=>by lia
theorem Up.ext(o:Swo lt)(h:Up lt arr lo m)(hm:lo<m)(hp:arr[m-1]?= some p)(hq:arr[m]?= some q)(hle:Le lt p q):Up lt arr lo (m+1):=fun x y u v h1 h2 h3 eu ev=>by
 by_cases hy:y<m
 ·exact h x y u v h1 h2 hy eu ev
 obtain rfl:y=m:=by lia
 rw[hq] at ev;cases ev;by_cases hx:x=y-1
 ·rw[hx,hp] at eu;cases eu;exact hle
 ·exact o.le_trans (h x (y-1) u p h1 (by lia) (by lia) eu hp) hle
theorem Dn.ext(o:Swo lt)(h:Dn lt arr lo m)(hm:lo<m)(hp:arr[m-1]?= some p)(hq:arr[m]?= some q)(hle:Le lt q p):Dn lt arr lo (m+1):=fun x y u v h1 h2 h3 eu ev=>by
 by_cases hy:y<m
 ·exact h x y u v h1 h2 hy eu ev
 obtain rfl:y=m:=by lia
 rw[hq] at ev;cases ev;by_cases hx:x=y-1
 ·rw[hx,hp] at eu;cases eu;exact hle
 ·exact o.le_trans hle (h x (y-1) u p h1 (by lia) (by lia) eu hp)
theorem Dn.mirror(h:Dn lt arr lo hi)(hs:hi<=arr.size):Up lt (mirror arr lo hi ((hi-lo) / 2)) lo hi:=fun x y u v h1 h2 h3 eu ev=>by
 rw[getElem?_mirror_all hs,if_pos (by lia)] at eu ev;exact h (lo+hi-1-y) (lo+hi-1-x) v u (by lia) (by lia) (by lia) ev eu
theorem Up.mirror(h:Up lt arr lo hi)(hs:hi<=arr.size):Dn lt (mirror arr lo hi ((hi-lo) / 2)) lo hi:=fun x y u v h1 h2 h3 eu ev=>by
 rw[getElem?_mirror_all hs,if_pos (by lia)] at eu ev;exact h (lo+hi-1-y) (lo+hi-1-x) v u (by lia) (by lia) (by lia) ev eu
theorem Dn.turn(h:Dn lt arr lo hi)(he:Eqv lt arr m hi)(hm:lo<=m)(hs:hi<=arr.size):Dn lt (PyProof.Rows.mirror arr m hi ((hi-m) / 2)) lo hi:=fun x y u v h1 h2 h3 eu ev=>by
 rw[getElem?_mirror_all hs] at eu ev;by_cases hy:m<=y/\y<hi
 ·rw[if_pos hy] at ev;by_cases hx:m<=x/\x<hi
  ·rw[if_pos hx] at eu;exact he _ _ _ _ (by lia) (by lia) (by lia) (by lia) ev eu
  ·rw[if_neg hx] at eu;exact h x (m+hi-1-y) u v h1 (by lia) (by lia) eu ev
 ·rw[if_neg hy] at ev;rw[if_neg (by lia)] at eu;exact h x y u v h1 h2 h3 eu ev
end
section
variable{prog:Program}{w:World}{A:Around}{E:Value->Shared->Prop}{s:Shared}{κ : SortKind}{Ok:Keyed->Prop}{st:SortSt}{lt:Keyed->Keyed->Bool}
theorem Zap{i j:Nat}{Q:Option Bool->SortSt->Prop}(hc:Zgq prog w A s κ Ok lt)(hk:kindOf st= κ)(ho:∀p∈(arrOf st).toList,Ok p)(hi:i<(arrOf st).size)(hj:j<(arrOf st).size)(h:∀p q,(arrOf st)[i]?= some p->(arrOf st)[j]?= some q->Q (some (lt p q)) st):wpS (model prog w) A E s (ltAt' i j) Q st:=by
 rw[ltAt'_eq];refine wpS_bind (wpS_get ?_);refine wpS_bind (ZQ hi fun p hp e1=>wpS_bind (ZQ hj fun q hq e2=>?_));exact Zc1 hc hk (ho p hp) (ho q hq) (h p q e1 e2)
theorem ZaO{i j:Nat}{Q:PUnit->SortSt->Prop}(h:Q ⟨⟩ (setArr st (mirror (arrOf st) i j ((j-i) / 2)))):wpS (model prog w) A E s (reverseSlice' i j) Q st:=by
 rw[reverseSlice'_eq];exact wpS_modify h
theorem ZgQ{i j:Nat}{Q:PUnit->SortSt->Prop}(h:Q ⟨⟩ (setArr st (bubble (arrOf st) i (i-j)))):wpS (model prog w) A E s (moveDown' i j) Q st:=by
 rw[moveDown'_eq];exact wpS_modify h
theorem ZkK(o:Swo lt){arr:Array Keyed}{lo k l:Nat}{pv:Keyed}(h:Up lt arr lo (lo+k))(hs:lo+k<arr.size)(hl:l<=k)(ep:arr[lo+k]?= some pv)(h1:∀i p,i<l->arr[lo+i]?= some p->Le lt p pv)(h2:∀i p,l<=i->i<k->arr[lo+i]?= some p->lt pv p=true) :
  Up lt (bubble arr (lo+k) (lo+k-(lo+l))) lo (lo+k+1):=fun x y u v a1 a2 a3 eu ev=>by
 rw[getElem?_bubble hs _ (by lia)] at eu ev;rw[show lo+k-(lo+k-(lo+l))=lo+l by lia] at eu ev;by_cases hy:y=lo+l
 ·rw[if_pos hy,ep] at ev;cases ev;rw[if_neg (by lia),if_neg (by lia)] at eu;exact h1 (x-lo) u (by lia) (by rw[show lo+(x-lo)=x by lia];exact eu)
 rw[if_neg hy] at ev;by_cases hx:x=lo+l
 ·rw[if_pos hx,ep] at eu;cases eu;rw[if_pos (by lia)] at ev;exact o.le_of (h2 (y-1-lo) v (by lia) (by lia) (by rw[show lo+(y-1-lo)=y-1 by lia];exact ev))
 rw[if_neg hx] at eu;by_cases hy2:lo+l<y/\y<=lo+k
 ·rw[if_pos hy2] at ev;by_cases hx2:lo+l<x/\x<=lo+k
  ·rw[if_pos hx2] at eu;exact h (x-1) (y-1) u v (by lia) (by lia) (by lia) eu ev
  ·rw[if_neg hx2] at eu;exact h x (y-1) u v (by lia) (by lia) (by lia) eu ev
 ·rw[if_neg hy2] at ev;rw[if_neg (by lia)] at eu;exact h x y u v (by lia) (by lia) (by lia) eu ev
set_option maxHeartbeats 1000000 in
theorem Zfl{lo n ok:Nat}{Q:Bool->SortSt->Prop}(o:Swo lt)(hc:Zgq prog w A s κ Ok lt)(hk:kindOf st= κ)(ho:∀p∈(arrOf st).toList,Ok p)(hn:lo+n<=(arrOf st).size)(hok:ok<=n)(hn1:1<=n)(hu:Up lt (arrOf st) lo (lo+ok))(h:∀st',Pl lo (lo+n) st st'->Up lt (arrOf st') lo (lo+n)->Q true st'):wpS (model prog w) A E s (binarySort' lo n ok) Q st:=by
 have hu0:Up lt (arrOf st) lo (lo+max ok 1):=by
  by_cases h0:ok=0
  ·rw[h0];exact Zjm
  ·rw[show max ok 1=ok by lia];exact hu
 refine wpS_bind (wpS_mono (wpS_forRange (I:=fun x c st'=>c=(none,())/\Pl lo (lo+n) st st'/\Up lt (arrOf st') lo (lo+x)) (Q:=fun c st'=>c=(none,())/\Pl lo (lo+n) st st'/\Up lt (arrOf st') lo (lo+n)) ?_ ?_ ⟨rfl,Pl.refl _ _ _,hu0⟩) ?_)
 ·rintro k c st1 hk1 hkn ⟨rfl,pl,u1⟩
  try dsimp only
  have hsz:=pl.pm.size;obtain⟨pv,epv⟩:∃pv,(arrOf st1)[lo+k]?= some pv:=⟨_,getElem?_pos _ (lo+k) (by lia)⟩;refine wpS_bind (wpS_mono (wpS_forRange (I:=fun y c st'=>st'=st1/\∃l r,c=(none,l,r)/\l<=r/\r<=k/\(∀i p,i<l->(arrOf st1)[lo+i]?= some p->Le lt p pv)/\(∀i p,r<=i->i<k->(arrOf st1)[lo+i]?= some p->lt pv p=true)/\r-l+y<=k)
   (Q:=fun c st'=>st'=st1/\∃l r,c=(none,l,r)/\l=r/\r<=k/\(∀i p,i<l->(arrOf st1)[lo+i]?= some p->Le lt p pv)/\(∀i p,r<=i->i<k->(arrOf st1)[lo+i]?= some p->lt pv p=true)) ?_ ?_ ⟨rfl,0,k,rfl,by lia,by lia,fun i p hi=>by lia,fun i p h1 h2=>by lia,by lia⟩) ?_)
  ·rintro y c st2 _ _ ⟨rfl,l,r,rfl,h1,h2,h3,h4,h5⟩
   try dsimp only
   by_cases hlr:l>=r
   ·rw[if_pos hlr];exact wpS_pure ⟨rfl,l,r,rfl,by lia,h2,h3,h4⟩
   rw[if_neg hlr];refine wpS_bind (Zap hc (pl.pm.kind.trans hk) (pl.pm.ok ho) (by lia) (by lia) fun p q e1 e2=>?_);rw[epv] at e1;cases e1;cases hb:lt pv q with
   | true =>
    refine wpS_pure ⟨rfl,_,_,rfl,by lia,by lia,h3,fun i p hi1 hi2 ei=>?_,by lia⟩;by_cases e:i=(l+r) / 2
    ·rw[e,e2] at ei;cases ei;exact hb
    ·exact o.lt_le hb (u1 _ _ q p (by lia) (show lo+(l+r) / 2<lo+i by lia) (by lia) e2 ei)
   | false =>
    refine wpS_pure ⟨rfl,_,_,rfl,by lia,by lia,fun i p hi1 ei=>?_,h4,by lia⟩;by_cases e:i=(l+r) / 2
    ·rw[e,e2] at ei;cases ei;exact hb
    ·exact o.le_trans (u1 _ _ p q (by lia) (show lo+i<lo+(l+r) / 2 by lia) (by lia) ei e2) hb
  ·rintro c st2 ⟨rfl,l,r,rfl,h1,h2,h3,h4,h5⟩;exact⟨rfl,l,r,rfl,by lia,h2,h3,h4⟩
  ·rintro c st2 ⟨rfl,l,r,rfl,rfl,h2,h3,h4⟩
   try dsimp only
   refine wpS_bind (ZgQ ?_);exact wpS_pure ⟨rfl,pl.trans (Pl.bubble st2 (by lia) (by lia) (by lia) (by lia)),ZkK o u1 (by lia) h2 epv h3 h4⟩
 ·rintro c st1 ⟨rfl,pl,u1⟩;rw[show max (max ok 1) n=n by lia] at u1;exact⟨rfl,pl,u1⟩
 ·rintro c st1 ⟨rfl,pl,u1⟩;exact wpS_pure (h st1 pl u1)
set_option maxHeartbeats 4000000 in
theorem ZgA{lo nrem:Nat}{Q:Option Nat->SortSt->Prop}(o:Swo lt)(hc:Zgq prog w A s κ Ok lt)(hk:kindOf st= κ)(ho:∀p∈(arrOf st).toList,Ok p)(h1:1<=nrem)(hn:lo+nrem<=(arrOf st).size)(h:∀n st',1<=n->n<=nrem->Pl lo (lo+nrem) st st'->Up lt (arrOf st') lo (lo+n)->Q (some n) st'):wpS (model prog w) A E s (countRun' lo nrem) Q st:=by
 refine wpS_bind (wpS_mono (wpS_forRange (I:=fun x c st'=>st'=st/\∃n,c=(none,n)/\n=x/\Up lt (arrOf st) lo (lo+n)) (Q:=fun c st'=>st'=st/\∃n,c=(none,n)/\1<=n/\n<=nrem/\Up lt (arrOf st) lo (lo+n)/\(n=nrem\/∀p q,(arrOf st)[lo+n]?= some p->(arrOf st)[lo+n-1]?= some q->lt p q=true)) ?_ ?_ ⟨rfl,1,rfl,rfl,Zjm⟩) ?_)
 ·rintro x c st1 hx1 hx ⟨rfl,n,rfl,rfl,u1⟩
  try dsimp only
  refine wpS_bind (Zap hc hk ho (by lia) (by lia) fun p q e1 e2=>?_);cases hb:lt p q with
  | true=>exact wpS_pure ⟨rfl,n,rfl,by lia,by lia,u1,.inr fun p' q' f1 f2=>by rw[e1] at f1;rw[e2] at f2;cases f1;cases f2;exact hb⟩
  | false=>exact wpS_pure ⟨rfl,n+1,rfl,rfl,u1.ext (m:=lo+n) o (by lia) e2 e1 hb⟩
 ·rintro c st1 ⟨rfl,n,rfl,rfl,u1⟩;exact⟨rfl,_,rfl,by lia,by lia,u1,.inl (by lia)⟩
 ·rintro c st1 ⟨rfl,n,rfl,n1,n2,u1,hstop⟩
  try dsimp only
  by_cases e1:(n == nrem)=true
  ·rw[if_pos e1];exact wpS_pure (h n st1 n1 n2 (Pl.refl _ _ _) u1)
  rw[if_neg e1];have n3:n<nrem:=by
   have : ¬ n=nrem:=fun e=>e1 (by simp[e]);lia
  have hstop2:=hstop.resolve_left (by lia);obtain⟨pn,epn⟩:∃p,(arrOf st1)[lo+n]?= some p:=⟨_,getElem?_pos _ (lo+n) (by lia)⟩;obtain⟨pm,epm⟩:∃p,(arrOf st1)[lo+n-1]?= some p:=⟨_,getElem?_pos _ (lo+n-1) (by lia)⟩;have hless:=hstop2 pn pm epn epm;by_cases e2:n > 1
  ·rw[if_pos e2];refine wpS_bind (Zap hc hk ho (by lia) (by lia) fun p q f1 f2=>?_);cases hb:lt p q with
   | true =>
    try dsimp only
    rw[if_pos rfl];exact wpS_pure (h n st1 n1 n2 (Pl.refl _ _ _) u1)
   | false =>
    try dsimp only
    rw[if_neg Bool.false_ne_true];refine wpS_bind (ZaO ?_);have p2:=Pl.mirror (lo:=lo) (hi:=lo+nrem) (i:=lo) (j:=lo+n) st1 (by lia) (by lia) (by lia);have d2:Dn lt (arrOf (setArr st1 (mirror (arrOf st1) lo (lo+n) ((lo+n-lo) / 2)))) lo (lo+n):=u1.mirror (by lia);have d3:Dn lt (arrOf (setArr st1 (mirror (arrOf st1) lo (lo+n) ((lo+n-lo) / 2)))) lo (lo+(n+1)):=by
     refine d2.ext (m:=lo+n) o (by lia) (p:=p) (q:=pn) ?_ ?_ ?_
     ·show(mirror (arrOf st1) lo (lo+n) ((lo+n-lo) / 2))[lo+n-1]?= some p;rw[getElem?_mirror_all (by lia),if_pos (by lia),show lo+(lo+n)-1-(lo+n-1)=lo by lia];exact f1
     ·show(mirror (arrOf st1) lo (lo+n) ((lo+n-lo) / 2))[lo+n]?= some pn;rw[getElem?_mirror_all (by lia),if_neg (by lia)];exact epn
     ·rw[epm] at f2;cases f2;exact o.le_trans (o.le_of hless) hb
    generalize setArr st1 (mirror (arrOf st1) lo (lo+n) ((lo+n-lo) / 2))=st2 at p2 d3;refine wpS_bind (wpS_lift (wpAny_rule ⟨rfl,?_⟩));refine wpS_bind (wpS_mono (wpS_forRange (I:=fun x c st'=>Pl lo (lo+nrem) st1 st'/\∃n q,c=(none,n,q)/\n=x/\1<=n/\q+1<=n/\Dn lt (arrOf st') lo (lo+n)/\Eqv lt (arrOf st') (lo+n-(q+1)) (lo+n)) (Q:=fun c st'=>Pl lo (lo+nrem) st1 st'/\∃n q,c=(none,n,q)/\1<=n/\n<=nrem/\q+1<=n/\Dn lt (arrOf st') lo (lo+n)/\Eqv lt (arrOf st') (lo+n-(q+1)) (lo+n)) ?_ ?_ ⟨p2,n+1,0,rfl,rfl,by lia,by lia,d3,fun x y u v a1 a2 a3 a4 eu ev=>by obtain rfl:x=y:=(by lia);rw[eu] at ev;cases ev;exact o.le_refl _⟩) ?_)
    ·rintro x c st3 hx1 hx ⟨p3,n,q,rfl,rfl,m1,m2,d3,q3⟩;have z3:=p3.pm.size
     try dsimp only
     refine wpS_bind (Zap hc (p3.pm.kind.trans hk) (p3.pm.ok ho) (by lia) (by lia) fun p1 p0 e1 e0=>?_);cases hb:lt p1 p0 with
     | true =>
      try dsimp only
      rw[if_pos rfl];by_cases q0:q > 0
      ·rw[if_pos q0];refine wpS_bind (ZaO ?_);have p4:=Pl.mirror (lo:=lo) (hi:=lo+nrem) (i:=lo+n-(q+1)) (j:=lo+n) st3 (by lia) (by lia) (by lia);have d4:=d3.turn q3 (by lia) (by lia);refine wpS_pure ⟨p3.trans p4,n+1,0,rfl,rfl,by lia,by lia,?_,fun x y u v a1 a2 a3 a4 eu ev=>by obtain rfl:x=y:=(by lia);rw[eu] at ev;cases ev;exact o.le_refl _⟩;obtain⟨p5,e5⟩:∃p5,(arrOf (setArr st3 (mirror (arrOf st3) (lo+n-(q+1)) (lo+n) ((lo+n-(lo+n-(q+1))) / 2))))[lo+n-1]?= some p5:=⟨_,getElem?_pos _ (lo+n-1) (by show _<(mirror _ _ _ _).size;rw[mirror_size];lia)⟩;refine d4.ext (m:=lo+n) o (by lia) e5 (q:=p1) ?_ ?_
       ·show(mirror (arrOf st3) (lo+n-(q+1)) (lo+n) ((lo+n-(lo+n-(q+1))) / 2))[lo+n]?= some p1;rw[getElem?_mirror_all (by lia),if_neg (by lia)];exact e1
       ·have e6:(mirror (arrOf st3) (lo+n-(q+1)) (lo+n) ((lo+n-(lo+n-(q+1))) / 2))[lo+n-1]?= some p5:=e5;rw[getElem?_mirror_all (by lia),if_pos (by lia)] at e6;exact o.le_trans (o.le_of hb) (q3 _ _ p0 p5 (show lo+n-(q+1)<=lo+n-1 by lia) (by lia) (by lia) (by lia) e0 e6)
      ·rw[if_neg q0];exact wpS_pure ⟨p3,n+1,0,rfl,rfl,by lia,by lia,d3.ext (m:=lo+n) o (by lia) e0 e1 (o.le_of hb),fun x y u v a1 a2 a3 a4 eu ev=>by obtain rfl:x=y:=(by lia);rw[eu] at ev;cases ev;exact o.le_refl _⟩
     | false =>
      try dsimp only
      rw[if_neg Bool.false_ne_true];refine wpS_bind (Zap hc (p3.pm.kind.trans hk) (p3.pm.ok ho) (by lia) (by lia) fun p0' p1' e0' e1'=>?_);rw[e0] at e0';rw[e1] at e1';cases e0';cases e1';cases hb2:lt p0 p1 with
      | true=>exact wpS_pure ⟨p3,n,q,rfl,m1,by lia,m2,d3,q3⟩
      | false =>
       refine wpS_pure ⟨p3,n+1,q+1,rfl,rfl,by lia,by lia,d3.ext (m:=lo+n) o (by lia) e0 e1 hb2,fun x y u v a1 a2 a3 a4 eu ev=>?_⟩;have one:∀x u,lo+(n+1)-(q+1+1)<=x->x<lo+(n+1)->(arrOf st3)[x]?= some u->Le lt u p0/\Le lt p0 u:=fun x u a1 a2 eu=>by
        by_cases hx:x=lo+n
        ·rw[hx,e1] at eu;cases eu;exact⟨hb2,hb⟩
        ·exact⟨q3 x (lo+n-1) u p0 (by lia) (by lia) (by lia) (by lia) eu e0,q3 (lo+n-1) x p0 u (by lia) (by lia) (by lia) (by lia) e0 eu⟩
       exact o.le_trans (one x u a1 a2 eu).1 (one y v a3 a4 ev).2
    ·rintro c st3 ⟨p3,n',q,rfl,rfl,m1,m2,d3,q3⟩;exact⟨p3,_,q,rfl,m1,by lia,m2,d3,q3⟩
    ·rintro c st3 ⟨p3,n,q,rfl,m1,mn,m2,d3,q3⟩;have z3:=p3.pm.size
     try dsimp only
     by_cases q0:q > 0
     ·rw[if_pos q0];refine wpS_bind (ZaO ?_);have p4:=Pl.mirror (lo:=lo) (hi:=lo+nrem) (i:=lo+n-(q+1)) (j:=lo+n) st3 (by lia) (by lia) (by lia);have d4:=d3.turn q3 (by lia) (by lia);have z4:=p4.pm.size;generalize hst4:setArr st3 (mirror (arrOf st3) (lo+n-(q+1)) (lo+n) ((lo+n-(lo+n-(q+1))) / 2))=st4 at p4 z4;have d5:Dn lt (arrOf st4) lo (lo+n):=by rw[<- hst4];exact d4
      refine wpS_bind (ZaO ?_);have p6:=(p3.trans p4).trans (Pl.mirror (lo:=lo) (hi:=lo+nrem) (i:=lo) (j:=lo+n) st4 (by lia) (by lia) (by lia));have u6:Up lt (arrOf (setArr st4 (mirror (arrOf st4) lo (lo+n) ((lo+n-lo) / 2)))) lo (lo+n):=d5.mirror (by lia);have z6:=p6.pm.size;generalize setArr st4 (mirror (arrOf st4) lo (lo+n) ((lo+n-lo) / 2))=st5 at p6 u6 z6;refine wpS_bind (wpS_mono (wpS_forRange (I:=fun x c st'=>st'=st5/\∃k,c=(none,k)/\k=x/\Up lt (arrOf st5) lo (lo+k)) (Q:=fun c st'=>st'=st5/\∃k,c=(none,k)/\n<=k/\k<=nrem/\Up lt (arrOf st5) lo (lo+k)) ?_ ?_ ⟨rfl,n,rfl,rfl,u6⟩) ?_)
      ·rintro x c st7 hx1 hx2 ⟨rfl,k,rfl,rfl,u7⟩
       try dsimp only
       refine wpS_bind (Zap hc (p6.pm.kind.trans hk) (p6.pm.ok ho) (by lia) (by lia) fun p q e1 e2=>?_);cases hb:lt p q with
       | true=>exact wpS_pure ⟨rfl,k,rfl,by lia,by lia,u7⟩
       | false=>exact wpS_pure ⟨rfl,k+1,rfl,rfl,u7.ext (m:=lo+k) o (by lia) e2 e1 hb⟩
      ·rintro c st7 ⟨rfl,k,rfl,rfl,u7⟩;exact⟨rfl,max n nrem,rfl,by lia,by lia,u7⟩
      ·rintro c st7 ⟨rfl,k,rfl,k1,k2,u7⟩;exact wpS_pure (h k _ (by lia) k2 p6 u7)
     ·rw[if_neg q0];refine wpS_bind (ZaO ?_);have p6:=p3.trans (Pl.mirror (lo:=lo) (hi:=lo+nrem) (i:=lo) (j:=lo+n) st3 (by lia) (by lia) (by lia));have u6:Up lt (arrOf (setArr st3 (mirror (arrOf st3) lo (lo+n) ((lo+n-lo) / 2)))) lo (lo+n):=d3.mirror (by lia);have z6:=p6.pm.size;generalize setArr st3 (mirror (arrOf st3) lo (lo+n) ((lo+n-lo) / 2))=st5 at p6 u6 z6;refine wpS_bind (wpS_mono (wpS_forRange (I:=fun x c st'=>st'=st5/\∃k,c=(none,k)/\k=x/\Up lt (arrOf st5) lo (lo+k)) (Q:=fun c st'=>st'=st5/\∃k,c=(none,k)/\n<=k/\k<=nrem/\Up lt (arrOf st5) lo (lo+k)) ?_ ?_ ⟨rfl,n,rfl,rfl,u6⟩) ?_)
      ·rintro x c st7 hx1 hx2 ⟨rfl,k,rfl,rfl,u7⟩
       try dsimp only
       refine wpS_bind (Zap hc (p6.pm.kind.trans hk) (p6.pm.ok ho) (by lia) (by lia) fun p q e1 e2=>?_);cases hb:lt p q with
       | true=>exact wpS_pure ⟨rfl,k,rfl,by lia,by lia,u7⟩
       | false=>exact wpS_pure ⟨rfl,k+1,rfl,rfl,u7.ext (m:=lo+k) o (by lia) e2 e1 hb⟩
      ·rintro c st7 ⟨rfl,k,rfl,rfl,u7⟩;exact⟨rfl,max n nrem,rfl,by lia,by lia,u7⟩
      ·rintro c st7 ⟨rfl,k,rfl,k1,k2,u7⟩;exact wpS_pure (h k _ (by lia) k2 p6 u7)
  ·rw[if_neg e2];have p2:=Pl.refl lo (lo+nrem) st1;have d3:Dn lt (arrOf st1) lo (lo+(n+1)):=by
    obtain rfl:n=1:=by lia
    exact ZkD.ext (m:=lo+1) o (by lia) epm epn (o.le_of hless)
   refine wpS_bind (wpS_lift (wpAny_rule ⟨rfl,?_⟩));refine wpS_bind (wpS_mono (wpS_forRange (I:=fun x c st'=>Pl lo (lo+nrem) st1 st'/\∃n q,c=(none,n,q)/\n=x/\1<=n/\q+1<=n/\Dn lt (arrOf st') lo (lo+n)/\Eqv lt (arrOf st') (lo+n-(q+1)) (lo+n)) (Q:=fun c st'=>Pl lo (lo+nrem) st1 st'/\∃n q,c=(none,n,q)/\1<=n/\n<=nrem/\q+1<=n/\Dn lt (arrOf st') lo (lo+n)/\Eqv lt (arrOf st') (lo+n-(q+1)) (lo+n)) ?_ ?_ ⟨p2,n+1,0,rfl,rfl,by lia,by lia,d3,fun x y u v a1 a2 a3 a4 eu ev=>by obtain rfl:x=y:=(by lia);rw[eu] at ev;cases ev;exact o.le_refl _⟩) ?_)
   ·rintro x c st3 hx1 hx ⟨p3,n,q,rfl,rfl,m1,m2,d3,q3⟩;have z3:=p3.pm.size
    try dsimp only
    refine wpS_bind (Zap hc (p3.pm.kind.trans hk) (p3.pm.ok ho) (by lia) (by lia) fun p1 p0 e1 e0=>?_);cases hb:lt p1 p0 with
    | true =>
     try dsimp only
     rw[if_pos rfl];by_cases q0:q > 0
     ·rw[if_pos q0];refine wpS_bind (ZaO ?_);have p4:=Pl.mirror (lo:=lo) (hi:=lo+nrem) (i:=lo+n-(q+1)) (j:=lo+n) st3 (by lia) (by lia) (by lia);have d4:=d3.turn q3 (by lia) (by lia);refine wpS_pure ⟨p3.trans p4,n+1,0,rfl,rfl,by lia,by lia,?_,fun x y u v a1 a2 a3 a4 eu ev=>by obtain rfl:x=y:=(by lia);rw[eu] at ev;cases ev;exact o.le_refl _⟩;obtain⟨p5,e5⟩:∃p5,(arrOf (setArr st3 (mirror (arrOf st3) (lo+n-(q+1)) (lo+n) ((lo+n-(lo+n-(q+1))) / 2))))[lo+n-1]?= some p5:=⟨_,getElem?_pos _ (lo+n-1) (by show _<(mirror _ _ _ _).size;rw[mirror_size];lia)⟩;refine d4.ext (m:=lo+n) o (by lia) e5 (q:=p1) ?_ ?_
      ·show(mirror (arrOf st3) (lo+n-(q+1)) (lo+n) ((lo+n-(lo+n-(q+1))) / 2))[lo+n]?= some p1;rw[getElem?_mirror_all (by lia),if_neg (by lia)];exact e1
      ·have e6:(mirror (arrOf st3) (lo+n-(q+1)) (lo+n) ((lo+n-(lo+n-(q+1))) / 2))[lo+n-1]?= some p5:=e5;rw[getElem?_mirror_all (by lia),if_pos (by lia)] at e6;exact o.le_trans (o.le_of hb) (q3 _ _ p0 p5 (show lo+n-(q+1)<=lo+n-1 by lia) (by lia) (by lia) (by lia) e0 e6)
     ·rw[if_neg q0];exact wpS_pure ⟨p3,n+1,0,rfl,rfl,by lia,by lia,d3.ext (m:=lo+n) o (by lia) e0 e1 (o.le_of hb),fun x y u v a1 a2 a3 a4 eu ev=>by obtain rfl:x=y:=(by lia);rw[eu] at ev;cases ev;exact o.le_refl _⟩
    | false =>
     try dsimp only
     rw[if_neg Bool.false_ne_true];refine wpS_bind (Zap hc (p3.pm.kind.trans hk) (p3.pm.ok ho) (by lia) (by lia) fun p0' p1' e0' e1'=>?_);rw[e0] at e0';rw[e1] at e1';cases e0';cases e1';cases hb2:lt p0 p1 with
     | true=>exact wpS_pure ⟨p3,n,q,rfl,m1,by lia,m2,d3,q3⟩
     | false =>
      refine wpS_pure ⟨p3,n+1,q+1,rfl,rfl,by lia,by lia,d3.ext (m:=lo+n) o (by lia) e0 e1 hb2,fun x y u v a1 a2 a3 a4 eu ev=>?_⟩;have one:∀x u,lo+(n+1)-(q+1+1)<=x->x<lo+(n+1)->(arrOf st3)[x]?= some u->Le lt u p0/\Le lt p0 u:=fun x u a1 a2 eu=>by
       by_cases hx:x=lo+n
       ·rw[hx,e1] at eu;cases eu;exact⟨hb2,hb⟩
       ·exact⟨q3 x (lo+n-1) u p0 (by lia) (by lia) (by lia) (by lia) eu e0,q3 (lo+n-1) x p0 u (by lia) (by lia) (by lia) (by lia) e0 eu⟩
      exact o.le_trans (one x u a1 a2 eu).1 (one y v a3 a4 ev).2
   ·rintro c st3 ⟨p3,n',q,rfl,rfl,m1,m2,d3,q3⟩;exact⟨p3,_,q,rfl,m1,by lia,m2,d3,q3⟩
   ·rintro c st3 ⟨p3,n,q,rfl,m1,mn,m2,d3,q3⟩;have z3:=p3.pm.size
    try dsimp only
    by_cases q0:q > 0
    ·rw[if_pos q0];refine wpS_bind (ZaO ?_);have p4:=Pl.mirror (lo:=lo) (hi:=lo+nrem) (i:=lo+n-(q+1)) (j:=lo+n) st3 (by lia) (by lia) (by lia);have d4:=d3.turn q3 (by lia) (by lia);have z4:=p4.pm.size;generalize hst4:setArr st3 (mirror (arrOf st3) (lo+n-(q+1)) (lo+n) ((lo+n-(lo+n-(q+1))) / 2))=st4 at p4 z4;have d5:Dn lt (arrOf st4) lo (lo+n):=by rw[<- hst4];exact d4
     refine wpS_bind (ZaO ?_);have p6:=(p3.trans p4).trans (Pl.mirror (lo:=lo) (hi:=lo+nrem) (i:=lo) (j:=lo+n) st4 (by lia) (by lia) (by lia));have u6:Up lt (arrOf (setArr st4 (mirror (arrOf st4) lo (lo+n) ((lo+n-lo) / 2)))) lo (lo+n):=d5.mirror (by lia);have z6:=p6.pm.size;generalize setArr st4 (mirror (arrOf st4) lo (lo+n) ((lo+n-lo) / 2))=st5 at p6 u6 z6;refine wpS_bind (wpS_mono (wpS_forRange (I:=fun x c st'=>st'=st5/\∃k,c=(none,k)/\k=x/\Up lt (arrOf st5) lo (lo+k)) (Q:=fun c st'=>st'=st5/\∃k,c=(none,k)/\n<=k/\k<=nrem/\Up lt (arrOf st5) lo (lo+k)) ?_ ?_ ⟨rfl,n,rfl,rfl,u6⟩) ?_)
     ·rintro x c st7 hx1 hx2 ⟨rfl,k,rfl,rfl,u7⟩
      try dsimp only
      refine wpS_bind (Zap hc (p6.pm.kind.trans hk) (p6.pm.ok ho) (by lia) (by lia) fun p q e1 e2=>?_);cases hb:lt p q with
      | true=>exact wpS_pure ⟨rfl,k,rfl,by lia,by lia,u7⟩
      | false=>exact wpS_pure ⟨rfl,k+1,rfl,rfl,u7.ext (m:=lo+k) o (by lia) e2 e1 hb⟩
     ·rintro c st7 ⟨rfl,k,rfl,rfl,u7⟩;exact⟨rfl,max n nrem,rfl,by lia,by lia,u7⟩
     ·rintro c st7 ⟨rfl,k,rfl,k1,k2,u7⟩;exact wpS_pure (h k _ (by lia) k2 p6 u7)
    ·rw[if_neg q0];refine wpS_bind (ZaO ?_);have p6:=p3.trans (Pl.mirror (lo:=lo) (hi:=lo+nrem) (i:=lo) (j:=lo+n) st3 (by lia) (by lia) (by lia));have u6:Up lt (arrOf (setArr st3 (mirror (arrOf st3) lo (lo+n) ((lo+n-lo) / 2)))) lo (lo+n):=d3.mirror (by lia);have z6:=p6.pm.size;generalize setArr st3 (mirror (arrOf st3) lo (lo+n) ((lo+n-lo) / 2))=st5 at p6 u6 z6;refine wpS_bind (wpS_mono (wpS_forRange (I:=fun x c st'=>st'=st5/\∃k,c=(none,k)/\k=x/\Up lt (arrOf st5) lo (lo+k)) (Q:=fun c st'=>st'=st5/\∃k,c=(none,k)/\n<=k/\k<=nrem/\Up lt (arrOf st5) lo (lo+k)) ?_ ?_ ⟨rfl,n,rfl,rfl,u6⟩) ?_)
     ·rintro x c st7 hx1 hx2 ⟨rfl,k,rfl,rfl,u7⟩
      try dsimp only
      refine wpS_bind (Zap hc (p6.pm.kind.trans hk) (p6.pm.ok ho) (by lia) (by lia) fun p q e1 e2=>?_);cases hb:lt p q with
      | true=>exact wpS_pure ⟨rfl,k,rfl,by lia,by lia,u7⟩
      | false=>exact wpS_pure ⟨rfl,k+1,rfl,rfl,u7.ext (m:=lo+k) o (by lia) e2 e1 hb⟩
     ·rintro c st7 ⟨rfl,k,rfl,rfl,u7⟩;exact⟨rfl,max n nrem,rfl,by lia,by lia,u7⟩
     ·rintro c st7 ⟨rfl,k,rfl,k1,k2,u7⟩;exact wpS_pure (h k _ (by lia) k2 p6 u7)
end
theorem Zib:∀{l:List (Nat×Nat×Nat)}{lo hi:Nat},Cov l lo hi->∀z∈l,lo<=z.1
 | [],_,_,_,z,hz=>(nomatch hz)
 | x::r,lo,hi,⟨a,b,c⟩,z,hz=>by
  rcases List.mem_cons.mp hz with rfl|hz
  ·lia
  ·have:=Zib c z hz;lia
theorem Zjl:∀{l:List (Nat×Nat×Nat)}{lo hi:Nat},Cov l lo hi->∀z∈l,z.1+z.2.1<=hi
 | [],_,_,_,z,hz=>(nomatch hz)
 | x::r,lo,hi,⟨a,b,c⟩,z,hz=>by
  rcases List.mem_cons.mp hz with rfl|hz
  ·have:=c.le;lia
  ·exact Zjl c z hz
theorem Zdv:∀{l:List (Nat×Nat×Nat)}{i lo hi sa na p sb nb q:Nat},Cov l lo hi->l[i]?= some (sa,na,p)->l[i+1]?= some (sb,nb,q) ->
  ∀z∈(l.set i (sa,na+nb,p)).eraseIdx (i+1),z=(sa,na+nb,p)\/z∈l/\(z.1+z.2.1<=sa\/sb+nb<=z.1)
 | x::y::r,0,lo,hi,sa,na,p,sb,nb,q,⟨a,b,c1,c2,c3⟩,h1,h2,z,hz=>by
  have e1:x=(sa,na,p):=by simpa using h1
  have e2:y=(sb,nb,q):=by simpa using h2
  subst e1;subst e2;have hz':z∈(sa,na+nb,p)::r:=hz;rcases List.mem_cons.mp hz' with hz|hz
  ·exact .inl hz
  ·refine .inr ⟨List.mem_cons_of_mem _ (List.mem_cons_of_mem _ hz),.inr ?_⟩;have:=Zib c3 z hz;have c1':sb=lo+na:=c1;have this':lo+na+nb<=z.1:=this;lia
 | x::r,i+1,lo,hi,sa,na,p,sb,nb,q,⟨a,b,c⟩,h1,h2,z,hz=>by
  have h1':r[i]?= some (sa,na,p):=by simpa using h1
  have hz':z∈x::((r.set i (sa,na+nb,p)).eraseIdx (i+1)):=hz;rcases List.mem_cons.mp hz' with rfl|hz
  ·refine .inr ⟨List.mem_cons_self ..,.inl ?_⟩;have:=Zib c _ (List.mem_of_getElem? h1');have this':lo+z.2.1<=sa:=this;lia
  ·rcases Zdv (l:=r) (i:=i) c h1' (by simpa using h2) z hz with h|⟨h,h'⟩
   ·exact .inl h
   ·exact .inr ⟨List.mem_cons_of_mem _ h,h'⟩
 | [x],0,_,_,_,_,_,_,_,_,_,_,h2,_,_=>by simp at h2
 | [],_,_,_,_,_,_,_,_,_,_,h1,_,_,_=>by simp at h1
theorem Zgj{L r:List Keyed}{m:Nat}(h:m+r.length<=L.length)(x:Nat):(L.take m++r++L.drop (m+r.length))[x]?= if x<m then L[x]? else if x<m+r.length then r[x-m]? else L[x]? := by
 have hm:(L.take m).length=m:=by rw[List.length_take];lia
 by_cases h1:x<m
 ·rw[if_pos h1,List.append_assoc,List.getElem?_append_left (by lia),List.getElem?_take_of_lt h1]
 rw[if_neg h1];by_cases h2:x<m+r.length
 ·rw[if_pos h2,List.getElem?_append_left (by rw[List.length_append];lia),List.getElem?_append_right (by lia),hm]
 ·rw[if_neg h2,List.getElem?_append_right (by rw[List.length_append];lia),List.getElem?_drop,List.length_append,hm]
  congr 1
  lia
section
variable{lt:Keyed->Keyed->Bool}{κ : SortKind}
structure SBL(lt:Keyed->Keyed->Bool)(a₀ : Array Keyed)(κ : SortKind)(hi:Nat)(st:SortSt):Prop where
 sb:SB a₀ κ hi st
 ups:∀z∈(pendingOf st).toList,Up lt (arrOf st) z.1 (z.1+z.2.1)
theorem Up.same{arr arr':Array Keyed}{i j:Nat}(h:Up lt arr i j)(e:∀x,i<=x->x<j->arr'[x]?= arr[x]?):Up lt arr' i j:=fun x y p q h1 h2 h3 ep eq=>by
 rw[e x (by lia) (by lia)] at ep;rw[e y (by lia) (by lia)] at eq;exact h x y p q h1 h2 h3 ep eq
theorem SBL.pl{a₀ : Array Keyed}{hi hi':Nat}{st st':SortSt}(x:SBL lt a₀ κ hi st)(p:Pl hi hi' st st'):SBL lt a₀ κ hi st':=⟨x.sb.pm p.pm,fun z hz=>by
 rw[p.pm.pend] at hz;have h1:=Zjl x.sb.cov z hz;exact(x.ups z hz).same fun i _ h=>p.out i (.inl (by lia))⟩
end
section
variable{prog:Program}{w:World}{A:Around}{E:Value->Shared->Prop}{s:Shared}{κ : SortKind}{Ok:Keyed->Prop}{st:SortSt}{lt:Keyed->Keyed->Bool}
set_option maxHeartbeats 4000000 in
theorem Zbd{a₀ : Array Keyed}{hi i:Nat}{Q:Bool->SortSt->Prop}(o:Swo lt)(hc:Zgq prog w A s κ Ok lt)(h0:∀p∈a₀.toList,Ok p)(hL:SBL lt a₀ κ hi st)(hh:hi<=a₀.size)(hi1:i+1<(pendingOf st).size)
  (h:∀st',SBL lt a₀ κ hi st'->(∀x,hi<=x->(arrOf st')[x]?= (arrOf st)[x]?)->(pendingOf st').size+1=(pendingOf st).size->Q true st'):wpS (model prog w) A E s (mergeAt' i) Q st:=by
 have hB:=hL.sb;refine wpS_bind (wpS_get ?_);obtain⟨⟨sa,na,p⟩,e1⟩:∃x,(pendingOf st)[i]?= some x:=⟨_,getElem?_pos _ i (by lia)⟩;obtain⟨⟨sb,nb,q⟩,e2⟩:∃x,(pendingOf st)[i+1]?= some x:=⟨_,getElem?_pos _ (i+1) hi1⟩;obtain⟨k1,k2,k3,k4,k5⟩:=hB.cov.at (i:=i) (by rw[<- e1];simp) (by rw[<- e2];simp);have e3:((pendingOf st)[i]?,(pendingOf st)[i+1]?)=(some (sa,na,p),some (sb,nb,q)):=by rw[e1,e2]
 have hsz:=hB.size;have l1:(pendingOf st).toList[i]?= some (sa,na,p):=by rw[<- e1];simp
 have l2:(pendingOf st).toList[i+1]?= some (sb,nb,q):=by rw[<- e2];simp
 have ua:Up lt (arrOf st) sa (sa+na):=hL.ups _ (List.mem_of_getElem? l1);have ub:Up lt (arrOf st) sb (sb+nb):=hL.ups _ (List.mem_of_getElem? l2);have oth:=Zdv hB.cov l1 l2;show wpS _ _ _ _ (match ((pendingOf st)[i]?,(pendingOf st)[i+1]?) with|(some (sa,na,power),some (sb,nb,_))=>_|_=>_) Q st
 rw[e1,e2];dsimp only;have hpl:(((pendingOf st).setIfInBounds i (sa,na+nb,p)).eraseIdxIfInBounds (i+1)).toList=((pendingOf st).toList.set i (sa,na+nb,p)).eraseIdx (i+1):=by
  simp
 have hps:((((pendingOf st).setIfInBounds i (sa,na+nb,p)).eraseIdxIfInBounds (i+1)).size+1=(pendingOf st).size):=by
  have:=congrArg List.length hpl;rw[Array.length_toList,List.length_eraseIdx,List.length_set,Array.length_toList,if_pos hi1] at this;lia
 have hB1:SB a₀ κ hi (SortSt.mk' (kindOf st) (arrOf st) (((pendingOf st).setIfInBounds i (sa,na+nb,p)).eraseIdxIfInBounds (i+1)) (gallopOf st) (failedOf st)):=⟨hB.arr,hB.kind,hB.fail,by
  show Cov (((pendingOf st).setIfInBounds i (sa,na+nb,p)).eraseIdxIfInBounds (i+1)).toList 0 hi;rw[hpl];exact k5⟩
 have hok:=hB.ok h0;have fin:∀st':SortSt,SB a₀ κ hi st'->(pendingOf st').toList=((pendingOf st).toList.set i (sa,na+nb,p)).eraseIdx (i+1)->(∀x,x<sa\/sb+nb<=x->(arrOf st')[x]?= (arrOf st)[x]?)->Up lt (arrOf st') sa (sa+(na+nb))->SBL lt a₀ κ hi st':=fun st' hB' hp he hu=>⟨hB',fun z hz=>by
  rw[hp] at hz;rcases oth z hz with rfl|⟨hz,hd⟩
  ·exact hu
  ·exact(hL.ups z hz).same fun x h1 h2=>he x (by lia)⟩
 have exm:∀(arr:Array Keyed)(x y:Nat){p:Keyed},p∈(arr.extract x y).toList->p∈arr.toList:=fun arr x y p hp=>by
  rw[Array.toList_extract,List.extract_eq_drop_take] at hp;exact List.mem_of_mem_drop (List.mem_of_mem_take hp)
 refine wpS_bind (Zj0 ?_);refine wpS_bind (ZQ (arr:=arrOf st) (by lia) fun p1 m1 ep1=>?_);refine wpS_bind (Zar (a:=arrOf st) o hc hB1.kind (hok p1 m1) hok (by lia) (by lia) ua fun k hk F1 F2=>?_);dsimp only;have low1:∀i u,i<k->(arrOf st)[sa+i]?= some u->Le lt u p1:=fun i u hi eu=>by
  have h3:=F1 i hi;unfold BV at h3;rw[eu] at h3;have h4:(!lt p1 u)=true:=h3;show lt p1 u=false
  simpa using h4
 have hig1:∀i u,k<=i->i<na->(arrOf st)[sa+i]?= some u->Le lt p1 u:=fun i u h1 h2 eu=>by
  have h3:=F2 i h1 h2;unfold BV at h3;rw[eu] at h3;have h4:(!lt p1 u)=false:=h3;exact o.le_of (by simpa using h4)
 have p1le:∀y v,sb<=y->y<sb+nb->(arrOf st)[y]?= some v->Le lt p1 v:=fun y v h1 h2 ev=>by
  by_cases e:y=sb
  ·rw[e,ep1] at ev;cases ev;exact o.le_refl _
  ·exact ub sb y p1 v (by lia) (by lia) h2 ep1 ev
 by_cases c1:(na-k == 0)=true
 ·rw[if_pos c1];have ek:k=na:=by
   have:=eq_of_beq c1;lia
  refine wpS_pure (h _ (fin _ hB1 hpl (fun _ _=>rfl) ?_) (fun _ _=>rfl) hps);intro x y u v a1 a2 a3 eu ev;have eu':(arrOf st)[x]?= some u:=eu;have ev':(arrOf st)[y]?= some v:=ev;by_cases hy:y<sb
  ·exact ua x y u v a1 a2 (by lia) eu' ev'
  by_cases hx:sb<=x
  ·exact ub x y u v hx a2 (by lia) eu' ev'
  exact o.le_trans (low1 (x-sa) u (by lia) (by rw[show sa+(x-sa)=x by lia];exact eu')) (p1le y v (by lia) (by lia) ev')
 rw[if_neg c1];have n1 : ¬ na-k=0:=fun e=>c1 (by simp[e]);refine wpS_bind (ZQ (arr:=arrOf st) (by lia) fun p2 m2 ep2=>?_);refine wpS_bind (Zar (a:=arrOf st) o hc hB1.kind (hok p2 m2) hok (by lia) (by lia) ub fun nb' hnb G1 G2=>?_);dsimp only;have ep2':(arrOf st)[sb-1]?= some p2:=by
  rw[<- ep2]
  congr 1
  lia
 have lep2:∀x u,sa<=x->x<sb->(arrOf st)[x]?= some u->Le lt u p2:=fun x u h1 h2 eu=>by
  by_cases e:x=sb-1
  ·rw[e,ep2'] at eu;cases eu;exact o.le_refl _
  ·exact ua x (sb-1) u p2 h1 (by lia) (by lia) eu ep2'
 have low2:∀i u,i<nb'->(arrOf st)[sb+i]?= some u->Le lt u p2:=fun i u hi eu=>by
  have h3:=G1 i hi;unfold BV at h3;rw[eu] at h3;exact o.le_of h3
 have hig2:∀i u,nb'<=i->i<nb->(arrOf st)[sb+i]?= some u->Le lt p2 u:=fun i u h1 h2 eu=>by
  have h3:=G2 i h1 h2;unfold BV at h3;rw[eu] at h3;exact h3
 by_cases c2:(nb' == 0)=true
 ·rw[if_pos c2];have ek:nb'=0:=eq_of_beq c2;refine wpS_pure (h _ (fin _ hB1 hpl (fun _ _=>rfl) ?_) (fun _ _=>rfl) hps);intro x y u v a1 a2 a3 eu ev;have eu':(arrOf st)[x]?= some u:=eu;have ev':(arrOf st)[y]?= some v:=ev;by_cases hy:y<sb
  ·exact ua x y u v a1 a2 (by lia) eu' ev'
  by_cases hx:sb<=x
  ·exact ub x y u v hx a2 (by lia) eu' ev'
  exact o.le_trans (lep2 x u a1 (by lia) eu') (hig2 (y-sb) v (by lia) (by lia) (by rw[show sb+(y-sb)=y by lia];exact ev'))
 rw[if_neg c2];have n2 : ¬ nb'=0:=fun e=>c2 (by simp[e]);have xs:((arrOf st).extract (sa+k) sb).size=na-k:=by
  rw[Array.size_extract];lia
 have ys:((arrOf st).extract sb (sb+nb')).size=nb':=by
  rw[Array.size_extract];lia
 have SX:So lt ((arrOf st).extract (sa+k) sb).toList:=List.pairwise_iff_getElem.mpr fun x y hx hy hxy=>by
  rw[Array.length_toList] at hx hy;have ex:((arrOf st).extract (sa+k) sb)[x]?= (arrOf st)[sa+k+x]? := by rw[Array.getElem?_extract,if_pos (by lia)]
  have ey:((arrOf st).extract (sa+k) sb)[y]?= (arrOf st)[sa+k+y]? := by rw[Array.getElem?_extract,if_pos (by lia)]
  rw[<- Array.getElem?_toList,List.getElem?_eq_getElem (by rw[Array.length_toList];exact hx)] at ex;rw[<- Array.getElem?_toList,List.getElem?_eq_getElem (by rw[Array.length_toList];exact hy)] at ey;exact ua _ _ _ _ (by lia) (show sa+k+x<sa+k+y by lia) (by lia) ex.symm ey.symm
 have SY:So lt ((arrOf st).extract sb (sb+nb')).toList:=List.pairwise_iff_getElem.mpr fun x y hx hy hxy=>by
  rw[Array.length_toList] at hx hy;have ex:((arrOf st).extract sb (sb+nb'))[x]?= (arrOf st)[sb+x]? := by rw[Array.getElem?_extract,if_pos (by lia)]
  have ey:((arrOf st).extract sb (sb+nb'))[y]?= (arrOf st)[sb+y]? := by rw[Array.getElem?_extract,if_pos (by lia)]
  rw[<- Array.getElem?_toList,List.getElem?_eq_getElem (by rw[Array.length_toList];exact hx)] at ex;rw[<- Array.getElem?_toList,List.getElem?_eq_getElem (by rw[Array.length_toList];exact hy)] at ey;exact ub _ _ _ _ (by lia) (show sb+x<sb+y by lia) (by lia) ex.symm ey.symm
 have HB0:∀p,((arrOf st).extract sb (sb+nb'))[0]?= some p->∀y∈((arrOf st).extract (sa+k) sb).toList,Le lt p y:=fun p ep y hy=>by
  rw[Array.getElem?_extract,if_pos (by lia),Nat.add_zero,ep1] at ep;cases ep;obtain⟨m,h1,h2,e⟩:=Zbh hy;exact hig1 (m-sa) y (by lia) (by lia) (by rw[show sa+(m-sa)=m by lia];exact e)
 have HLA:∀x∈((arrOf st).extract sb (sb+nb')).toList,∀q,((arrOf st).extract (sa+k) sb)[((arrOf st).extract (sa+k) sb).size-1]?= some q->Le lt x q:=fun x hx q eq=>by
  rw[xs,Array.getElem?_extract,if_pos (by lia),show sa+k+(na-k-1)=sb-1 by lia,ep2'] at eq;cases eq;obtain⟨m,h1,h2,e⟩:=Zbh hx;exact low2 (m-sb) x (by lia) (by rw[show sb+(m-sb)=m by lia];exact e)
 have whole:∀(r:Array Keyed)(arr':Array Keyed),Rs lt ((arrOf st).extract (sa+k) sb) ((arrOf st).extract sb (sb+nb')) r->r.toList.length=(na-k)+nb'->arr'.toList=(arrOf st).toList.take (sa+k)++r.toList++(arrOf st).toList.drop (sa+k+r.toList.length) ->
   (∀x,x<sa\/sb+nb<=x->arr'[x]?= (arrOf st)[x]?)/\Up lt arr' sa (sa+(na+nb)):=fun r arr' hr hrl ha=>by
  have get:∀x,arr'[x]?= if x<sa+k then(arrOf st)[x]? else if x<sa+k+r.toList.length then r.toList[x-(sa+k)]? else(arrOf st)[x]? := fun x=>by
   rw[<- Array.getElem?_toList,ha,Zgj (by have hll:(arrOf st).toList.length=(arrOf st).size:=Array.length_toList;lia),Array.getElem?_toList]
  have inr:∀u,u∈r.toList->(∃m,sa+k<=m/\m<sb/\(arrOf st)[m]?= some u)\/∃m,sb<=m/\m<sb+nb'/\(arrOf st)[m]?= some u:=fun u hu=>by
   rcases List.mem_append.mp (hr.perm.mem_iff.mp hu) with hu|hu
   ·exact .inl (Zbh hu)
   ·exact .inr (Zbh hu)
  refine⟨fun x hx=>?_,fun x y u v a1 a2 a3 eu ev=>?_⟩
  ·rw[get];by_cases h1:x<sa+k
   ·rw[if_pos h1]
   ·rw[if_neg h1,if_neg (by lia)]
  rw[get] at eu ev;by_cases hx1:x<sa+k
  ·rw[if_pos hx1] at eu;have hu1:=low1 (x-sa) u (by lia) (by rw[show sa+(x-sa)=x by lia];exact eu);by_cases hy1:y<sa+k
   ·rw[if_pos hy1] at ev;exact ua x y u v a1 a2 (by lia) eu ev
   rw[if_neg hy1] at ev;by_cases hy2:y<sa+k+r.toList.length
   ·rw[if_pos hy2] at ev;rcases inr v (List.mem_of_getElem? ev) with⟨m,b1,b2,e⟩|⟨m,b1,b2,e⟩
    ·exact ua x m u v a1 (by lia) (by lia) eu e
    ·exact o.le_trans hu1 (p1le m v b1 (by lia) e)
   ·rw[if_neg hy2] at ev;exact o.le_trans hu1 (p1le y v (by lia) (by lia) ev)
  rw[if_neg hx1] at eu;rw[if_neg (by lia)] at ev;by_cases hx2:x<sa+k+r.toList.length
  ·rw[if_pos hx2] at eu;by_cases hy2:y<sa+k+r.toList.length
   ·rw[if_pos hy2] at ev;obtain⟨hx3,rfl⟩:=List.getElem?_eq_some_iff.mp eu;obtain⟨hy3,rfl⟩:=List.getElem?_eq_some_iff.mp ev;exact(List.pairwise_iff_getElem.mp hr.sort) _ _ hx3 hy3 (by lia)
   ·rw[if_neg hy2] at ev;rcases inr u (List.mem_of_getElem? eu) with⟨m,b1,b2,e⟩|⟨m,b1,b2,e⟩
    ·exact o.le_trans (lep2 m u (by lia) b2 e) (hig2 (y-sb) v (by lia) (by lia) (by rw[show sb+(y-sb)=y by lia];exact ev))
    ·exact ub m y u v b1 (by lia) (by lia) e ev
  ·rw[if_neg hx2] at eu;rw[if_neg (by lia)] at ev;exact ub x y u v (by lia) a2 (by lia) eu ev
 by_cases c3:na-k<=nb'
 ·rw[if_pos c3];refine wpS_bind (ZeB (a:=(arrOf st).extract (sa+k) sb) (b:=(arrOf st).extract sb (sb+nb')) o hc hB1.kind (fun p hp=>hok p (exm _ _ _ hp)) (fun p hp=>hok p (exm _ _ _ hp)) (by rw[xs];lia) (by rw[ys];lia) SX SY HB0 HLA fun r st2 lk hr=>?_);refine wpS_bind (wpS_modify ?_);refine wpS_bind (wpS_get ?_);have hf:failedOf st2=none:=lk.fail.trans hB.fail;have hr2:r.toList.Perm (((arrOf st).toList.drop (sa+k)).take ((na-k)+nb')):=by
   refine hr.perm.trans (List.Perm.of_eq ?_);rw[Array.toList_extract,Array.toList_extract,Zi9 _ (by lia) (by lia)]
   congr 1
   lia
  have hrl:r.toList.length=(na-k)+nb':=by
   rw[hr2.length_eq,List.length_take,List.length_drop,Array.length_toList];lia
  show wpS _ _ _ _ (pure (failedOf st2).isNone) Q _;rw[hf];have hnew:(List.foldl (fun(a:Array Keyed)(x:Keyed×Nat)=>a.setIfInBounds (sa+k+x.2) x.1) (arrOf st2) r.toList.zipIdx).toList=(arrOf st).toList.take (sa+k)++r.toList++(arrOf st).toList.drop (sa+k+r.toList.length):=by
   rw[lk.arr,Zg5 _ _ _ (by show sa+k+r.toList.length<=(arrOf st).size;lia)]
  obtain⟨w1,w2⟩:=whole r _ hr hrl hnew;refine wpS_pure (h _ (fin _ ⟨?_,lk.kind.trans hB.kind,hf,?_⟩ (by show(pendingOf st2).toList=_;rw[lk.pend];exact hpl) w1 w2) (fun x hx=>w1 x (.inr (by lia))) ?_)
  ·show(List.foldl (fun(a:Array Keyed)(x:Keyed×Nat)=>a.setIfInBounds (sa+k+x.2) x.1) (arrOf st2) r.toList.zipIdx).toList.Perm a₀.toList;rw[hnew];exact(Zf5 hr2 hrl).trans hB.arr
  ·show Cov (pendingOf st2).toList 0 hi;rw[lk.pend];exact hB1.cov
  ·show(pendingOf st2).size+1=_;rw[lk.pend];exact hps
 ·rw[if_neg c3];refine wpS_bind (ZeR (a:=(arrOf st).extract (sa+k) sb) (b:=(arrOf st).extract sb (sb+nb')) o hc hB1.kind (fun p hp=>hok p (exm _ _ _ hp)) (fun p hp=>hok p (exm _ _ _ hp)) (by rw[xs];lia) (by rw[ys];lia) SX SY HB0 HLA fun r st2 lk hr=>?_);refine wpS_bind (wpS_modify ?_);refine wpS_bind (wpS_get ?_);have hf:failedOf st2=none:=lk.fail.trans hB.fail;have hr2:r.toList.Perm (((arrOf st).toList.drop (sa+k)).take ((na-k)+nb')):=by
   refine hr.perm.trans (List.Perm.of_eq ?_);rw[Array.toList_extract,Array.toList_extract,Zi9 _ (by lia) (by lia)]
   congr 1
   lia
  have hrl:r.toList.length=(na-k)+nb':=by
   rw[hr2.length_eq,List.length_take,List.length_drop,Array.length_toList];lia
  show wpS _ _ _ _ (pure (failedOf st2).isNone) Q _;rw[hf];have hnew:(List.foldl (fun(a:Array Keyed)(x:Keyed×Nat)=>a.setIfInBounds (sa+k+x.2) x.1) (arrOf st2) r.toList.zipIdx).toList=(arrOf st).toList.take (sa+k)++r.toList++(arrOf st).toList.drop (sa+k+r.toList.length):=by
   rw[lk.arr,Zg5 _ _ _ (by show sa+k+r.toList.length<=(arrOf st).size;lia)]
  obtain⟨w1,w2⟩:=whole r _ hr hrl hnew;refine wpS_pure (h _ (fin _ ⟨?_,lk.kind.trans hB.kind,hf,?_⟩ (by show(pendingOf st2).toList=_;rw[lk.pend];exact hpl) w1 w2) (fun x hx=>w1 x (.inr (by lia))) ?_)
  ·show(List.foldl (fun(a:Array Keyed)(x:Keyed×Nat)=>a.setIfInBounds (sa+k+x.2) x.1) (arrOf st2) r.toList.zipIdx).toList.Perm a₀.toList;rw[hnew];exact(Zf5 hr2 hrl).trans hB.arr
  ·show Cov (pendingOf st2).toList 0 hi;rw[lk.pend];exact hB1.cov
  ·show(pendingOf st2).size+1=_;rw[lk.pend];exact hps
end
section
variable{prog:Program}{w:World}{A:Around}{E:Value->Shared->Prop}{s:Shared}{κ : SortKind}{Ok:Keyed->Prop}{st:SortSt}{lt:Keyed->Keyed->Bool}
set_option maxHeartbeats 4000000 in
theorem Zhp{a₀ : Array Keyed}{Q:Unit->SortSt->Prop}(o:Swo lt)(hc:Zgq prog w A s κ Ok lt)(h0:∀p∈a₀.toList,Ok p)(hB:SBL lt a₀ κ 0 st)(h:∀st',(arrOf st').toList.Perm a₀.toList->So lt (arrOf st').toList->failedOf st'=none->Q () st'):wpS (model prog w) A E s sortRuns' Q st:=by
 refine wpS_bind (wpS_get ?_);have hsz:=hB.sb.size;show wpS _ _ _ _ (forIn [:(arrOf st).size] _ _ >>= _) Q st;rw[hsz];refine wpS_bind (wpS_mono (wpS_forRange (I:=fun x c st'=>∃lo,c=(none,lo)/\lo<=a₀.size/\SBL lt a₀ κ lo st'/\x<=lo) (Q:=fun c st'=>∃lo,c=(none,lo)/\lo=a₀.size/\SBL lt a₀ κ lo st') ?_ (fun c st' ⟨lo,z1,z2,z3,z4⟩=>⟨lo,z1,by lia,z3⟩) ⟨0,rfl,Nat.zero_le _,hB,Nat.le_refl _⟩) ?_)
 ·rintro x c st1 _ hx ⟨lo,rfl,hlo,hB1,hxl⟩
  try dsimp only
  by_cases c1:lo>=a₀.size
  ·rw[if_pos c1];exact wpS_pure ⟨lo,rfl,by lia,hB1⟩
  rw[if_neg c1];have hs1:=hB1.sb.size;refine wpS_bind (ZgA o hc hB1.sb.kind (hB1.sb.ok h0) (by lia) (by lia) fun n st2 n1 n2 p2 u2=>?_);have hB2:=hB1.pl p2;have hs2:=hB2.sb.size
  try dsimp only
  show wpS _ _ _ _ (if n<minRun' a₀.size a₀.size 0 then _ else _) _ st2
  by_cases c2:n<minRun' a₀.size a₀.size 0
  ·rw[if_pos c2];refine wpS_bind (wpS_lift (wpAny_rule ⟨rfl,?_⟩));refine wpS_bind (Zfl o hc hB2.sb.kind (hB2.sb.ok h0) (by show lo+min (a₀.size-lo) (minRun' a₀.size a₀.size 0)<=_;lia) (by show n<=min (a₀.size-lo) (minRun' a₀.size a₀.size 0);lia) (by show 1<=min (a₀.size-lo) (minRun' a₀.size a₀.size 0);lia) u2 fun st3 p3 u3=>?_);rw[if_neg (by decide)];have hB3:=hB2.pl p3;have u3':Up lt (arrOf st3) lo (lo+min (a₀.size-lo) (minRun' a₀.size a₀.size 0)):=u3;have hN:1<=min (a₀.size-lo) (minRun' a₀.size a₀.size 0):=by lia
   refine wpS_bind (wpS_get ?_);cases hb:(pendingOf st3).back? with
   | none =>
    dsimp only;refine wpS_bind (wpS_modify ?_);refine wpS_pure ⟨lo+min (a₀.size-lo) (minRun' a₀.size a₀.size 0),rfl,by lia,⟨⟨hB3.sb.arr,hB3.sb.kind,hB3.sb.fail,?_⟩,fun z hz=>?_⟩,by lia⟩
    ·show Cov ((pendingOf st3).push (lo,min (a₀.size-lo) (minRun' a₀.size a₀.size 0),0)).toList 0 (lo+min (a₀.size-lo) (minRun' a₀.size a₀.size 0));rw[Array.toList_push];exact hB3.sb.cov.push hN
    ·have hz':z∈((pendingOf st3).push (lo,min (a₀.size-lo) (minRun' a₀.size a₀.size 0),0)).toList:=hz;rw[Array.toList_push] at hz';rcases List.mem_append.mp hz' with hz'|hz'
     ·exact hB3.ups z hz'
     ·rw[List.mem_singleton.mp hz'];exact u3'
   | some t =>
    obtain⟨s1,n1,q⟩:=t;dsimp only;refine wpS_bind (wpS_mono (wpS_forRange (I:=fun _ c st'=>c=(none,())/\SBL lt a₀ κ lo st'/\∀x,lo<=x->(arrOf st')[x]?= (arrOf st3)[x]?) (Q:=fun c st'=>c=(none,())/\SBL lt a₀ κ lo st'/\∀x,lo<=x->(arrOf st')[x]?= (arrOf st3)[x]?) ?_ (fun _ _ z=>z) ⟨rfl,hB3,fun _ _=>rfl⟩) ?_)
    ·rintro y c st4 _ _ ⟨rfl,hB4,hO4⟩;refine wpS_bind (wpS_get ?_);by_cases g1:(pendingOf st4).size > 1
     ·rw[if_pos g1];obtain⟨⟨a1,a2,older⟩,e⟩:∃x,(pendingOf st4)[(pendingOf st4).size-2]?= some x:=⟨_,getElem?_pos _ _ (by lia)⟩;rw[e];dsimp only
      split
      ·exact wpS_pure ⟨rfl,hB4,hO4⟩
      ·refine wpS_bind (Zbd o hc h0 hB4 hlo (by show(pendingOf st4).size-2+1<(pendingOf st4).size;lia) fun st5 hB5 hO5 _=>?_);rw[if_neg (by decide)];exact wpS_pure ⟨rfl,hB5,fun x hx=>(hO5 x hx).trans (hO4 x hx)⟩
     ·rw[if_neg g1];exact wpS_pure ⟨rfl,hB4,hO4⟩
    ·rintro c st4 ⟨rfl,hB4,hO4⟩;dsimp only;refine wpS_bind (wpS_modify ?_);refine wpS_bind (wpS_modify ?_);refine wpS_pure ⟨lo+min (a₀.size-lo) (minRun' a₀.size a₀.size 0),rfl,by lia,⟨⟨hB4.sb.arr,hB4.sb.kind,hB4.sb.fail,?_⟩,fun z hz=>?_⟩,by lia⟩
     ·show Cov (Array.push ((pendingOf st4).modify _ _) (lo,min (a₀.size-lo) (minRun' a₀.size a₀.size 0),0)).toList 0 (lo+min (a₀.size-lo) (minRun' a₀.size a₀.size 0));rw[Array.toList_push,Array.toList_modify];refine Cov.push ?_ hN;refine Cov.last _ (fun x=>?_) _ hB4.sb.cov;exact⟨rfl,rfl⟩
     ·change z∈(Array.push ((pendingOf st4).modify _ _) (lo,min (a₀.size-lo) (minRun' a₀.size a₀.size 0),0)).toList at hz;rw[Array.toList_push,Array.toList_modify] at hz;rcases List.mem_append.mp hz with hz|hz
      ·obtain⟨i,hi⟩:=List.mem_iff_getElem?.mp hz;rw[List.getElem?_modify] at hi;obtain⟨z0,hz0,rfl⟩:=Option.map_eq_some_iff.mp hi;have h1:=hB4.ups z0 (List.mem_of_getElem? hz0)
       split
       ·exact h1
       ·exact h1
      ·rw[List.mem_singleton.mp hz];exact u3'.same fun x h1 _=>hO4 x h1
  ·rw[if_neg c2];have hB3:=hB2;have hN:=n1;have u3':=u2;refine wpS_bind (wpS_get ?_);cases hb:(pendingOf st2).back? with
   | none =>
    dsimp only;refine wpS_bind (wpS_modify ?_);refine wpS_pure ⟨lo+n,rfl,by lia,⟨⟨hB3.sb.arr,hB3.sb.kind,hB3.sb.fail,?_⟩,fun z hz=>?_⟩,by lia⟩
    ·show Cov ((pendingOf st2).push (lo,n,0)).toList 0 (lo+n);rw[Array.toList_push];exact hB3.sb.cov.push hN
    ·have hz':z∈((pendingOf st2).push (lo,n,0)).toList:=hz;rw[Array.toList_push] at hz';rcases List.mem_append.mp hz' with hz'|hz'
     ·exact hB3.ups z hz'
     ·rw[List.mem_singleton.mp hz'];exact u3'
   | some t =>
    obtain⟨s1,n1,q⟩:=t;dsimp only;refine wpS_bind (wpS_mono (wpS_forRange (I:=fun _ c st'=>c=(none,())/\SBL lt a₀ κ lo st'/\∀x,lo<=x->(arrOf st')[x]?= (arrOf st2)[x]?) (Q:=fun c st'=>c=(none,())/\SBL lt a₀ κ lo st'/\∀x,lo<=x->(arrOf st')[x]?= (arrOf st2)[x]?) ?_ (fun _ _ z=>z) ⟨rfl,hB3,fun _ _=>rfl⟩) ?_)
    ·rintro y c st4 _ _ ⟨rfl,hB4,hO4⟩;refine wpS_bind (wpS_get ?_);by_cases g1:(pendingOf st4).size > 1
     ·rw[if_pos g1];obtain⟨⟨a1,a2,older⟩,e⟩:∃x,(pendingOf st4)[(pendingOf st4).size-2]?= some x:=⟨_,getElem?_pos _ _ (by lia)⟩;rw[e];dsimp only
      split
      ·exact wpS_pure ⟨rfl,hB4,hO4⟩
      ·refine wpS_bind (Zbd o hc h0 hB4 hlo (by show(pendingOf st4).size-2+1<(pendingOf st4).size;lia) fun st5 hB5 hO5 _=>?_);rw[if_neg (by decide)];exact wpS_pure ⟨rfl,hB5,fun x hx=>(hO5 x hx).trans (hO4 x hx)⟩
     ·rw[if_neg g1];exact wpS_pure ⟨rfl,hB4,hO4⟩
    ·rintro c st4 ⟨rfl,hB4,hO4⟩;dsimp only;refine wpS_bind (wpS_modify ?_);refine wpS_bind (wpS_modify ?_);refine wpS_pure ⟨lo+n,rfl,by lia,⟨⟨hB4.sb.arr,hB4.sb.kind,hB4.sb.fail,?_⟩,fun z hz=>?_⟩,by lia⟩
     ·show Cov (Array.push ((pendingOf st4).modify _ _) (lo,n,0)).toList 0 (lo+n);rw[Array.toList_push,Array.toList_modify];refine Cov.push ?_ hN;refine Cov.last _ (fun x=>?_) _ hB4.sb.cov;exact⟨rfl,rfl⟩
     ·change z∈(Array.push ((pendingOf st4).modify _ _) (lo,n,0)).toList at hz;rw[Array.toList_push,Array.toList_modify] at hz;rcases List.mem_append.mp hz with hz|hz
      ·obtain⟨i,hi⟩:=List.mem_iff_getElem?.mp hz;rw[List.getElem?_modify] at hi;obtain⟨z0,hz0,rfl⟩:=Option.map_eq_some_iff.mp hi;have h1:=hB4.ups z0 (List.mem_of_getElem? hz0)
       split
       ·exact h1
       ·exact h1
      ·rw[List.mem_singleton.mp hz];exact u3'.same fun x h1 _=>hO4 x h1
 ·rintro c st1 ⟨lo,rfl,rfl,hB1⟩
  try dsimp only
  refine wpS_bind (wpS_mono (wpS_forRange (I:=fun x c st'=>c=(none,())/\SBL lt a₀ κ a₀.size st'/\(pendingOf st').size+x<=a₀.size+1) (Q:=fun c st'=>c=(none,())/\SBL lt a₀ κ a₀.size st'/\(pendingOf st').size<=1) ?_ (fun c st' ⟨z1,z2,z3⟩=>⟨z1,z2,by lia⟩) ⟨rfl,hB1,by have:=hB1.sb.cov.le;rw[Array.length_toList] at this;lia⟩) ?_)
  ·rintro x c st2 _ _ ⟨rfl,hB2,hp2⟩
   try dsimp only
   refine wpS_bind (wpS_get ?_)
   try dsimp only
   by_cases c2:(pendingOf st2).size<=1
   ·rw[if_pos c2];exact wpS_pure ⟨rfl,hB2,c2⟩
   ·rw[if_neg c2];have hx:∀b:Bool,(if b=true then(pendingOf st2).size-2-1 else(pendingOf st2).size-2)+1<(pendingOf st2).size:=fun b=>by
     cases b
     ·rw[if_neg Bool.false_ne_true];lia
     ·rw[if_pos rfl];lia
    refine wpS_bind (Zbd o hc h0 hB2 (Nat.le_refl _) (hx _) fun st3 hB3 _ hs3=>?_);rw[if_neg (by decide)];exact wpS_pure ⟨rfl,hB3,by lia⟩
  ·rintro c st2 ⟨rfl,hB2,hp2⟩;refine wpS_pure (h st2 hB2.sb.arr ?_ hB2.sb.fail);have hz2:=hB2.sb.size;have hcov:=hB2.sb.cov;have hups:=hB2.ups;have hpl:(pendingOf st2).toList.length<=1:=by rw[Array.length_toList];exact hp2
   match hl:(pendingOf st2).toList,hpl with
   | [],_ =>
    rw[hl] at hcov;have h0:0=a₀.size:=hcov;refine Zk1 (n:=0) (fun x y _ _ _ _ h3=>by lia) (by lia)
   | [z],_ =>
    rw[hl] at hcov hups;obtain⟨z1,z2,z3⟩:=hcov;have z3':0+z.2.1=a₀.size:=z3;have hu:=hups z (List.mem_singleton.mpr rfl);rw[z1,z3'] at hu;exact Zk1 hu (by lia)
end
end Srd
namespace Srd
open PySem PyProof.Rows Srt PySem.W
section
variable{prog:Program}{w:World}{A:Around}{E:Value->Shared->Prop}{s:Shared}
def Zb8(prog:Program)(w:World)(A:Around)(lv:Value->Value->Bool)(vs:List Value)(s:Shared):Prop :=
 ∃ κ,(∀(Q:SortKind->Shared->Prop)(E:Value->Shared->Prop),Q κ s->wpAny (model prog w) A (keyKind' vs.toArray) Q E s)/\Zgq prog w A s κ (fun p=>p∈(pairsOf vs).toList) fun x y=>lv x.1 y.1
theorem Zdf{vs:List Value}{p:Keyed}(h:p∈(pairsOf vs).toList):p.1=p.2:=by
 rw[pairsOf_toList] at h;obtain⟨i,hi⟩:=List.mem_iff_getElem?.mp h;rw[List.getElem?_zip_eq_some] at hi;have:=hi.1.symm.trans hi.2;exact Option.some.inj this
theorem Ziq{lt:Keyed->Keyed->Bool}{vs:List Value}(h:vs.length<2):So lt (pairsOf vs).toList:=List.pairwise_iff_getElem.mpr fun i j hi hj hij=>by
 rw[Array.length_toList,pairsOf_size] at hi hj;lia
theorem Zhl{lv:Value->Value->Bool}{vs:List Value}{xs:Array Keyed}(hp:xs.toList.Perm (pairsOf vs).toList)(h:So (fun x y=>lv x.1 y.1) xs.toList):(xs.map (·.2)).toList.Pairwise (fun u v=>lv v u=false):=by
 rw[Array.toList_map,List.pairwise_map];refine List.Pairwise.imp_of_mem (fun{x y} hx hy hxy=>?_) h;have hxy':lv y.1 x.1=false:=hxy;rw[Zdf (hp.mem_iff.mp hx),Zdf (hp.mem_iff.mp hy)] at hxy';exact hxy'
theorem Zfv{lv:Value->Value->Bool}(o:Swo fun x y=>lv x.1 y.1){a:Addr}{vs:List Value}{n:Nat}{P:Fin->Shared->Prop}(ho:s.heap.get? a=some (seqObj "list" vs.toArray n)) (hlen:vs.length<=90000)
  (hc:∀h6:Heap,(∀b o,b≠a->s.heap.get? b=some o->h6.get? b=some o)->2<=vs.length->Zb8 prog w A lv vs { s with heap:=h6 })
  (h:∀out:Array Value,out.toList.Perm vs->out.toList.Pairwise (fun u v=>lv v u=false)->P (.done (.ret .none)) { s with heap:=sortedHeap s.heap a vs out }):wpAny (model prog w) A (Builtin.«list.sort» ⟨[.ref a],[]⟩) P E s:=by
 have hv:vs.toArray.size<=sizeLine:=by rw[List.size_toArray,sizeLine_eq];lia
 have ha:a<s.heap.objs.size:=Heap.lt_size ho;obtain⟨e1,ho1⟩:∃e1,(s.heap.update a (Obj.mapSeq fun _=>#[])).get? a=some (seqObj "list" #[] e1):=⟨_,get?_update_seq ho (fun _=>#[])⟩;rw[list_sort_plain];refine wpAny_bind (listItems_at ho rfl (wpAny_bind (listUpdate_at ho rfl (wpAny_bind (seqEpoch_at ho1 rfl (wpAny_bind (wpAny_newTuple (wpAny_bind (wpAny_newList (wpAny_holding ?_)))))))  hv (Nat.zero_le _))));have nT:a≠(s.heap.update a (Obj.mapSeq fun _=>#[])).objs.size:=by rw[Heap.size_update];exact Nat.ne_of_lt ha
 have nL:a≠((s.heap.update a (Obj.mapSeq fun _=>#[])).push (seqObj "tuple" vs.toArray 0)).objs.size:=by rw[size_push',Heap.size_update];exact Nat.ne_of_lt (Nat.lt_succ_of_lt ha)
 have ho6:(((s.heap.update a (Obj.mapSeq fun _=>#[])).push (seqObj "tuple" vs.toArray 0)).push (seqObj "list" #[] 0)).get? a=some (seqObj "list" #[] e1):=by
  rw[Heap.get?_push_ne _ _ _ nL,Heap.get?_push_ne _ _ _ nT];exact ho1
 have hkeep:∀b o,b≠a->s.heap.get? b=some o->(((s.heap.update a (Obj.mapSeq fun _=>#[])).push (seqObj "tuple" vs.toArray 0)).push (seqObj "list" #[] 0)).get? b=some o:=fun b o hb e=>by
  refine Heap.get?_push_of_some _ (Heap.get?_push_of_some _ ?_);rw[Heap.get?_update_other _ _ hb.symm];exact e
 show wpAny (model prog w) A _ P E { s with heap:=((s.heap.update a (Obj.mapSeq fun _=>#[])).push (seqObj "tuple" vs.toArray 0)).push (seqObj "list" #[] 0) };dsimp only;by_cases h2:vs.toArray.size<2
 ·rw[if_pos h2,if_pos h2];refine wpAny_bind (wpAny_pure ?_);rw[StateT.run_pure];refine wpAny_bind (wpAny_pure (wpAny_bind (seqEpoch_at ho6 rfl (wpAny_bind (listUpdate_at ho6 rfl ?_ (Nat.zero_le _) ?_)))))
  ·simp only[bne_self_eq_false,Bool.false_eq_true,if_false];exact wpAny_pure (h _ (ZeW (xs:=pairsOf vs) (List.Perm.refl _)) (Zhl (xs:=pairsOf vs) (List.Perm.refl _) (Ziq (by rw[List.size_toArray] at h2;exact h2))))
  ·show((pairsOf vs).map (·.2)).size<=_;rw[Array.size_map,pairsOf_size,sizeLine_eq];lia
 ·rw[if_neg h2,if_neg h2];rw[List.size_toArray] at h2;obtain⟨κ,hkk,hcm⟩:=hc _ hkeep (by lia);refine wpAny_bind (hkk _ _ ?_);refine wpAny_bind (wpAny_mono (Zhp (a₀ := pairsOf vs) (Q:=fun _ st'=>(arrOf st').toList.Perm (pairsOf vs).toList/\So (fun x y=>lv x.1 y.1) (arrOf st').toList/\failedOf st'=none) o hcm (fun p hp=>hp) ⟨⟨List.Perm.refl _,rfl,rfl,rfl⟩,fun z hz=>(nomatch hz)⟩ fun st' a1 a3 a2=>⟨a1,a3,a2⟩) ?_ fun _ _ e=>e)
  rintro⟨⟨⟩,st'⟩ s' ⟨rfl,hp,hso,hf⟩;dsimp only;refine wpAny_bind (seqEpoch_at ho6 rfl (wpAny_bind (listUpdate_at ho6 rfl ?_ (Nat.zero_le _) ?_)))
  ·rw[hf];simp only[bne_self_eq_false,Bool.false_eq_true,if_false];exact wpAny_pure (h _ (ZeW hp) (Zhl hp hso))
  ·have hp':(arrOf st').toList.Perm (pairsOf vs).toList:=hp;have:=hp'.length_eq;rw[Array.length_toList,Array.length_toList,pairsOf_size] at this;show((arrOf st').map (·.2)).size<=_;rw[Array.size_map,sizeLine_eq];lia
theorem Za4{lv:Value->Value->Bool}(o:Swo fun x y=>lv x.1 y.1){v:Value}{C:List Value->Prop}{Q:Value->Shared->Prop}
  (hcol:∀(Q':List Value->Shared->Prop)(E':Value->Shared->Prop),(∀(ys:List Value)(h':Heap)(tk:Nat)(d:Drawn),(∀b o,s.heap.get? b=some o->h'.get? b=some o)->C ys->ys.length<=90000->s.heap.objs.size<=h'.objs.size->Q' ys { s with heap:=h',toks:=tk,drawn:=d })->wpAny (model prog w) A.in1 (collect v) Q' E' s)
  (hc:∀(ys:List Value)(h6:Heap)(tk:Nat)(d:Drawn),C ys->(∀b o,s.heap.get? b=some o->h6.get? b=some o)->2<=ys.length->Zb8 prog w A.in1.in1 lv ys { s with heap:=h6,toks:=tk,drawn:=d })
  (q:∀(p:Addr)(ys:List Value)(out:Array Value)(h':Heap)(tk:Nat)(d:Drawn)(c:Nat),C ys->out.toList.Perm ys->out.toList.Pairwise (fun u v=>lv v u=false)->(∀b o,s.heap.get? b=some o->h'.get? b=some o)->h'.get? p=some (seqObj "list" out c)->s.heap.objs.size<=p->out.size<=90000->Q (.ref p) { s with heap:=h',toks:=tk,drawn:=d }) :
  wpAny (model prog w) A (call (.builtin "sorted") [v]) Q E s:=by
 refine Calls.call_function_entry kind_sorted plain_sorted entry_sorted (args_sorted1 _) ?_;unfold Builtin.«sorted»;refine wpAny_bind (m:=checkCount "sorted" 1 1 _) (wpAny_pure (wpAny_bind (hcol _ _ fun ys h1 tk d k1 hC hyl hle=>wpAny_bind (wpAny_newList ?_ (by rw[sizeLine_eq];lia)))));have hoL:(h1.push (seqObj "list" ys.toArray 0)).get? h1.objs.size=some (seqObj "list" ys.toArray 0):=Heap.get?_push_size _ rfl;have keep:∀b o,s.heap.get? b=some o->(h1.push (seqObj "list" ys.toArray 0)).get? b=some o:=fun b o e=>Heap.get?_push_of_some _ (k1 b o e);have hbp:∀b o,s.heap.get? b=some o->h1.objs.size≠b:=fun b o e=>Nat.ne_of_gt (Nat.lt_of_lt_of_le (Heap.lt_size e) hle);change wpAny _ _ _ _ _ { s with heap:=h1.push (seqObj "list" ys.toArray 0),toks:=tk,drawn:=d };refine wpAny_bind (wpAny_holding (wpAny_call_entry slot_list_sort ⟨_,hoL,rfl⟩ entry_list_sort (Zfv (s:={ s with heap:=h1.push (seqObj "list" ys.toArray 0),toks:=tk,drawn:=d }) o hoL (by lia) (fun h6 k6 h2=>hc ys h6 tk d hC (fun b o e=>k6 b o (hbp b o e).symm (keep b o e)) h2) fun out hp hso=>⟨_,rfl,?_⟩) (args_list_sort _)));generalize h1.push (seqObj "list" ys.toArray 0)=h5 at hoL keep;obtain⟨e1,ho1⟩:∃e1,(h5.update h1.objs.size (Obj.mapSeq fun _=>#[])).get? h1.objs.size=some (seqObj "list" #[] e1):=⟨_,get?_update_seq hoL (fun _=>#[])⟩;have ho6:=Heap.get?_push_of_some (seqObj "list" #[] 0) (Heap.get?_push_of_some (seqObj "tuple" ys.toArray 0) ho1);have hol:out.size<=90000:=by rw[<- Array.length_toList,hp.length_eq];exact hyl
 refine wpAny_pure ⟨_,rfl,q h1.objs.size ys out (sortedHeap h5 h1.objs.size ys out) tk d _ hC hp hso (fun b o e=>?_) (get?_update_seq ho6 (fun _=>out)) hle hol⟩;unfold sortedHeap;rw[Heap.get?_update_other _ _ (hbp b o e)];refine Heap.get?_push_of_some _ (Heap.get?_push_of_some _ ?_);rw[Heap.get?_update_other _ _ (hbp b o e)];exact keep b o e
def Zgg:Value->Int
 | .int i _=>i
 | _=>0
def iLt(u v:Value):Bool:=decide (Zgg u<Zgg v)
theorem Zhi:Swo fun x y=>iLt x.1 y.1:=⟨fun x y h=>decide_eq_false (by have:=of_decide_eq_true h;lia),fun x y z h1 h2=>decide_eq_false (by have:=of_decide_eq_false h1;have:=of_decide_eq_false h2;lia)⟩
theorem Zbz{vs:List Value}(hv:∀v∈vs,∃i t,v=Value.int i t)(h2:2<=vs.length):Zb8 prog w A iLt vs s:=by
 refine⟨oneType',fun Q E hq=>kas_kind (T:=.type "int") h2 (fun v hm=>?_) rfl rfl hq,?_⟩
 ·obtain⟨i,t,rfl⟩:=hv v hm;exact Looks.of_pure rfl
 ·intro x y hx hy E;rw[pairsOf_toList] at hx hy;obtain⟨i,t,e⟩:=hv _ (mem_zip_self hx).2;obtain⟨i',t',e'⟩:=hv _ (mem_zip_self hy).2;rw[e,e',keyLt'_oneType];refine oneLt_int ⟨rfl,?_⟩;show decide (i<i')=decide (Zgg x.1<Zgg y.1);rw[e,e'];rfl
end
end Srd
namespace L2
open PySem PySem.Spec PyProof.Rows PySem.W
section
variable{X:Cx}
theorem ZhQ{zs:List V}{ns:List Int}(h:zs.Perm (ns.map V.int)):∃ms:List Int,zs=ms.map V.int/\ms.Perm ns:=by
 obtain⟨ms,rfl,_⟩:=Zf4 zs fun z hz=>h.mem_iff.mp hz;refine⟨ms,rfl,?_⟩;have h2:=h.filterMap (fun v=>match v with|V.int i=>some i|_=>none)
 simpa[List.filterMap_map,Function.comp_def] using h2
theorem ZeD:∀{vs:List V}{us:List Value},Vals vs us->∀v∈vs,∃u∈us,RelV v u
 | _,_,.cons a t,v,hv=>by
  rcases List.mem_cons.mp hv with rfl|hv
  ·exact⟨_,List.mem_cons_self ..,a⟩
  ·obtain⟨u,hu,r⟩:=ZeD t v hv;exact⟨u,List.mem_cons_of_mem _ hu,r⟩
theorem rising:∀{ms:List Int}{us:List Value},Vals (ms.map V.int) us->us.Pairwise (fun u v=>Srd.iLt v u=false)->ms.Pairwise (· <= ·)
 | [],_,_,_=>.nil
 | m::ms,us,r,h=>by
  cases r with
  | cons r rr =>
   obtain⟨t,rfl⟩:=r;obtain⟨h1,h2⟩:=List.pairwise_cons.mp h;refine List.pairwise_cons.mpr ⟨fun m' hm=>?_,rising rr h2⟩;obtain⟨u,hu,ru⟩:=ZeD rr (V.int m') (List.mem_map.mpr ⟨m',hm,rfl⟩);obtain⟨t',rfl⟩:=ru;have:=of_decide_eq_false (h1 _ hu);have h3 : ¬ m'<m:=this;lia
theorem strictly{ms:List Int}(h:ms.Pairwise (· <= ·))(hn:ms.Nodup):ms.Pairwise (· < ·):=by
 refine List.pairwise_iff_getElem.mpr fun i j hi hj hij=>?_;have h1:=(List.pairwise_iff_getElem.mp h) i j hi hj hij;have h2:=(List.pairwise_iff_getElem.mp hn) i j hi hj hij;lia
end
end L2
namespace Stg
open PySem Sts
def tm(m:Nat):SetTable:={ mask:=m,place :=#[],dummies :=#[],finger:=0,led:=true,moves:=0,plain:=true }
theorem ZiS{t t':SetTable}(e:t.mask=t'.mask)(p:SetTable.Probe):t.advance p=t'.advance p:=by
 unfold SetTable.advance;rw[e]
theorem ZeX{t t':SetTable}(e:t.mask=t'.mask):∀(n:Nat)(p:SetTable.Probe),ZaX t n p=ZaX t' n p
 | 0,_=>rfl
 | n+1,p=>by
  show ZaX t n (t.advance p)=ZaX t' n (t'.advance p);rw[ZiS e,ZeX e n]
theorem Zgn{t t':SetTable}(e:t.mask=t'.mask)(h:Int):t.probeStart h=t'.probeStart h:=by
 unfold SetTable.probeStart;rw[e]
def jn(m:Nat)(h:Int)(n:Nat):Nat:=(ZaX (tm m) n ((tm m).probeStart h)).j
theorem ZlE(t:SetTable)(h:Int)(n:Nat):(ZaX t n (t.probeStart h)).j=jn t.mask h n:=by
 unfold jn;rw[Zgn (t:=t) (t':=tm t.mask) rfl,ZeX (t:=t) (t':=tm t.mask) rfl]
theorem Zez{m i:Nat}(h:i<=m):SetTable.runEnd m i<=m:=by
 unfold SetTable.runEnd
 split <;> lia
theorem Zg4(m i:Nat):i<=SetTable.runEnd m i:=by
 unfold SetTable.runEnd
 split <;> lia
theorem Zkw{m:Nat}{p:SetTable.Probe}(h:p.j+p.more<=m):((tm m).advance p).j+((tm m).advance p).more<=m:=by
 unfold SetTable.advance
 split
 ·show p.j+1+(p.more-1)<=m;lia
 ·have h1:(p.i*5+1+p.perturb / 32) % (m+1)<=m:=Nat.le_of_lt_succ (Nat.mod_lt _ (Nat.succ_pos m));have h2:=Zez h1;have h3:=Zg4 m ((p.i*5+1+p.perturb / 32) % (m+1));show(p.i*5+1+p.perturb / 32) % (m+1)+(SetTable.runEnd m ((p.i*5+1+p.perturb / 32) % (m+1))-(p.i*5+1+p.perturb / 32) % (m+1))<=m;lia
theorem ZhR{m:Nat}:∀(n:Nat){p:SetTable.Probe},p.j+p.more<=m->(ZaX (tm m) n p).j+(ZaX (tm m) n p).more<=m
 | 0,_,h=>h
 | n+1,p,h=>ZhR n (Zkw h)
theorem ZiO(m:Nat)(h:Int):((tm m).probeStart h).j+((tm m).probeStart h).more<=m:=by
 have h1:SetTable.bits h % (m+1)<=m:=Nat.le_of_lt_succ (Nat.mod_lt _ (Nat.succ_pos m));have h2:=Zez h1;have h3:=Zg4 m (SetTable.bits h % (m+1));show SetTable.bits h % (m+1)+(SetTable.runEnd m (SetTable.bits h % (m+1))-SetTable.bits h % (m+1))<=m;lia
theorem Zlv(m:Nat)(h:Int)(n:Nat):jn m h n<=m:=by
 have:=ZhR n (ZiO m h);unfold jn;lia
def Way(m:Nat)(U:Nat->Prop)(h:Int)(j:Nat):Prop := ∃n,jn m h n=j/\∀k,k<n->U (jn m h k)
theorem Way.mono{m:Nat}{U U':Nat->Prop}{h:Int}{j:Nat}(w:Way m U h j)(hu:∀y,y<=m->U y->U' y):Way m U' h j:=by
 obtain⟨n,e,hk⟩:=w;exact⟨n,e,fun k hkn=>hu _ (Zlv _ _ _) (hk k hkn)⟩
theorem ZiD(t:SetTable):∀(k:Nat)(p:SetTable.Probe),k<=p.more->(ZaX t k p).j=p.j+k
 | 0,_,_=>rfl
 | k+1,p,h=>by
  show(ZaX t k (t.advance p)).j=p.j+(k+1);have e:t.advance p= { p with j:=p.j+1,more:=p.more-1 }:=by
   unfold SetTable.advance;rw[if_pos (by lia)]
  rw[e,ZiD t k _ (show k<=p.more-1 by lia)];show p.j+1+k=_;lia
theorem Zf6{m:Nat}{owner:Array (Option Nat)}:∀(fuel:Nat)(p:SetTable.Probe)(j:Nat),SetTable.layClean.free m owner fuel p.i p.perturb=some j->p.j=p.i->p.more=SetTable.runEnd m p.i-p.i ->
  ∃n,(ZaX (tm m) n p).j=j/\∀k,k<n->owner.getD (ZaX (tm m) k p).j (some 0)≠none
 | 0,p,j,h,_,_=>by
  unfold SetTable.layClean.free at h;cases h
 | fuel+1,p,j,h,hj,hm=>by
  unfold SetTable.layClean.free at h;have hge:=Zg4 m p.i;cases hf:(List.range (SetTable.runEnd m p.i+1-p.i)).find? fun k=>(owner.getD (p.i+k) (some 0)).isNone with
  | some k' =>
   rw[hf] at h;have e:p.i+k'=j:=Option.some.inj h;obtain⟨h1,h2,h3⟩:=List.find?_range_eq_some.mp hf;have hk':k'<=p.more:=by
    have:=List.mem_range.mp h2;lia
   refine⟨k',by rw[ZiD _ _ _ hk',hj];exact e,fun k hk hn=>?_⟩;rw[ZiD _ _ _ (by lia),hj] at hn;have h4:=h3 k hk;rw[hn] at h4;cases h4
  | none =>
   rw[hf] at h;have h':SetTable.layClean.free m owner fuel (lp (tm m) p).i (lp (tm m) p).perturb=some j:=h;obtain⟨n',e,hk⟩:=Zf6 fuel (lp (tm m) p) j h' rfl rfl;have hadv:=Zh5 (tm m) p.more p rfl;refine⟨p.more+1+n',by rw[Za6,hadv];exact e,fun k hkn=>?_⟩;by_cases hlt:k<=p.more
   ·rw[ZiD _ _ _ hlt,hj];have:=List.find?_eq_none.mp hf k (List.mem_range.mpr (by lia));intro hn;rw[hn] at this;exact this rfl
   ·have e2:k=p.more+1+(k-(p.more+1)):=by lia
    rw[e2,Za6,hadv];exact hk _ (by lia)
def WO(m:Nat)(all:List Int)(owner:Array (Option Nat)):Prop := ∀j k,owner.getD j none=some k->∃x,all[k]?= some x/\Way m (fun y=>owner.getD y (some 0)≠none) x j
theorem Zga{owner:Array (Option Nat)}{j y:Nat}{v d:Option Nat}(hy:y≠j):(owner.setIfInBounds j v).getD y d=owner.getD y d:=by
 simp only[Array.getD,Array.size_setIfInBounds]
 split
 ·rename_i hy2
  exact Array.getElem_setIfInBounds_ne (by simpa using hy2) (Ne.symm hy)
 ·rfl
theorem ZeP{m:Nat}(hg:Good m)(all:List Int):∀(hs pre:List Int)(owner:Array (Option Nat)),all=pre++hs->Own m owner pre.length->WO m all owner->pre.length+hs.length<=m ->
  ∃owner',hs.foldl (fun(acc:Option (Array (Option Nat)×Nat)) h=>do
   let (owner,k) <- acc
   let j <- SetTable.layClean.free m owner (SetTable.turns m) (SetTable.bits h % (m+1)) (SetTable.bits h)
   pure (owner.setIfInBounds j (some k),k+1)) (some (owner,pre.length))=some (owner',pre.length+hs.length)/\Own m owner' (pre.length+hs.length)/\WO m all owner'
 | [],pre,owner,_,h,hw,_=>⟨owner,rfl,h,hw⟩
 | x::hs,pre,owner,ha,h,hw,hl=>by
  rw[List.length_cons] at hl;obtain⟨j,hj,ho⟩:=Zgc h (by lia);have hb:SetTable.bits x<2 ^ 64:=(ZbY (SetTable.fresh 0 0 true) x).2.1;obtain⟨n,hn,e⟩:=ZeL (t:=tm m) (p:={ j:=0,more:=0,i:=SetTable.bits x % (m+1),perturb:=SetTable.bits x,dummy:=none }) hg hb hj;obtain⟨j',hf,ho'⟩:=Zdc ho n (SetTable.turns m) _ (by unfold SetTable.turns;have:n<=13+m:=hn;lia) e;have hf':SetTable.layClean.free m owner (SetTable.turns m) (SetTable.bits x % (m+1)) (SetTable.bits x)=some j':=hf;obtain⟨nw,ew,hkw⟩:=Zf6 (m:=m) (owner:=owner) (SetTable.turns m) ((tm m).probeStart x) j' hf' rfl rfl;have hs':j'<owner.size:=by
   apply Classical.byContradiction;intro hn;rw[Array.getD,dif_neg hn] at ho';cases ho'
  have grow:∀y,owner.getD y (some 0)≠none->(owner.setIfInBounds j' (some pre.length)).getD y (some 0)≠none:=fun y hy=>by
   by_cases ey:y=j'
   ·rw[ey] at hy;exact absurd ho' hy
   ·rw[Zga ey];exact hy
  have hw':WO m all (owner.setIfInBounds j' (some pre.length)):=fun y k hyk=>by
   by_cases ey:y=j'
   ·subst ey;have hk:k=pre.length:=by
     have:(owner.setIfInBounds y (some pre.length)).getD y none=some pre.length:=by simp[Array.getD,hs']
     rw[this] at hyk;exact(Option.some.inj hyk).symm
    subst hk;refine⟨x,by rw[ha];simp,nw,ew,fun k hk=>grow _ (hkw k hk)⟩
   ·rw[Zga ey] at hyk;obtain⟨z,e1,e2⟩:=hw y k hyk;exact⟨z,e1,e2.mono fun y _ hy=>grow y hy⟩
  have hlen:(pre ++ [x]).length=pre.length+1:=by rw[List.length_append,List.length_singleton]
  obtain⟨owner',h1,h2,h3⟩:=ZeP hg all hs (pre ++ [x]) _ (by rw[ha];simp) (by rw[hlen];exact Zhh h ho') hw' (by rw[hlen];lia);rw[hlen] at h1 h2;refine⟨owner',?_,by rw[List.length_cons,show pre.length+(hs.length+1)=pre.length+1+hs.length by lia];exact h2,h3⟩;rw[List.foldl_cons];simp only[Option.bind_eq_bind,Option.bind_some,hf',Option.pure_def];rw[List.length_cons,show pre.length+(hs.length+1)=pre.length+1+hs.length by lia];exact h1
theorem ZfW{m:Nat}{owner:Array (Option Nat)}{j k:Nat}:(j,k)∈Zac m owner↔j<=m/\owner.getD j none=some k:=by
 unfold Zac;rw[List.mem_filterMap];constructor
 ·rintro⟨y,hy,e⟩;cases ho:owner.getD y none with
  | none=>rw[ho] at e;cases e
  | some v =>
   rw[ho] at e;have e':(y,v)=(j,k):=Option.some.inj e;cases e';exact⟨Nat.le_of_lt_succ (List.mem_range.mp hy),ho⟩
 ·rintro⟨hj,ho⟩;exact⟨j,List.mem_range.mpr (Nat.lt_succ_of_le hj),by rw[ho];rfl⟩
theorem ZiF{m:Nat}(hg:Good m)(fi mo:Nat)(led plain:Bool)(hs:Array Int)(hl:hs.size<=m){t:SetTable}{order:Array Nat}(e:SetTable.laid m fi mo led plain hs=some (t,order)) :
  ∀(i j k:Nat),t.place[i]?= some j->order[i]?= some k->∃x,hs[k]?= some x/\Way m (· ∈ t.place.toList) x j:=by
 have h0:Own m (Array.replicate (m+1) none) 0:=by
  refine⟨Array.size_replicate,?_⟩;have:Zac m (Array.replicate (m+1) none)=[]:=by
   unfold Zac;rw[List.filterMap_eq_nil_iff];intro j hj;have:(Array.replicate (m+1) (none:Option Nat)).getD j none=none:=by
    simp[Array.getD]
   rw[this];rfl
  rw[this];exact List.Perm.refl _
 have hw0:WO m hs.toList (Array.replicate (m+1) none):=fun j k hjk=>by
  have:(Array.replicate (m+1) (none:Option Nat)).getD j none=none:=by simp[Array.getD]
  rw[this] at hjk;cases hjk
 obtain⟨owner,h1,h2,h3⟩:=ZeP hg hs.toList hs.toList [] _ rfl h0 hw0 (by show 0+hs.toList.length<=m;rw[Array.length_toList];lia);have hc:SetTable.layClean m hs=some owner:=by
  unfold SetTable.layClean;rw[<- Array.foldl_toList];have:=congrArg (Option.map (·.1)) h1;exact this
 have e2:t= { mask:=m,place:=((Zac m owner).map (·.1)).toArray,dummies :=#[],finger:=fi,led:=led,moves:=mo,plain:=plain }/\order=((Zac m owner).map (·.2)).toArray:=by
  unfold SetTable.laid at e;rw[hc] at e;have e':=Option.some.inj e;exact⟨(congrArg Prod.fst e').symm,(congrArg Prod.snd e').symm⟩
 obtain⟨rfl,rfl⟩:=e2;intro i j k hj hk;have hj':(Zac m owner)[i]?.map (·.1)=some j:=by
  rw[<- List.getElem?_map,<- hj];simp
 have hk':(Zac m owner)[i]?.map (·.2)=some k:=by
  rw[<- List.getElem?_map,<- hk];simp
 cases hp:(Zac m owner)[i]? with
 | none=>rw[hp] at hj';cases hj'
 | some pr =>
  rw[hp] at hj' hk';have ej:pr.1=j:=Option.some.inj hj';have ek:pr.2=k:=Option.some.inj hk';have hm:(j,k)∈Zac m owner:=by
   rw[<- ej,<- ek];exact List.mem_of_getElem? hp
  obtain⟨x,e1,w⟩:=h3 j k (ZfW.mp hm).2;refine⟨x,by rw[<- Array.getElem?_toList];exact e1,w.mono fun y hy hu=>?_⟩;show y∈((Zac m owner).map (·.1)).toArray.toList;have hsz:=h2.size;have hlt:y<owner.size:=by lia
  cases ho:owner.getD y none with
  | none =>
   exfalso;apply hu;simp only[Array.getD,hlt,dif_pos] at ho ⊢;exact ho
  | some v=>exact List.mem_map.mpr ⟨(y,v),ZfW.mpr ⟨hy,ho⟩,rfl⟩
theorem gm2{t:SetTable}(hd:t.dummies=#[])(ha:Nat->Int)(h:Int):∀(n fuel:Nat)(p:SetTable.Probe),p.dummy=none->n<fuel->t.slot (ZaX t n p).j=.empty ->
  (∃k,k<=n/\SetTable.probe.go t ha h fuel p=some (.empty (ZaX t k p).j none)/\t.slot (ZaX t k p).j=.empty/\∀m,m<k->∃i,t.slot (ZaX t m p).j=.live i/\(ha i == h)=false) \/
  ∃k i,k<n/\SetTable.probe.go t ha h fuel p=some (.candidate (ZaX t k p).j i (ZaX t (k+1) p))/\t.slot (ZaX t k p).j=.live i/\∀m,m<k->∃i,t.slot (ZaX t m p).j=.live i/\(ha i == h)=false
 | n,0,_,_,hn,_=>absurd hn (Nat.not_lt_zero _)
 | n,fuel+1,p,hp,hn,he=>by
  unfold SetTable.probe.go;cases hs:t.slot p.j with
  | empty=>exact .inl ⟨0,Nat.zero_le _,by rw[hp];rfl,hs,fun m hm=>absurd hm (Nat.not_lt_zero _)⟩
  | dummy =>
   exfalso;unfold SetTable.slot at hs;dsimp only at hs
   split at hs
   ·cases hs
   ·rw[hd] at hs;exact SetTable.Slot.noConfusion hs
  | live i =>
   dsimp only;cases n with
   | zero =>
    rw[show(ZaX t 0 p).j=p.j from rfl,hs] at he;cases he
   | succ n =>
    by_cases hh:(ha i == h)=true
    ·rw[if_pos hh];exact .inr ⟨0,i,Nat.succ_pos _,rfl,hs,fun m hm=>absurd hm (Nat.not_lt_zero _)⟩
    ·rw[if_neg hh];have hh':(ha i == h)=false:=by
      cases e:(ha i == h) with
      | true=>exact absurd e hh
      | false=>rfl
     have hdm:(t.advance p).dummy=none:=by
      unfold SetTable.advance
      split
      ·exact hp
      ·exact hp
     have ext:∀k,(∀m,m<k->∃i,t.slot (ZaX t m (t.advance p)).j=.live i/\(ha i == h)=false)->∀m,m<k+1->∃i,t.slot (ZaX t m p).j=.live i/\(ha i == h)=false:=fun k hk m hm=>by
      cases m with
      | zero=>exact⟨i,hs,hh'⟩
      | succ m=>exact hk m (by lia)
     rcases gm2 hd ha h n fuel (t.advance p) hdm (by lia) he with⟨k,hk,e,h1,h2⟩|⟨k,i',hk,e,h1,h2⟩
     ·exact .inl ⟨k+1,by lia,e,h1,ext k h2⟩
     ·exact .inr ⟨k+1,i',by lia,e,h1,ext k h2⟩
theorem Zg0{t:SetTable}{j i:Nat}(h:t.slot j=.live i):t.place[i]?= some j:=by
 unfold SetTable.slot at h;dsimp only at h
 split at h
 ·rename_i h2
  cases h;exact eq_of_beq h2
 ·split at h <;> cases h
section
variable{prog:Program}{w:World}{K:Type}[DecidableEq K]{knd:KeyKind prog w K}{A:Around}{E:Value->Shared->Prop}{s:Shared}
theorem Zcq{h:Heap}{x y:List K}{b:Addr}(h1:IsTupleKey knd h x b)(h2:IsTupleKey knd h y b):x=y:=by
 obtain⟨o,its,n,e1,_,e3,e4⟩:=h1;obtain⟨o',its',n',f1,_,f3,f4⟩:=h2;rw[e1] at f1;cases f1;rw[e3] at f3;cases f3;exact e4.inj f4
def ZaP(knd:KeyKind prog w K)(h:Heap)(ks:List K)(e:Int×Value):Prop := ∃b,e.2=.ref b/\IsTupleKey knd h ks b
structure TabS(knd:KeyKind prog w K)(h:Heap)(es:Array (Int×Value))(t:SetTable):Prop where
 tab:Tab es t
 ent:∀e∈es.toList,∃ks,ZaP knd h ks e/\e.1=tupleKeyHash knd ks
 way:∀(i:Nat) e j,es[i]?= some e->t.place[i]?= some j->Way t.mask (· ∈ t.place.toList) e.1 j
 one:es.toList.Pairwise fun e e'=>∀ks,ZaP knd h ks e -> ¬ ZaP knd h ks e'
theorem TabS.ents{h:Heap}{es:Array (Int×Value)}{t:SetTable}(x:TabS knd h es t):ZkU knd false h es:=fun e he=>by
 obtain⟨ks,⟨b,e1,e2⟩,_⟩:=x.ent e he;exact⟨ks,b,e1,e2⟩
theorem TabS.none{h:Heap}{es:Array (Int×Value)}{t:SetTable}(x:TabS knd h es t){ks:List K}{N:Nat}(he:t.slot (jn t.mask (tupleKeyHash knd ks) N)=.empty)
  (hp:∀m,m<N->∃i e,t.slot (jn t.mask (tupleKeyHash knd ks) m)=.live i/\es[i]?= some e /\ ¬ ZaP knd h ks e):∀e∈es.toList,¬ ZaP knd h ks e:=fun e hem hb=>by
 obtain⟨i0,hi0⟩:=List.mem_iff_getElem?.mp hem;rw[Array.getElem?_toList] at hi0;have hlt:=(Array.getElem?_eq_some_iff.mp hi0).1;obtain⟨ks',hb',hh⟩:=x.ent e hem;have ek:ks'=ks:=by
  obtain⟨b,e1,e2⟩:=hb;obtain⟨b',f1,f2⟩:=hb';rw[e1] at f1;cases f1;exact Zcq f2 e2
 subst ek;have hsz:=x.tab.size;have hj:t.place[i0]?= some t.place[i0]:=Array.getElem?_eq_getElem (by lia);obtain⟨n,en,hn⟩:=x.way i0 e _ hi0 hj;rw[hh] at en hn;have hmem:t.place[i0]∈t.place.toList:=Array.getElem_mem_toList (by lia);rcases Nat.lt_trichotomy n N with hlt2|heq|hgt
 ·obtain⟨i,e',h1,h2,h3⟩:=hp n hlt2;have h4:=Zg0 h1;rw[en] at h4;have hi:i=i0:=by
   have l1:=(Array.getElem?_eq_some_iff.mp h4).1;have e5:t.place[i]=t.place[i0]:=(Array.getElem?_eq_some_iff.mp h4).2;rcases Nat.lt_trichotomy i i0 with z|z|z
   ·have:=Zcg x.tab.ris z (by lia);lia
   ·exact z
   ·have:=Zcg x.tab.ris z l1;lia
  rw[hi,hi0] at h2;cases h2;exact h3 hb
 ·rw[<- heq,en] at he;exact Zbj x.tab.ris he hmem
 ·exact Zbj x.tab.ris he (hn N hgt)
set_option maxHeartbeats 1000000 in
theorem Zil{S a:Addr}{o:Obj}{es:Array (Int×Value)}{ep:Nat}{t:SetTable}{ks:List K}(hu:A.units<cLine)(ho:s.heap.get? S=some o)(hd:o.data=.set es ep t)(hT2:TabS knd s.heap es t)(hk:IsTupleKey knd s.heap ks a){Q:SetFound->Shared->Prop}
  (q0:(∃e∈es.toList,ZaP knd s.heap ks e)->Q (.there none) s) (q1:∀j,t.slot j=.empty->(∀e∈es.toList,¬ ZaP knd s.heap ks e)->Way t.mask (· ∈ t.place.toList) (tupleKeyHash knd ks) j->Q (.free j false) s) :
  ∀(fuel n c:Nat)(stand:Option SetTable.Probe),stand.getD (t.probeStart (tupleKeyHash knd ks))=ZaX t c (t.probeStart (tupleKeyHash knd ks))->(∀m,m<c->∃i e,t.slot (jn t.mask (tupleKeyHash knd ks) m)=.live i/\es[i]?= some e /\ ¬ ZaP knd s.heap ks e) ->
   t.slot (ZaX t n (stand.getD (t.probeStart (tupleKeyHash knd ks)))).j=.empty->n<10*SetTable.turns t.mask->n<fuel ->
  wpAny (model prog w) A (setSearchFrom S (.ref a) (tupleKeyHash knd ks) true fuel stand) Q E s
 | 0,n,_,_,_,_,_,_,hn=>absurd hn (Nat.not_lt_zero _)
 | fuel+1,n,c,stand,hst0,hpass,he,hn1,hn=>by
  have hT:=hT2.tab;have hE:=hT2.ents;have hdm:(stand.getD (t.probeStart (tupleKeyHash knd ks))).dummy=none:=by rw[hst0];exact Zdu t c _ (ZbY t _).2.2
  unfold setSearchFrom;refine wpAny_bind (wpAny_setState_of ho hd hT.fits ?_);dsimp only;have hgw:t.gaveWay=false:=by
   unfold SetTable.gaveWay;rw[Ziu hT.good];rfl
  rw[hgw,if_neg (by decide)];have hat:∀m,(ZaX t m (stand.getD (t.probeStart (tupleKeyHash knd ks)))).j=jn t.mask (tupleKeyHash knd ks) (c+m):=fun m=>by rw[hst0,<- Za6,ZlE]
  have live_es:∀{j i},t.slot j=.live i->∃e,es[i]?= some e:=fun{j i} hl=>⟨_,Array.getElem?_eq_getElem (by have:=ZhU hl;rw[hT.size] at this;exact this)⟩;have hne:∀{i:Nat}{e:Int×Value},es[i]?= some e->(((es[i]?.map (·.1)).getD 0 == tupleKeyHash knd ks)=false) -> ¬ ZaP knd s.heap ks e:=fun{i e} hie hh hb=>by
   rw[hie] at hh;obtain⟨ks',hb',e2⟩:=hT2.ent e (by rw[<- Array.getElem?_toList] at hie;exact List.mem_of_getElem? hie);have ek:ks'=ks:=by
    obtain⟨b,f1,f2⟩:=hb;obtain⟨b',g1,g2⟩:=hb';rw[f1] at g1;cases g1;exact Zcq g2 f2
   rw[ek] at e2;have hh':(e.1 == tupleKeyHash knd ks)=false:=hh;rw[e2] at hh';simp at hh'
  generalize hst:stand.getD (t.probeStart (tupleKeyHash knd ks))=p at hdm he hat hst0
  split
  ·rename_i met hm
   unfold SetTable.probe at hm;rcases gm2 hT.none _ (tupleKeyHash knd ks) n _ p hdm hn1 he with⟨k,hkn,e,hj,hpk⟩|⟨k,i,hkn,e,hl,hpk⟩
   ·rw[e] at hm;cases hm;rw[hat k] at hj;have hall:∀m,m<c+k->∃i e,t.slot (jn t.mask (tupleKeyHash knd ks) m)=.live i/\es[i]?= some e /\ ¬ ZaP knd s.heap ks e:=fun m hm=>by
     by_cases hmc:m<c
     ·exact hpass m hmc
     ·obtain⟨i,h1,h2⟩:=hpk (m-c) (by lia);rw[hat,show c+(m-c)=m by lia] at h1;obtain⟨e,he2⟩:=live_es h1;exact⟨i,e,h1,he2,hne he2 h2⟩
    refine wpAny_pure ?_;rw[hat k];refine q1 _ hj (hT2.none hj hall) ⟨c+k,rfl,fun m hm=>?_⟩;obtain⟨i,_,h1,_⟩:=hall m hm;have:=Zg0 h1;rw[<- Array.getElem?_toList] at this;exact List.mem_of_getElem? this
   ·rw[e] at hm;cases hm;have hi:=ZhU hl;rw[hT.size] at hi;obtain⟨ks',b,hb2,hb⟩:=hE es[i] (Array.getElem_mem_toList hi);have hmemi:es[i]∈es.toList:=Array.getElem_mem_toList hi;have hes:es[i]?= some (es[i].1,Value.ref b):=by rw[Array.getElem?_eq_getElem hi,<- hb2]
    have hsm:t.sameMemory t.moves t.mask=some true:=by
     unfold SetTable.sameMemory;rw[if_pos (beq_self_eq_true _)]
    have again:ks'≠ks->wpAny (model prog w) A (setSearchFrom S (.ref a) (tupleKeyHash knd ks) true fuel (some (ZaX t (k+1) p))) Q E s:=fun hneq=>by
     refine Zil hu ho hd hT2 hk q0 q1 fuel (n-(k+1)) (c+(k+1)) (some (ZaX t (k+1) p)) (by show ZaX t (k+1) p=_;rw[hst0,<- Za6]) (fun m hm=>?_) (by
      show t.slot (ZaX t (n-(k+1)) (ZaX t (k+1) p)).j=.empty;rw[<- Za6,show k+1+(n-(k+1))=n by lia];exact he) (by lia) (by lia)
     by_cases hmc:m<c
     ·exact hpass m hmc
     by_cases hmk:m<c+k
     ·obtain⟨i',h1,h2⟩:=hpk (m-c) (by lia);rw[hat,show c+(m-c)=m by lia] at h1;obtain⟨e,he2⟩:=live_es h1;exact⟨i',e,h1,he2,hne he2 h2⟩
     ·have em:m=c+k:=by lia
      rw[hat k,<- em] at hl;refine⟨i,es[i],hl,Array.getElem?_eq_getElem hi,fun⟨b',f1,f2⟩=>?_⟩;rw[hb2] at f1;cases f1;exact hneq (Zcq hb f2)
    dsimp only;rw[hes];dsimp only;have hst2:∀v∈(Array.filter (fun x=>x.fst == tupleKeyHash knd ks) es).toList.map (fun x=>x.snd),∃ks b,v=Value.ref b/\IsTupleKey knd s.heap ks b:=fun v hv=>by
     obtain⟨x,hx,rfl⟩:=List.mem_map.mp hv;rw[Array.toList_filter] at hx;exact hE x (List.mem_filter.mp hx).1
    cases hled:t.led with
    | false =>
     rw[if_pos (by decide)];refine wpAny_bind (Zko hk _ hst2 ?_);rw[if_neg (by decide)];refine wpAny_bind (wpAny_holding (wpAny_eqBool_tuple hu hb hk (wpAny_bind (wpAny_setState_of ho hd hT.fits ?_))));by_cases heq:ks'=ks
     ·rw[decide_eq_true heq,if_pos (by decide)];exact wpAny_pure (q0 ⟨es[i],hmemi,b,hb2,heq ▸ hb⟩)
     ·rw[decide_eq_false heq,if_neg (by decide)];dsimp only;rw[hsm];dsimp only;rw[if_pos rfl,hl];dsimp only;rw[hes];dsimp only;refine wpAny_bind (wpAny_isSame_ref_self (wpAny_bind (wpAny_pure ?_)));rw[if_pos rfl];dsimp only;rw[if_neg (by decide)];exact again heq
    | true =>
     rw[if_neg (by decide)];refine wpAny_bind (wpAny_holding (wpAny_eqBool_tuple hu hb hk (wpAny_bind (wpAny_setState_of ho hd hT.fits ?_))));by_cases heq:ks'=ks
     ·rw[decide_eq_true heq,if_pos (by decide)];exact wpAny_pure (q0 ⟨es[i],hmemi,b,hb2,heq ▸ hb⟩)
     ·rw[decide_eq_false heq,if_neg (by decide)];dsimp only;rw[hsm];dsimp only;rw[if_pos rfl,hl];dsimp only;rw[hes];dsimp only;refine wpAny_bind (wpAny_isSame_ref_self (wpAny_bind (wpAny_pure ?_)));rw[if_pos rfl];dsimp only;rw[if_neg (by decide)];exact again heq
  ·rename_i hm
   exfalso;unfold SetTable.probe at hm;rcases gm2 hT.none _ (tupleKeyHash knd ks) n _ p hdm hn1 he with⟨k,hkn,e,hj,hpk⟩|⟨k,i,hkn,e,hl,hpk⟩
   ·exact hm _ e
   ·exact hm _ e
end
theorem Zic{α : Type}(xs:Array α){p:Nat}(hp:p<=xs.size)(x : α)(i:Nat):(SetTable.insertAt xs p x)[i]?= if i<p then xs[i]? else if i=p then some x else xs[i-1]? := by
 have hl:(xs.toList.take p).length=p:=by rw[List.length_take,Array.length_toList];lia
 rw[<- Array.getElem?_toList,ZbN];by_cases h1:i<p
 ·rw[if_pos h1,List.getElem?_append_left (by lia),List.getElem?_take_of_lt h1,Array.getElem?_toList]
 rw[if_neg h1,List.getElem?_append_right (by lia),hl];by_cases h2:i=p
 ·rw[if_pos h2,h2,Nat.sub_self];rfl
 ·rw[if_neg h2,show i-p=(i-1-p)+1 by lia,List.getElem?_cons_succ,List.getElem?_drop,show p+(i-1-p)=i-1 by lia,Array.getElem?_toList]
section
variable{prog:Program}{w:World}{K:Type}[DecidableEq K]{knd:KeyKind prog w K}{A:Around}{E:Value->Shared->Prop}{s:Shared}
abbrev One(knd:KeyKind prog w K)(h:Heap)(l:List (Int×Value)):Prop:=l.Pairwise fun e e'=>∀ks,ZaP knd h ks e -> ¬ ZaP knd h ks e'
theorem One.perm{h:Heap}{l l':List (Int×Value)}(x:One knd h l)(p:l'.Perm l):One knd h l':=(p.pairwise_iff fun{a b} hab ks hb ha=>hab ks ha hb).mpr x
theorem Zg1{h h':Heap}{S:Addr}{o o':Obj}{es es':Array (Int×Value)}{ep ep':Nat}{t t':SetTable}(ho:h.get? S=some o)(hd:o.data=.set es ep t)(ho':h'.get? S=some o')(hd':o'.data=.set es' ep' t')(sb:Heap.SameBut S h h')(ks:List K)(e:Int×Value):ZaP knd h ks e↔ZaP knd h' ks e:=by
 constructor
 ·rintro⟨b,e1,e2⟩;exact⟨b,e1,ZjJ ho hd sb e2⟩
 ·rintro⟨b,e1,o2,items,n,h1,h2,h3,h4⟩;have hne:b≠S:=fun z=>by
   rw[z,ho'] at h1;cases h1;rw[hd'] at h3;cases h3
  exact⟨b,e1,o2,items,n,(sb.2 b hne).symm.trans h1,h2,h3,h4⟩
def ZfE(knd:KeyKind prog w K)(h:Heap)(S:Addr)(vs:Value->Prop)(P:List K->Prop)(n:Nat)(led:Bool):Prop :=
 ∃o es ep t,h.get? S=some o/\o.ExactSet/\o.data=.set es ep t/\TabS knd h es t/\es.size<=n/\t.led=led/\(∀e∈es.toList,vs e.2)/\∀ks,(∃e∈es.toList,ZaP knd h ks e)↔P ks
theorem Zk8{order:Array Nat}{es:Array (Int×Value)}(hall:∀k∈order.toList,k<es.size)(i:Nat):(order.filterMap (es[·]?))[i]?= order[i]?.bind (es[·]?):=by
 rw[<- Array.getElem?_toList,Array.toList_filterMap,<- Array.getElem?_toList];generalize order.toList=l at hall
 induction l generalizing i with
 | nil=>simp
 | cons k l ih =>
  have hk:=hall k (List.mem_cons_self ..);rw[List.filterMap_cons_some (b:=es[k]) (Array.getElem?_eq_getElem hk)];cases i with
  | zero =>
   rw[List.getElem?_cons_zero,List.getElem?_cons_zero];exact(Array.getElem?_eq_getElem hk).symm
  | succ i =>
   rw[List.getElem?_cons_succ,List.getElem?_cons_succ];exact ih i fun z hz=>hall z (List.mem_cons_of_mem _ hz)
set_option maxHeartbeats 1000000 in
theorem Zkh{S:Addr}{o:Obj}{es:Array (Int×Value)}{ep:Nat}{t:SetTable}{Q:Unit->Shared->Prop}(ho:s.heap.get? S=some o)(hd:o.data=.set es ep t)(hf:t.fits es.size=true)(h1:1<=es.size)(hn:es.size<=1000)
  (h:∀(es':Array (Int×Value))(t':SetTable)(h':Heap),es'.toList.Perm es.toList->Tab es' t'->(∀(i:Nat) e j,es'[i]?= some e->t'.place[i]?= some j->Way t'.mask (· ∈ t'.place.toList) e.1 j)->t'.led=t.led->h'.get? S=some { o with data:=.set es' (ep+1) t' }->Heap.SameBut S s.heap h'->Q () { s with heap:=h' }) :
  wpAny (model prog w) A (setRelay S (SetTable.grown es.size)) Q E s:=by
 have hgr:SetTable.grown es.size=es.size*4:=by unfold SetTable.grown;rw[if_neg (by lia)]
 rw[hgr];obtain⟨g1,g2,g3⟩:=above (n:=es.size*4) (by lia);unfold setRelay;refine wpAny_bind (wpAny_setState_of ho hd hf ?_);dsimp only;rw[if_neg (by rw[sizeLine_eq];lia)];obtain⟨t',order,e,m1,m2,m3,m4,m5,m6,m7,m8⟩:=Zhx g1 t.finger (t.movedTo (SetTable.sizeAbove (es.size*4)-1)) t.led t.plain (es.map (·.1)) (by rw[Array.size_map];lia);have hway:=ZiF g1 t.finger (t.movedTo (SetTable.sizeAbove (es.size*4)-1)) t.led t.plain (es.map (·.1)) (by rw[Array.size_map];lia) e;rw[Array.size_map] at m3 m4;have e2:t.relaid (es.map (·.1)) (es.size*4)=some (t',order):=e;rw[e2];have hperm:(order.filterMap (es[·]?)).toList.Perm es.toList:=by
  rw[Array.toList_filterMap];exact(m4.filterMap _).trans (List.Perm.of_eq (filterMap_getElem?_range es))
 have hsz:(order.filterMap (es[·]?)).size=es.size:=by
  rw[<- Array.length_toList,hperm.length_eq,Array.length_toList]
 have hw2:∀(i:Nat) e j,(order.filterMap (es[·]?))[i]?= some e->t'.place[i]?= some j->Way t'.mask (· ∈ t'.place.toList) e.1 j:=fun i e j hi hj=>by
  rw[Zk8 (fun k hk=>List.mem_range.mp (m4.mem_iff.mp hk))] at hi;cases ho2:order[i]? with
  | none=>rw[ho2] at hi;cases hi
  | some k =>
   rw[ho2] at hi;have hi':es[k]?= some e:=hi;obtain⟨x,hx,hwx⟩:=hway i j k hj ho2;rw[Array.getElem?_map,hi'] at hx;have ex:e.1=x:=Option.some.inj hx;rw[m1,ex];exact hwx
 refine wpAny_bind (wpAny_of_eq (a:=(order.filterMap (es[·]?),t')) ?_ ?_)
 ·change (ite (((order.filterMap (es[·]?)).size != es.size)=true) _ _:Sem (Array (Int×Value)×SetTable))=_;rw[if_neg (by rw[hsz];simp)]
 dsimp only;refine wpAny_storeSet_of ho hd (h _ t' _ hperm ⟨by rw[m3,hsz],m2,by rw[m1];exact g1,?_,m8⟩ hw2 m5 (Sts.stored ho hd _ _) (Heap.SameBut.update ..)) (by rw[hsz,sizeLine_eq];lia);unfold SetTable.fill;rw[m1,m2,m3];show(es.size+0)*5<_;lia
set_option maxHeartbeats 2000000 in
theorem Zej{S a:Addr}{o:Obj}{es:Array (Int×Value)}{ep:Nat}{t t2:SetTable}{vs:Value->Prop}{P:List K->Prop}{n j:Nat}{led:Bool}{ks:List K}{Q:Bool->Shared->Prop}(ho:s.heap.get? S=some o)(hx:o.ExactSet)(hd:o.data=.set es ep t)(hTS:TabS knd s.heap es t)(hsz:es.size<=n)(hled:t.led=led)(hvs:∀e∈es.toList,vs e.2)
  (hP:∀ks,(∃e∈es.toList,ZaP knd s.heap ks e)↔P ks) (hn:n<=900) (hk:IsTupleKey knd s.heap ks a) (hv:vs (.ref a)) (hj:t.slot j=.empty) (hnone:∀e∈es.toList,¬ ZaP knd s.heap ks e) (hway:Way t.mask (· ∈ t.place.toList) (tupleKeyHash knd ks) j) (e1:t2.mask=t.mask) (e2:t2.place=SetTable.insertAt t.place (SetTable.below t.place j) j) (e3:t2.dummies=#[]) (e4:t2.led=t.led)
  (q:∀b h',Heap.SameBut S s.heap h'->ZfE knd h' S vs (fun k=>P k\/k=ks) (n+1) led->Q b { s with heap:=h' }) :
  wpAny (model prog w) A (do
   storeSet S (SetTable.insertAt es (SetTable.below t.place j) (tupleKeyHash knd ks,Value.ref a)) t2
   if(!false&&t2.tooFull)=true then do
     setRelay S (SetTable.grown (es.size+1))
     pure true
    else pure true) Q E s:=by
 have hT:=hTS.tab;have hr:=hT.room;have hfe:=hT.fill_eq;have hbl:=(ZaZ hT.ris j).1;have hins:=SetTable.insertAt_perm es (SetTable.below t.place j) (tupleKeyHash knd ks,Value.ref a);have hpl:(SetTable.insertAt es (SetTable.below t.place j) (tupleKeyHash knd ks,Value.ref a)).toList.Perm ((tupleKeyHash knd ks,Value.ref a)::es.toList):=by
  refine hins.trans ?_;rw[Array.toList_push];exact List.perm_append_comm (l₁ := es.toList) (l₂ :=[_])
 have hs1:(SetTable.insertAt es (SetTable.below t.place j) (tupleKeyHash knd ks,Value.ref a)).size=es.size+1:=by
  rw[<- Array.length_toList,hins.length_eq,Array.length_toList,Array.size_push]
 have hp1:t2.place.size=es.size+1:=by
  have:=(SetTable.insertAt_perm t.place (SetTable.below t.place j) j).length_eq;rw[Array.length_toList,Array.length_toList,Array.size_push,hT.size] at this;rw[e2];exact this
 have hfill:t2.fill=es.size+1:=by
  unfold SetTable.fill;rw[hp1,e3];rfl
 have hris:Ris t2.place:=by
  rw[e2];exact Zcm hT.ris (Zbj hT.ris hj)
 have hgrow:∀y,y∈t.place.toList->y∈t2.place.toList:=fun y hy=>by
  rw[e2];refine(SetTable.insertAt_perm t.place (SetTable.below t.place j) j).mem_iff.mpr ?_;rw[Array.toList_push];exact List.mem_append_left _ hy
 have hway2:∀(i:Nat) e y,(SetTable.insertAt es (SetTable.below t.place j) (tupleKeyHash knd ks,Value.ref a))[i]?= some e->t2.place[i]?= some y->Way t2.mask (· ∈ t2.place.toList) e.1 y:=fun i e y hi hy=>by
  rw[Zic es (by rw[<- hT.size];exact hbl)] at hi;rw[e2,Zic t.place hbl] at hy;rw[e1];by_cases c1:i<SetTable.below t.place j
  ·rw[if_pos c1] at hi hy;exact(hTS.way i e y hi hy).mono fun z _ hz=>hgrow z hz
  rw[if_neg c1] at hi hy;by_cases c2:i=SetTable.below t.place j
  ·rw[if_pos c2] at hi hy;cases hi;cases hy;exact hway.mono fun z _ hz=>hgrow z hz
  ·rw[if_neg c2] at hi hy;exact(hTS.way (i-1) e y hi hy).mono fun z _ hz=>hgrow z hz
 generalize SetTable.insertAt es (SetTable.below t.place j) (tupleKeyHash knd ks,Value.ref a)=es1 at hpl hs1 hway2;have hself:ZaP knd s.heap ks (tupleKeyHash knd ks,Value.ref a):=⟨a,rfl,hk⟩;have hone1:One knd s.heap es1.toList:=by
  refine One.perm (List.pairwise_cons.mpr ⟨fun e he ks' hb1 hb2=>?_,hTS.one⟩) hpl;obtain⟨b,f1,f2⟩:=hb1;cases f1;have:ks'=ks:=Zcq f2 hk;subst this;exact hnone e he hb2
 have hent1:∀e∈es1.toList,∃ks,ZaP knd s.heap ks e/\e.1=tupleKeyHash knd ks:=fun e he=>by
  rcases List.mem_cons.mp (hpl.mem_iff.mp he) with rfl|he
  ·exact⟨ks,hself,rfl⟩
  ·exact hTS.ent e he
 have hvs1:∀e∈es1.toList,vs e.2:=fun e he=>by
  rcases List.mem_cons.mp (hpl.mem_iff.mp he) with rfl|he
  ·exact hv
  ·exact hvs e he
 have hP1:∀k,(∃e∈es1.toList,ZaP knd s.heap k e)↔(P k\/k=ks):=fun k=>by
  constructor
  ·rintro⟨e,he,hb⟩;rcases List.mem_cons.mp (hpl.mem_iff.mp he) with rfl|he
   ·obtain⟨b,f1,f2⟩:=hb;cases f1;exact .inr (Zcq f2 hk)
   ·exact .inl ((hP k).mp ⟨e,he,hb⟩)
  ·rintro(hk'|rfl)
   ·obtain⟨e,he,hb⟩:=(hP k).mpr hk';exact⟨e,hpl.mem_iff.mpr (List.mem_cons_of_mem _ he),hb⟩
   ·exact⟨_,hpl.mem_iff.mpr (List.mem_cons_self ..),hself⟩
 have fin:∀(h':Heap)(o':Obj)(es':Array (Int×Value))(ep':Nat)(t':SetTable),Heap.SameBut S s.heap h'->h'.get? S=some o'->o'.ExactSet->o'.data=.set es' ep' t'->es'.toList.Perm es1.toList->Tab es' t'->(∀(i:Nat) e j,es'[i]?= some e->t'.place[i]?= some j->Way t'.mask (· ∈ t'.place.toList) e.1 j)->t'.led=led->ZfE knd h' S vs (fun k=>P k\/k=ks) (n+1) led:=fun h' o' es' ep' t' sb ho' hx' hd' hp hT' hw' hl'=>by
  have biff:=fun k e=>Zg1 (knd:=knd) ho hd ho' hd' sb k e;have hl:es'.size=es1.size:=by rw[<- Array.length_toList,hp.length_eq,Array.length_toList]
  refine⟨o',es',ep',t',ho',hx',hd',⟨hT',fun e he=>?_,hw',?_⟩,by lia,hl',fun e he=>hvs1 e (hp.mem_iff.mp he),fun k=>?_⟩
  ·obtain⟨k,hb,e5⟩:=hent1 e (hp.mem_iff.mp he);exact⟨k,(biff k e).mp hb,e5⟩
  ·refine(hone1.perm hp).imp fun{x y} hxy k h1 h2=>hxy k ((biff k x).mpr h1) ((biff k y).mpr h2)
  ·refine Iff.trans ?_ (hP1 k);constructor
   ·rintro⟨e,he,hb⟩;exact⟨e,hp.mem_iff.mp he,(biff k e).mpr hb⟩
   ·rintro⟨e,he,hb⟩;exact⟨e,hp.mem_iff.mpr he,(biff k e).mp hb⟩
 refine wpAny_bind (wpAny_storeSet_of ho hd ?_ (by rw[hs1,sizeLine_eq];lia));have ho1:=Sts.stored ho hd es1 t2;have sb1:Heap.SameBut S s.heap (s.heap.update S (Obj.putSet es1 t2)):=Heap.SameBut.update ..;generalize s.heap.update S (Obj.putSet es1 t2)=h1 at ho1 sb1;have hfits:t2.fits es1.size=true:=by
  unfold SetTable.fits;rw[hp1,hs1,hfill,e1];simp;lia
 by_cases hfull:t2.tooFull=true
 ·rw[hfull,if_pos (by decide),<- hs1];refine wpAny_bind (Zkh (s:={ s with heap:=h1 }) ho1 rfl hfits (by lia) (by lia) fun es' t' h' hp hT' hw' hl' ho' sb'=>wpAny_pure ?_);exact q true h' (sb1.trans sb') (fin h' _ es' _ t' (sb1.trans sb') ho' hx rfl hp hT' hw' (by rw[hl',e4,hled]))
 ·have hnf:t2.tooFull=false:=by
   cases hc:t2.tooFull with
   | true=>exact absurd hc hfull
   | false=>rfl
  rw[hnf,if_neg (by decide)];refine wpAny_pure (q true h1 sb1 (fin h1 _ es1 _ t2 sb1 ho1 hx rfl (List.Perm.refl _) ⟨by rw[hp1,hs1],e3,by rw[e1];exact hT.good,?_,hris⟩ hway2 (by rw[e4,hled])));unfold SetTable.tooFull at hnf;have:=of_decide_eq_false hnf;lia
set_option maxHeartbeats 2000000 in
theorem ZgN{S a:Addr}{vs:Value->Prop}{P:List K->Prop}{n:Nat}{led:Bool}{ks:List K}{Q:Bool->Shared->Prop}(hu:A.units<cLine)(hS:ZfE knd s.heap S vs P n led)(hn:n<=900)(hk:IsTupleKey knd s.heap ks a)(hv:vs (.ref a))
  (q:∀b h',Heap.SameBut S s.heap h'->ZfE knd h' S vs (fun k=>P k\/k=ks) (n+1) led->Q b { s with heap:=h' }):wpAny (model prog w) A (setAddHashed S (.ref a) (tupleKeyHash knd ks)) Q E s:=by
 obtain⟨o,es,ep,t,ho,hx,hd,hTS,hsz,hled,hvs,hP⟩:=hS;have hT:=hTS.tab;have hr:=hT.room;have hfe:=hT.fill_eq;unfold setAddHashed;refine wpAny_holding ?_;unfold setAddHashedIn;refine wpAny_bind (wpAny_setState_of ho hd hT.fits ?_);have hbs:byScan (.ref a) es=false:=rfl;dsimp only;rw[hbs,if_neg (by decide)];obtain⟨m,hm1,hm2⟩:=Zc7 hT (tupleKeyHash knd ks);have hsm:=Zfa hT.good;unfold setSearch;refine wpAny_bind (Zil (knd:=knd) hu ho hd hTS hk (fun hex=>?_) (fun j hj hnone hway=>?_) 100000 m 0 none rfl (fun m hm=>absurd hm (Nat.not_lt_zero _)) hm2 hm1 (by lia))
 ·refine wpAny_pure (q false s.heap (Heap.SameBut.refl ..) ⟨o,es,ep,t,ho,hx,hd,hTS,by lia,hled,hvs,fun k=>(hP k).trans ⟨.inl,fun z=>?_⟩⟩);rcases z with z|rfl
  ·exact z
  ·exact(hP k).mp hex
 dsimp only;refine wpAny_bind (wpAny_setState_of ho hd hT.fits ?_);dsimp only;have hhas:SetTable.has t.dummies j=false:=by rw[hT.none];rfl
 have hput:t.put j=({ t with place:=SetTable.insertAt t.place (SetTable.below t.place j) j },SetTable.below t.place j):=by
  unfold SetTable.put;rw[hhas];rfl
 rw[hput];dsimp only;cases hpl:t.plain with
 | true =>
  rw[if_pos rfl];refine wpAny_bind (Zio hk fun b=>?_);cases b with
  | true =>
   rw[if_pos rfl];exact Zej ho hx hd hTS hsz hled hvs hP hn hk hv hj hnone hway rfl rfl hT.none rfl q
  | false =>
   rw[if_neg (by decide)];exact Zej ho hx hd hTS hsz hled hvs hP hn hk hv hj hnone hway rfl rfl hT.none rfl q
 | false =>
  rw[if_neg (by decide)];refine wpAny_bind (wpAny_pure ?_);rw[if_pos rfl];exact Zej ho hx hd hTS hsz hled hvs hP hn hk hv hj hnone hway rfl rfl hT.none rfl q
theorem Zmd{S a:Addr}{vs:Value->Prop}{P:List K->Prop}{n:Nat}{led:Bool}{ks:List K}{Q:Bool->Shared->Prop}(hu:A.units<cLine)(hS:ZfE knd s.heap S vs P n led)(hn:n<=900)(hk:IsTupleKey knd s.heap ks a)(hv:vs (.ref a))
  (q:∀b h' tk,s.toks<=tk->Heap.SameBut S s.heap h'->ZfE knd h' S vs (fun k=>P k\/k=ks) (n+1) led->Q b { s with heap:=h',toks:=tk }):wpAny (model prog w) A (setAdd S (.ref a)) Q E s:=by
 unfold setAdd;refine wpAny_holding (wpAny_bind (wpAny_pyHash_tuple hu hk ?_));exact ZgN (s:={ s with toks:=_ }) hu hS hn hk hv fun b h' sb hS'=>q b h' _ (Nat.le_add_right _ _) sb hS'
end
end Stg
namespace Srd
open PySem PyProof.Rows Srt PySem.W
structure Sto{α : Type}(lt : α -> α -> Bool):Prop where
 irr:∀a,lt a a=false
 trans:∀a b c,lt a b=true->lt b c=true->lt a c=true
 tri:∀a b,lt a b=false->lt b a=false->a=b
section
variable{α β : Type}{lt : α -> α -> Bool}{lt2 : β -> β -> Bool}
theorem Sto.asym(o:Sto lt){a b : α}(h:lt a b=true):lt b a=false:=by
 cases e:lt b a with
 | false=>rfl
 | true =>
  have:=o.trans a b a h e;rw[o.irr] at this;cases this
theorem Sto.neg(o:Sto lt){x y z : α}(h1:lt x y=false)(h2:lt y z=false):lt x z=false:=by
 cases e:lt x z with
 | false=>rfl
 | true =>
  cases e2:lt y x with
  | true=>rw[o.trans y x z e2 e] at h2;cases h2
  | false =>
   have:=o.tri x y h1 e2;subst this;rw[e] at h2;cases h2
theorem Sto.swo(o:Sto lt)(f:Value -> α):Swo fun x y=>lt (f x.1) (f y.1):=⟨fun _ _ h=>o.asym h,fun _ _ _ h1 h2=>o.neg h1 h2⟩
def ZjA[DecidableEq α](lt : α -> α -> Bool)(lt2 : β -> β -> Bool)(x y : α × β):Bool:=lt x.1 y.1 || (decide (x.1=y.1)&&lt2 x.2 y.2)
theorem Sto.lex[DecidableEq α](o:Sto lt)(o2:Sto lt2):Sto (ZjA lt lt2) where
 irr:=fun a=>by unfold ZjA;rw[o.irr,o2.irr];simp
 trans:=fun a b c h1 h2=>by
  unfold ZjA at *;simp only[Bool.or_eq_true,Bool.and_eq_true,decide_eq_true_eq] at *;rcases h1 with h1|⟨e1,h1⟩
  ·rcases h2 with h2|⟨e2,h2⟩
   ·exact .inl (o.trans _ _ _ h1 h2)
   ·exact .inl (e2 ▸ h1)
  ·rcases h2 with h2|⟨e2,h2⟩
   ·exact .inl (e1.symm ▸ h2)
   ·exact .inr ⟨e1.trans e2,o2.trans _ _ _ h1 h2⟩
 tri:=fun a b h1 h2=>by
  unfold ZjA at *;simp only[Bool.or_eq_false_iff,Bool.and_eq_false_imp,decide_eq_true_eq] at *;have e1:=o.tri _ _ h1.1 h2.1;have e2:=o2.tri _ _ (h1.2 e1) (h2.2 e1.symm);exact Prod.ext e1 e2
theorem Zfk:Sto fun a b:Int=>decide (a<b):=⟨fun a=>by simp,fun a b c h1 h2=>by simp only[decide_eq_true_eq] at *;lia,fun a b h1 h2=>by simp only[decide_eq_false_iff_not] at *;lia⟩
theorem ZcY:∀a b:List Nat,¬ a<b -> ¬ b<a->a=b
 | [],[],_,_=>rfl
 | [],b::bs,h,_=>absurd (List.nil_lt_cons b bs) h
 | a::as,[],_,h=>absurd (List.nil_lt_cons a as) h
 | a::as,b::bs,h1,h2=>by
  rw[List.cons_lt_cons_iff] at h1 h2;have e:a=b:=by
   rcases Nat.lt_trichotomy a b with z|z|z
   ·exact absurd (.inl z) h1
   ·exact z
   ·exact absurd (.inl z) h2
  subst e;rw[ZcY as bs (fun z=>h1 (.inr ⟨rfl,z⟩)) (fun z=>h2 (.inr ⟨rfl,z⟩))]
theorem ZaR:∀a:List Nat,¬ a<a
 | [],h=>by cases h
 | a::as,h=>by
  rw[List.cons_lt_cons_iff] at h;rcases h with h|⟨_,h⟩
  ·lia
  ·exact ZaR as h
theorem ZbU:∀a b c:List Nat,a<b->b<c->a<c
 | [],_,[],_,h2=>by cases h2
 | [],_,c::cs,_,_=>List.nil_lt_cons c cs
 | a::as,[],_,h1,_=>by cases h1
 | a::as,b::bs,[],_,h2=>by cases h2
 | a::as,b::bs,c::cs,h1,h2=>by
  rw[List.cons_lt_cons_iff] at *;rcases h1 with h1|⟨e1,h1⟩
  ·rcases h2 with h2|⟨e2,h2⟩
   ·exact .inl (by lia)
   ·exact .inl (by lia)
  ·rcases h2 with h2|⟨e2,h2⟩
   ·exact .inl (by lia)
   ·exact .inr ⟨by lia,ZbU as bs cs h1 h2⟩
theorem ZjC{x y:Str}(h:x.cps.toList=y.cps.toList):x=y:=by
 cases x;cases y
 congr 1
 exact Array.toList_inj.mp h
theorem ZjG:Sto fun a b:Str=>decide (a.cps.toList<b.cps.toList):=⟨fun a=>decide_eq_false (ZaR _),fun a b c h1 h2=>decide_eq_true (ZbU _ _ _ (of_decide_eq_true h1) (of_decide_eq_true h2)),fun a b h1 h2=>ZjC (ZcY _ _ (of_decide_eq_false h1) (of_decide_eq_false h2))⟩
end
abbrev Qd:=Int×Str×Int×Int
def qLt:Qd->Qd->Bool:=ZjA (fun a b:Int=>decide (a<b)) (ZjA (fun a b:Str=>decide (a.cps.toList<b.cps.toList)) (ZjA (fun a b:Int=>decide (a<b)) fun a b:Int=>decide (a<b)))
theorem Zcp:Sto qLt:=Zfk.lex (ZjG.lex (Zfk.lex Zfk))
def IsQ(h:Heap)(v:Value)(q:Qd):Prop := ∃a o t u t2 t3 n,v=.ref a/\h.get? a=some o/\o.cls=.type "tuple" /\ o.data=.seq #[.int q.1 t,.str q.2.1 u,.int q.2.2.1 t2,.int q.2.2.2 t3] n
theorem IsQ.inj{h:Heap}{v:Value}{q q':Qd}(x:IsQ h v q)(y:IsQ h v q'):q=q':=by
 obtain⟨a,o,t,u,t2,t3,n,rfl,h1,_,h3⟩:=x;obtain⟨a',o',t',u',t2',t3',n',e,h1',_,h3'⟩:=y;cases e;rw[h1] at h1';cases h1';rw[h3] at h3';obtain⟨q1,q2,q3,q4⟩:=q;obtain⟨r1,r2,r3,r4⟩:=q';simp only[Data.seq.injEq,Array.mk.injEq,List.cons.injEq,Value.int.injEq,Value.str.injEq,and_true] at h3';obtain⟨⟨⟨e1,_⟩,⟨e2,_⟩,⟨e3,_⟩,⟨e4,_⟩⟩,_⟩:=h3';rw[e1,e2,e3,e4]
theorem IsQ.keep{h h':Heap}{v:Value}{q:Qd}(x:IsQ h v q)(k:∀b o,h.get? b=some o->h'.get? b=some o):IsQ h' v q:=by
 obtain⟨a,o,t,u,t2,t3,n,rfl,h1,r⟩:=x;exact⟨a,o,t,u,t2,t3,n,rfl,k _ _ h1,r⟩
open Classical in
noncomputable def kq(h:Heap)(v:Value):Qd:=if x:∃q,IsQ h v q then x.choose else(0,Str.empty,0,0)
theorem ZgV{h:Heap}{v:Value}{q:Qd}(x:IsQ h v q):kq h v=q:=by
 unfold kq;rw[dif_pos ⟨q,x⟩];exact(Exists.choose_spec (⟨q,x⟩:∃q,IsQ h v q)).inj x
section
variable{prog:Program}{w:World}{A:Around}{s:Shared}
theorem ZhD{h:Heap}:∀{vs:List Value},(∀v∈vs,∃q,IsQ h v q)->∃fs,KatTups h vs fs/\fs.length=vs.length/\∀f∈fs,∃i t,f=.int i t
 | [],_=>⟨[],trivial,rfl,fun _ h=>nomatch h⟩
 | v::vs,hv=>by
  obtain⟨q,a,o,t,u,t2,t3,n,rfl,ho,hc,hd⟩:=hv v (List.mem_cons_self ..);obtain⟨fs,kt,hl,hf⟩:=ZhD (vs:=vs) fun x hx=>hv x (List.mem_cons_of_mem _ hx);refine⟨.int q.1 t::fs,KatTups.cons ho hc hd rfl kt,by simp[hl],fun f hm=>?_⟩;rcases List.mem_cons.mp hm with rfl|hm
  ·exact⟨_,t,rfl⟩
  ·exact hf f hm
theorem Zcv{h0:Heap}{vs:List Value}(hv:∀v∈vs,∃q,IsQ h0 v q)(k0:∀b o,h0.get? b=some o->s.heap.get? b=some o)(h2:2<=vs.length):Zb8 prog w A (fun u v=>qLt (kq h0 u) (kq h0 v)) vs s:=by
 have hv':∀v∈vs,∃q,IsQ s.heap v q:=fun v hm=>let ⟨q,x⟩:=hv v hm;⟨q,x.keep k0⟩;obtain⟨fs,k,hl,hf⟩:=ZhD hv';refine⟨tuples' true,fun Q E hq=>?_,?_⟩
 ·refine kat_kind (T:=.type "int") k (by lia) (fun v hm=>?_) rfl hq;obtain⟨i,t,rfl⟩:=hf v hm;exact Looks.of_pure rfl
 ·intro x y hx hy E;rw[pairsOf_toList] at hx hy;obtain⟨q,xq⟩:=hv _ (mem_zip_self hx).2;obtain⟨q',yq⟩:=hv _ (mem_zip_self hy).2;have e1:(fun x y:Keyed=>qLt (kq h0 x.1) (kq h0 y.1)) x y=qLt q q':=by
   show qLt (kq h0 x.1) (kq h0 y.1)=_;have hx1:=(mem_zip_self hx);have hy1:=(mem_zip_self hy);rw[ZgV xq,ZgV yq]
  rw[e1];obtain⟨a,o,t,u,t2,t3,n,e,ho,hc,hd⟩:=xq.keep k0;obtain⟨a',o',t',u',t2',t3',n',e',ho',hc',hd'⟩:=yq.keep k0;rw[e,e'];obtain⟨q1,q2,q3,q4⟩:=q;obtain⟨r1,r2,r3,r4⟩:=q';refine kat_lt ho hd ho' hd' ?_;have unf:qLt (q1,q2,q3,q4) (r1,r2,r3,r4)=(decide (q1<r1) || (decide (q1=r1)&&(decide (q2.cps.toList<r2.cps.toList) || (decide (q2=r2)&&(decide (q3<r3) || (decide (q3=r3)&&decide (q4<r4))))))):=rfl;rw[unf];refine kat_cons (wpAny_eqBool_int (kat_go (fun c1=>kat_yes ?_) (fun c1=>kat_no ?_)))
  ·have c1':q1=r1:=eq_of_beq c1;refine kat_cons (wpAny_eqBool_str (kat_go (fun c2=>kat_yes ?_) (fun c2=>kat_no ?_)))
   ·have c2':q2=r2:=of_decide_eq_true c2;refine kat_cons (wpAny_eqBool_int (kat_go (fun c3=>kat_yes ?_) (fun c3=>kat_no ?_)))
    ·have c3':q3=r3:=eq_of_beq c3;refine kat_cons (wpAny_eqBool_int (kat_go (fun c4=>kat_yes (kat_nil ⟨rfl,?_⟩)) (fun c4=>kat_no ?_)))
     ·have c4':q4=r4:=eq_of_beq c4;subst c1' c2' c3' c4';rw[decide_eq_false (ZaR q2.cps.toList)];simp
     ·refine kat_one _ _ (wpAny_lt_int ⟨rfl,?_⟩);subst c1' c2' c3';rw[decide_eq_false (ZaR q2.cps.toList)];simp
    ·refine kat_one _ _ (wpAny_lt_int ⟨rfl,?_⟩);have c3' : ¬ q3=r3:=fun z=>by rw[z] at c3;simp at c3
     subst c1' c2';rw[decide_eq_false (ZaR q2.cps.toList)];simp[c3']
   ·refine kat_one _ _ (PyProof.Rows.lt_str ⟨rfl,?_⟩);have c2' : ¬ q2=r2:=of_decide_eq_false c2;subst c1';simp[c2']
  ·refine oneLt_int ⟨rfl,?_⟩;have c1' : ¬ q1=r1:=fun z=>by rw[z] at c1;simp at c1
   simp[c1']
end
end Srd
namespace Stg
open PySem PyProof.Rows PySem.W Sts
section
variable{prog:Program}{w:World}{A:Around}{E:Value->Shared->Prop}{s:Shared}
theorem ZhB(es:Array (Int×Value)):(List.range es.size).map (fun j=>(es.getD j (0,.none)).2)=es.toList.map (·.2):=by
 refine List.ext_getElem? fun i=>?_;rw[List.getElem?_map,List.getElem?_map];by_cases hi:i<es.size
 ·rw[List.getElem?_range hi,Array.getElem?_toList,Array.getElem?_eq_getElem hi];simp[Array.getD,hi]
 ·rw[List.getElem?_eq_none (by rw[List.length_range];lia),List.getElem?_eq_none (by rw[Array.length_toList];lia)];rfl
set_option maxHeartbeats 1000000 in
theorem ZjH{S:Addr}{o:Obj}{es:Array (Int×Value)}{ep:Nat}{t:SetTable}{Q:Value->Shared->Prop}(ho:s.heap.get? S=some o)(hx:o.ExactSet)(hd:o.data=.set es ep t)(hT:Tab es t)(hled:t.led=Zft w)(hn:es.size<=900)
  (q:∀(I T:Addr)(ys:List Value)(h':Heap)(d:Drawn),(∀b o,s.heap.get? b=some o->h'.get? b=some o)->SIt w h' I S T es ep t ys 0->ys.length=es.size->S≠I->T≠I->ys.Perm (es.toList.map (·.2))->s.heap.objs.size<=I->(T=S\/s.heap.objs.size<=T)->Q (.ref I) { s with heap:=h',drawn:=d }) :
  wpAny (model prog w) A (pyIter (.ref S)) Q E s:=by
 have hty:s.TypeIs (.ref S) "set" := ⟨o,ho,hx.1⟩;have hf:=hT.fits;refine wpAny_pyIter_slot hty PySem.F.slot_set_iter (wpAny_call_entry PySem.F.slot_set_iter hty Ze7 ?_ (PySem.F.args_set_iter_1 _));unfold Builtin.«frozenset.__iter__»;refine wpAny_bind ?_;unfold Builtin.Frozenset.slot0;refine wpAny_bind (wpAny_pure ?_);change wpAny _ A.in1 (pure S) _ _ s;refine wpAny_pure (wpAny_bind ?_);unfold Builtin.Frozenset.sizeOf;refine wpAny_bind (Ze9 ho hd hf (wpAny_pure (wpAny_bind (ZjF ho hd hf ?_))));have ep_:∀{s1:Shared}{Q1:Nat->Shared->Prop}{E1:Value->Shared->Prop},s1.heap.get? S=some o->Q1 ep s1->wpAny (model prog w) A.in1 (setEpoch S) Q1 E1 s1:=fun ho1 h=>by
  unfold setEpoch;exact wpAny_bind (wpAny_setState_of ho1 hd hf (wpAny_pure h))
 cases hdr:(!w.params.followText "set-order" && (!t.plain&&decide (es.size > 1))) with
 | true =>
  rw[if_pos rfl];have hf0:w.params.followText "set-order" = false:=by
   cases hc:w.params.followText "set-order" with
   | false=>rfl
   | true=>rw[hc] at hdr;cases hdr
  refine wpAny_bind (Zhf es.size (List.range es.size) s List.length_range fun perm d hp=>?_);have hpl:perm.length=es.size:=by rw[hp.length_eq,List.length_range]
  refine wpAny_bind (wpAny_newTuple ?_ (by rw[List.length_map,hpl,sizeLine_eq];lia));dsimp only;refine wpAny_bind (ep_ (Heap.get?_push_of_some _ ho) ?_);unfold newFields;refine wpAny_bind (wpAny_newObj_type (wpAny_pure ⟨_,rfl,"set_iterator",_,⟨_,Heap.get?_push_size _ rfl,rfl⟩,Zaq.lookup,?_⟩));have hsz1:(s.heap.push { cls:=.type "tuple",data:=.seq (perm.map fun(i:Nat)=>rawInt (i:Int)).toArray }).objs.size=s.heap.objs.size+1:=Heap.size_push ..;refine q _ s.heap.objs.size (perm.map fun j=>(es.getD j (0,.none)).2) _ d (fun b o e=>Heap.get?_push_of_some _ (Heap.get?_push_of_some _ e)) ⟨⟨o,Heap.get?_push_of_some _ (Heap.get?_push_of_some _ ho),hd⟩,hf,_,_,Heap.get?_push_size _ rfl,rfl,rfl,.inr (.inr ⟨_,_,_,rfl,Heap.get?_push_of_some _ (Heap.get?_push_size _ rfl),rfl,?_,fun k v hk=>?_⟩)⟩ (by rw[List.length_map,hpl]) ?_ ?_ ?_ ?_ (.inr (Nat.le_refl _))
  ·rw[List.length_map,hpl]
  ·have hk':(perm.map fun(i:Nat)=>rawInt (i:Int))[k]?= some v:=by rw[<- hk];simp
   rw[List.getElem?_map] at hk';obtain⟨j,hj,rfl⟩:=Option.map_eq_some_iff.mp hk';have hjs:j<es.size:=List.mem_range.mp (hp.mem_iff.mp (List.mem_of_getElem? hj));refine⟨j,0,rfl,?_,hjs⟩;rw[List.getElem?_map,hj,Array.getElem?_eq_getElem hjs];simp[Array.getD,hjs]
  ·rw[hsz1];exact Nat.ne_of_lt (Nat.lt_succ_of_lt (Heap.lt_size ho))
  ·rw[hsz1];exact Nat.ne_of_lt (Nat.lt_succ_self _)
  ·exact(hp.map _).trans (List.Perm.of_eq (ZhB es))
  ·rw[hsz1];exact Nat.le_succ _
 | false =>
  rw[if_neg (by decide)];refine wpAny_bind (wpAny_pure ?_);dsimp only;refine wpAny_bind (ep_ ho ?_);unfold newFields;refine wpAny_bind (wpAny_newObj_type (wpAny_pure ⟨_,rfl,"set_iterator",_,⟨_,Heap.get?_push_size _ rfl,rfl⟩,Zaq.lookup,?_⟩));have nI:S≠s.heap.objs.size:=Nat.ne_of_lt (Heap.lt_size ho);cases hft:w.params.followText "set-order" with
  | true =>
   have hpk:(pickOrder (w.params.setOrder S ep) es).toList.Perm es.toList:=by
    have:=Zeq (w.params.setOrder S ep) es.size 0 es.toList #[] (Array.length_toList)
    simpa[pickOrder] using this
   refine q _ S ((pickOrder (w.params.setOrder S ep) es).toList.map (·.2)) _ s.drawn (fun b o e=>Heap.get?_push_of_some _ e) ⟨⟨o,Heap.get?_push_of_some _ ho,hd⟩,hf,_,_,Heap.get?_push_size _ rfl,rfl,rfl,.inl ⟨0,rfl,hft,rfl⟩⟩ (by rw[List.length_map,hpk.length_eq,Array.length_toList]) nI nI (hpk.map _) (Nat.le_refl _) (.inl rfl)
  | false =>
   rw[hft] at hdr;have hl1:t.led=true:=by rw[hled];show(!w.params.followText "set-order")=true;rw[hft];rfl
   refine q _ S (es.toList.map (·.2)) _ s.drawn (fun b o e=>Heap.get?_push_of_some _ e) ⟨⟨o,Heap.get?_push_of_some _ ho,hd⟩,hf,_,_,Heap.get?_push_size _ rfl,rfl,rfl,.inr (.inl ⟨0,rfl,hft,hdr,hl1,Zgr hT.ris,hT.ris,rfl⟩)⟩ (by rw[List.length_map,Array.length_toList]) nI nI (List.Perm.refl _) (Nat.le_refl _) (.inl rfl)
set_option maxHeartbeats 1000000 in
theorem Zcu{S:Addr}{oS:Obj}{es:Array (Int×Value)}{ep:Nat}{t:SetTable}{Q:List Value->Shared->Prop}(hh:A.handled=none)(hoS:s.heap.get? S=some oS)(hxS:oS.ExactSet)(hd:oS.data=.set es ep t)(hT:Tab es t)(hled:t.led=Zft w)(hn:es.size<=900)
  (q:∀(ys:List Value)(h':Heap)(tk:Nat)(d:Drawn),(∀b o,s.heap.get? b=some o->h'.get? b=some o)->ys.Perm (es.toList.map (·.2))->s.heap.objs.size<=h'.objs.size->Q ys { s with heap:=h',toks:=tk,drawn:=d }):wpAny (model prog w) A (collect (.ref S)) Q E s:=by
 unfold collect;refine wpAny_bind (wpAny_runValue (codeAny_builtin entry_proto_collect' ?_));change wpAny _ _ (do again (.builtin "list.__iadd__" ⟨[<- newList [],.ref S],[]⟩)) _ _ s;refine wpAny_bind (wpAny_newList (wpAny_pure ⟨Code.quiet_builtin _ (by decide +kernel),codeAny_builtin entry_list_iadd' ?_⟩));change wpAny _ _ (Builtin.List.listExtendWith (.ref s.heap.objs.size) (.ref S) (.ref s.heap.objs.size)) _ _ { s with heap:=s.heap.push (seqObj "list" #[] 0) };have hSlt:=Heap.lt_size hoS;have hL:(s.heap.push (seqObj "list" #[] 0)).get? s.heap.objs.size=some (seqObj "list" #[] 0):=Heap.get?_push_size _ rfl;have hty:Shared.TypeIs { s with heap:=s.heap.push (seqObj "list" #[] 0) } (.ref S) "set" := ⟨oS,Heap.get?_push_of_some _ hoS,hxS.1⟩;unfold Builtin.List.listExtendWith;refine wpAny_bind (wpAny_typeOf (T := "set") hty ?_);have nLS:s.heap.objs.size≠S:=Nat.ne_of_gt hSlt;have h1:Builtin.List.listSameRef (.ref s.heap.objs.size) (.ref S)=false:=by simp[Builtin.List.listSameRef,nLS]
 rw[h1,if_neg (by decide)];refine wpAny_bind (ZjH (s:={ s with heap:=s.heap.push (seqObj "list" #[] 0) }) (Heap.get?_push_of_some _ hoS) hxS hd hT hled hn fun I T ys h2 d k2 x hy nSI nTI hvs hI hTp=>?_);have hIlt:s.heap.objs.size<I:=by
  refine Nat.lt_of_lt_of_le ?_ hI;show s.heap.objs.size<(s.heap.push (seqObj "list" #[] 0)).objs.size;rw[Heap.size_push];exact Nat.lt_succ_self _
 have hL2:=k2 _ _ hL;have nTL:s.heap.objs.size≠T:=by
  rcases hTp with rfl|hTp
  ·exact nLS
  ·refine Nat.ne_of_lt (Nat.lt_of_lt_of_le ?_ hTp);show s.heap.objs.size<(s.heap.push (seqObj "list" #[] 0)).objs.size;rw[Heap.size_push];exact Nat.lt_succ_self _
 have hLf:s.heap.objs.size ∉ [I,S,T]:=by
  simp only[List.mem_cons,List.not_mem_nil,or_false,not_or];exact⟨Nat.ne_of_lt hIlt,nLS,nTL⟩
 have W:=Ziv (prog:=prog) (w:=w) (A:=A.in1) (t:=t) (ep:=ep) hh nSI nTI hy;have keep0:∀b o,s.heap.get? b=some o->h2.get? b=some o:=fun b o e=>k2 b o (Heap.get?_push_of_some _ e);have hb1:∀b o,s.heap.get? b=some o->b≠s.heap.objs.size:=fun b o e=>Nat.ne_of_lt (Heap.lt_size e);have hbI:∀b o,s.heap.get? b=some o->b≠I:=fun b o e=>Nat.ne_of_lt (Nat.lt_trans (Heap.lt_size e) hIlt);have key:∀(h:Heap)(c₁ tk:Nat),SIt w h I S T es ep t ys 0->(∀b o,b≠s.heap.objs.size->h2.get? b=some o->h.get? b=some o)->h.get? s.heap.objs.size=some { cls:=.type "list",data:=.seq #[] c₁ } ->
   codeAny (model prog w) A (.builtin "list.extend.loop" ⟨[.ref s.heap.objs.size,.ref I,.ref s.heap.objs.size],[]⟩) (wants (fun v s'=>wpAny (model prog w) A (match v with
     | Value.ref a=>do
      let o <- load a
      match o.data with
      | .seq xs _=>pure xs.toList
      | _=>unsupported "internal:collect"
     | _=>unsupported "internal:collect") Q E s') E) { s with heap:=h,drawn:=d,toks:=tk }:=by
  intro h c₁ tk hst hk hL3;refine codeAny_extend_loopS W.toS (by rw[sizeLine_eq];lia) s.heap.objs.size hLf _ ys.length 0 _ #[] c₁ rfl (Nat.zero_le _) hst hL3 (ItemsOf.nil _) fun s' acc' c' hm hL4 hacc=>?_;rw[Moved.eq_with hm];refine wpAny_bind (wpAny_load hL4 ?_);refine wpAny_pure ?_;have hacc2:acc'.toList=ys:=by
   refine List.ext_getElem? fun j=>?_;rw[Array.getElem?_toList];cases hj:acc'[j]? with
   | none =>
    have h3:acc'.size<=j:=Array.getElem?_eq_none_iff.mp hj;rw[hacc.1] at h3;rw[List.getElem?_eq_none h3]
   | some v=>rw[hacc.2 j v hj]
  rw[hacc2];refine q ys s'.heap s'.toks d (fun b o e=>hm.heap b o (fun hmem=>?_) (hk b o (hb1 b o e) (keep0 b o e))) hvs (Nat.le_of_lt (Heap.lt_size hL4));rcases List.mem_cons.mp hmem with z|z
  ·exact hb1 b o e z
  ·exact hbI b o e (List.mem_singleton.mp z)
 refine wpAny_bind (wpAny_holding (Zix ⟨oS,k2 S oS (Heap.get?_push_of_some _ hoS),hxS.1⟩ ?_));refine wpAny_ite_split (fun _=>?_) (fun _=>wpAny_pure ⟨plainId_quiet PySem.F.plain_extend_loop _,key h2 0 _ x (fun b o _ e=>e) hL2⟩);refine wpAny_bind (wpAny_rule (wpAny_bind ?_));change wpAny _ _ (updateSeq s.heap.objs.size (·.push .none) >>= fun _=>updateSeq s.heap.objs.size (·.pop)) _ _ _;refine wpAny_bind (wpAny_updateSeq hL2 rfl ?_);have hL3:=Heap.get?_update_self (Obj.mapSeq (·.push Value.none)) hL2 rfl;refine wpAny_updateSeq (hz:=by seq_fits) hL3 rfl ?_;have hL4:=Heap.get?_update_self (Obj.mapSeq (·.pop)) hL3 rfl;have oth:∀b o,b≠s.heap.objs.size->h2.get? b=some o->((h2.update s.heap.objs.size (Obj.mapSeq (·.push Value.none))).update s.heap.objs.size (Obj.mapSeq (·.pop))).get? b=some o:=fun b o hb e=>(Heap.get?_update_other _ _ (Ne.symm hb)).trans ((Heap.get?_update_other _ _ (Ne.symm hb)).trans e);exact wpAny_pure ⟨plainId_quiet PySem.F.plain_extend_loop _,key _ _ _ (W.frame 0 _ _ x fun b hb o e=>oth b o (fun z=>hLf (z ▸ hb)) e) oth hL4⟩
end
end Stg
namespace Stg
open PySem PyProof.Rows Sts
section
variable{prog:Program}{w:World}{K:Type}[DecidableEq K]{knd:KeyKind prog w K}{A:Around}{E:Value->Shared->Prop}{s:Shared}
def ZgM(knd:KeyKind prog w K)(h:Heap)(S:Addr)(G:List (Int×Value)->Prop)(n:Nat)(led:Bool):Prop :=
 ∃o es ep t,h.get? S=some o/\o.ExactSet/\o.data=.set es ep t/\ZkU knd true h es/\Tab es t/\es.size<=n/\t.led=led/\G es.toList
set_option maxHeartbeats 1000000 in
theorem ZfT{g:Bool->Sem Unit}(hg:∀(b:Bool)(s₁ : Shared)(Q':Unit->Shared->Prop),Q' () s₁ -> wpAny (model prog w) A (g b) Q' E s₁)
  {S:Addr} {o:Obj} {es es1:Array (Int×Value)} {ep:Nat} {t t2:SetTable} {G:List (Int×Value)->Prop} (gp:∀l l',List.Perm l' l->G l->G l') {n:Nat} {led:Bool} {Q:Option Bool->Shared->Prop} (ho:s.heap.get? S=some o) (hx:o.ExactSet) (hd:o.data=.set es ep t)
  (hE:ZkU knd true s.heap es1) (hvs:G es1.toList) (h1:1<=es1.size) (hn:es1.size<=1000) (hsz:es1.size<=n) (hp:t2.place.size=es1.size) (hd2:t2.dummies=#[]) (hg2:Good t2.mask) (hris:Ris t2.place) (hled:t2.led=led)
  (q:∀h',Heap.SameBut S s.heap h'->ZgM knd h' S G n led->Q (some true) { s with heap:=h' }) :
  wpAny (model prog w) A (do
   storeSet S es1 t2
   if(!false&&t2.tooFull)=true then do
     g (relayAll t2 es1 (SetTable.grown es1.size)).2.2
     storeSet S (relayAll t2 es1 (SetTable.grown es1.size)).1 (relayAll t2 es1 (SetTable.grown es1.size)).2.1
     pure (some true)
    else pure (some true)) Q E s:=by
 refine wpAny_bind (wpAny_storeSet_of ho hd ?_ (by rw[sizeLine_eq];lia));have ho1:=stored ho hd es1 t2;have sb1:Heap.SameBut S s.heap (s.heap.update S (Obj.putSet es1 t2)):=Heap.SameBut.update ..;generalize s.heap.update S (Obj.putSet es1 t2)=hp1 at ho1 sb1;by_cases hfull:t2.tooFull=true
 ·rw[hfull,if_pos (by decide)];obtain⟨es2,t3,gv,e,hpm,hT3,hl3⟩:=ZeQ (t:=t2) h1 hn;rw[e];dsimp only;have hz2:es2.size=es1.size:=by rw[<- Array.length_toList,hpm.length_eq,Array.length_toList]
  refine wpAny_bind (hg _ _ _ (wpAny_bind (wpAny_storeSet_of (s:={ s with heap:=hp1 }) ho1 rfl ?_ (by rw[hz2,sizeLine_eq];lia))));have ho2:=stored ho1 rfl es2 t3;have sb2:Heap.SameBut S hp1 (hp1.update S (Obj.putSet es2 t3)):=Heap.SameBut.update ..;exact wpAny_pure (q _ (sb1.trans sb2) ⟨_,es2,_,t3,ho2,hx,rfl,fun e he=>hE e (hpm.mem_iff.mp he),hT3,by lia,by rw[hl3,hled],gp _ _ hpm hvs⟩)
 ·have hnf:t2.tooFull=false:=by
   cases hc:t2.tooFull with
   | true=>exact absurd hc hfull
   | false=>rfl
  rw[hnf,if_neg (by decide)];refine wpAny_pure (q hp1 sb1 ⟨_,es1,_,t2,ho1,hx,rfl,hE,⟨hp,hd2,hg2,?_,hris⟩,hsz,hled,hvs⟩);unfold SetTable.tooFull at hnf;have:=of_decide_eq_false hnf;lia
set_option maxHeartbeats 2000000 in
theorem ZgD{S:Addr}{G G':List (Int×Value)->Prop}(gp:∀l l',List.Perm l' l->G' l->G' l'){n i tk:Nat}{k:Int}{led:Bool}{Q:Bool->Shared->Prop}(hS:ZgM knd s.heap S G n led)(hn:n<=900)(g0:∀l,G l->(∃e∈l,(intKind prog w).is k e.2=true)->G' l)(g1:∀l x,G l->(∀e∈l,(intKind prog w).is k e.2=false)->G' ((x,Value.int k tk)::l))
  (q:∀b h',Heap.SameBut S s.heap h'->ZgM knd h' S G' (n+1) led->Q b { s with heap:=h' }):wpAny (model prog w) A (setAddHashed S (.int k tk) ((intKind prog w).hash k)) Q E s:=by
 obtain⟨o,es,ep,t,ho,hx,hd,hE,hT,hsz,hled,hvs⟩:=hS;have hkey:(intKind prog w).is k (Value.int k tk)=true:=intKind_is _ _ _ _;have hb:es.size<scanBound:=by show es.size<4096;lia
 unfold setAddHashed setAddHashedIn;refine wpAny_holding (wpAny_bind (wpAny_setState_of ho hd hT.fits ?_));dsimp only;rw[byScan_of (knd:=intKind prog w) rfl hb (Zdw hE)];simp only[↓reduceIte];unfold setAddByScan;refine wpAny_bind ?_;refine wpAny_bind (wpAny_rule ?_);refine wpAny_bind (wpAny_setScan_of (knd:=intKind prog w) hkey ho hd hT.fits (Zdw hE) ?_);cases hr:List.findIdx? (fun e=>(intKind prog w).is k e.2) es.toList with
 | some j =>
  dsimp only;obtain⟨hj,hpj,_⟩:=List.findIdx?_eq_some_iff_getElem.mp hr;exact wpAny_pure (wpAny_pure (q false s.heap (Heap.SameBut.refl ..) ⟨o,es,ep,t,ho,hx,hd,hE,hT,by lia,hled,g0 _ hvs ⟨es.toList[j],List.getElem_mem hj,hpj⟩⟩))
 | none =>
  dsimp only;obtain⟨j,hj,eL⟩:=ZhG hT ((intKind prog w).hash k) (Value.int k tk);rw[eL];dsimp only;have hins:=SetTable.insertAt_perm es (SetTable.below t.place j) ((intKind prog w).hash k,Value.int k tk);have hmem:∀e∈(SetTable.insertAt es (SetTable.below t.place j) ((intKind prog w).hash k,Value.int k tk)).toList,e∈es.toList\/e=((intKind prog w).hash k,Value.int k tk):=fun e he=>by
   have:=hins.mem_iff.mp he;rw[Array.toList_push] at this;rcases List.mem_append.mp this with z|z
   ·exact .inl z
   ·exact .inr (List.mem_singleton.mp z)
  have hG1:G' (SetTable.insertAt es (SetTable.below t.place j) ((intKind prog w).hash k,Value.int k tk)).toList:=by
   refine gp _ _ ?_ (g1 es.toList ((intKind prog w).hash k) hvs fun e he=>?_)
   ·refine hins.trans ?_;rw[Array.toList_push];exact List.perm_append_comm (l₁ := es.toList) (l₂ :=[_])
   ·exact List.findIdx?_eq_none_iff.mp hr e he
  have hs1:(SetTable.insertAt es (SetTable.below t.place j) ((intKind prog w).hash k,Value.int k tk)).size=es.size+1:=by
   rw[<- Array.length_toList,hins.length_eq,Array.length_toList,Array.size_push]
  have hp1:(SetTable.insertAt t.place (SetTable.below t.place j) j).size=es.size+1:=by
   rw[<- Array.length_toList,(SetTable.insertAt_perm t.place (SetTable.below t.place j) j).length_eq,Array.length_toList,Array.size_push,hT.size]
  have hris:Ris (SetTable.insertAt t.place (SetTable.below t.place j) j):=Zcm hT.ris (Zbj hT.ris hj);generalize SetTable.insertAt es (SetTable.below t.place j) ((intKind prog w).hash k,Value.int k tk)=es1 at hmem hs1 hG1;have hE1:ZkU knd true s.heap es1:=fun e he=>by
   rcases hmem e he with z|z
   ·exact hE e z
   ·subst z;exact⟨k,tk,rfl,rfl⟩
  refine wpAny_bind (wpAny_pure ?_)
  split
  ·refine wpAny_bind ?_;rw[hashByValue_scannable 8 (x:=Value.int k tk) rfl];refine wpAny_pure ?_;refine ZfT (gp:=gp) (fun b s₁ Q' hq=>by cases b <;> first|exact wpAny_pure hq|exact wpAny_rule hq) ho hx hd hE1 hG1 (by lia) (by lia) (show es1.size<=n+1 by lia) (by rw[hs1];exact hp1) hT.none hT.good hris hled fun h' sb hS'=>?_
   exact wpAny_pure (q true h' sb hS')
  ·refine wpAny_bind (wpAny_pure ?_);refine ZfT (gp:=gp) (fun b s₁ Q' hq=>by cases b <;> first|exact wpAny_pure hq|exact wpAny_rule hq) ho hx hd hE1 hG1 (by lia) (by lia) (show es1.size<=n+1 by lia) (by rw[hs1];exact hp1) hT.none hT.good hris hled fun h' sb hS'=>?_
   exact wpAny_pure (q true h' sb hS')
theorem Zmm{S:Addr}{k:Int}{tk:Nat}{G G':List (Int×Value)->Prop}(gp:∀l l',List.Perm l' l->G' l->G' l'){n:Nat}{led:Bool}{Q:Bool->Shared->Prop}(hS:ZgM knd s.heap S G n led)(hn:n<=900)(g0:∀l,G l->(∃e∈l,(intKind prog w).is k e.2=true)->G' l)(g1:∀l x,G l->(∀e∈l,(intKind prog w).is k e.2=false)->G' ((x,Value.int k tk)::l))
  (q:∀r h' tk,s.toks<=tk->Heap.SameBut S s.heap h'->ZgM knd h' S G' (n+1) led->Q r { s with heap:=h',toks:=tk }):wpAny (model prog w) A (setAdd S (.int k tk)) Q E s:=by
 unfold setAdd;refine wpAny_holding (wpAny_bind ((intKind prog w).pyHash (intKind_is _ _ _ _) ?_));exact ZgD gp (i:=0) (s:={ s with toks:=_ }) hS hn g0 g1 fun b h' sb hS'=>q b h' _ (Nat.le_add_right _ _) sb hS'
end
section
variable{prog:Program}{w:World}{A:Around}{R:Result->Shared->Prop}
structure Goes(prog:Program)(w:World)(A:Around)(S:Addr)(items:Array Value)(J:Nat->Heap->Prop):Prop where
 keep:∀i h h',J i h->(∀b o,b<=S->h.get? b=some o->h'.get? b=some o)->J i h'
 add:∀(i:Nat) v (s:Shared) (Q:Bool->Shared->Prop) (E:Value->Shared->Prop),items[i]?= some v->J i s.heap->(∀b h' tk,Heap.SameBut S s.heap h'->J (i+1) h'->Q b { s with heap:=h',toks:=tk })->wpAny (model prog w) A (setAdd S v) Q E s
theorem ZgX{S I l:Addr}{items:Array Value}{J:Nat->Heap->Prop}(hh:A.in1.handled=none)(g:Goes prog w A.in1 S items J)(hSI:S<I)(hlI:l≠I):∀(k i:Nat)(s:Shared),items.size-i=k->i<=items.size->(s.heap.IsListIter I l i/\s.heap.IsList l items)->l<S->J i s.heap ->
   (∀h' tk,J items.size h'->(∀b o,b<S->s.heap.get? b=some o->h'.get? b=some o)->R (.ok (.ret .none)) { s with heap:=h',toks:=tk })->codeAny (model prog w) A (.builtin "set.update.loop" ⟨[.ref S,.ref I],[]⟩) R s:=by
 have W:=Walks.list (prog:=prog) (w:=w) (A:=A.in1) hh I l hlI items;intro k
 induction k with
 | zero =>
  intro i s hk hi hst hlS hw hR;obtain rfl:i=items.size:=by lia
  refine codeAny_builtin F.entry_set_update_loop ?_;rw[Around.under_plainId F.plain_set_update_loop _];change wpAny _ A.in1 (pyNext (.ref I) >>= _) _ _ s;refine wpAny_bind (W.done s _ _ hst fun h' tk hm=>?_);change wpAny _ A.in1 (ret Value.none) _ _ _;have hkk:∀b o,b<=S->s.heap.get? b=some o->h'.get? b=some o:=fun b o hb e=>hm b o (fun z=>Nat.lt_irrefl _ (Nat.lt_of_le_of_lt (List.mem_singleton.mp z ▸ hb) hSI)) e;exact wpAny_pure (hR h' tk (g.keep _ _ _ hw hkk) fun b o hb e=>hkk b o (Nat.le_of_lt hb) e)
 | succ k ih =>
  intro i s hk hi hst hlS hw hR;have hlt:i<items.size:=by lia
  refine codeAny_builtin F.entry_set_update_loop ?_;rw[Around.under_plainId F.plain_set_update_loop _];change wpAny _ A.in1 (pyNext (.ref I) >>= _) _ _ s;refine wpAny_bind (W.item i s _ _ hlt hst fun v h' tk hP hst' hm=>?_);have hkk:∀b o,b<=S->s.heap.get? b=some o->h'.get? b=some o:=fun b o hb e=>hm b o (fun z=>Nat.lt_irrefl _ (Nat.lt_of_le_of_lt (List.mem_singleton.mp z ▸ hb) hSI)) e;have hw':=g.keep _ _ _ hw hkk;change wpAny _ A.in1 (holding [v] (setAdd S v) >>= _) _ _ _;refine wpAny_bind (wpAny_holding (g.add i v { s with heap:=h',toks:=tk } _ _ hP hw' fun b1 h2 tk2 sb hS2=>?_));have hk2:∀b o,b≠S->h'.get? b=some o->h2.get? b=some o:=fun b o hb e=>(sb.2 b hb).trans e;refine wpAny_pure ⟨plainId_quiet F.plain_set_update_loop _,ih (i+1) _ (by lia) hlt ?_ hlS hS2 fun h3 tk3 hw3 hb3=>hR h3 tk3 hw3 fun b o hb e=>hb3 b o hb (hk2 b o (Nat.ne_of_lt hb) (hkk b o (Nat.le_of_lt hb) e))⟩;refine W.frame _ h' h2 hst' fun b hb o e=>hk2 b o (fun z=>?_) e;simp only[List.mem_cons,List.not_mem_nil,or_false] at hb;rcases hb with rfl|rfl
  ·exact Nat.lt_irrefl _ (z ▸ hSI)
  ·exact Nat.lt_irrefl _ (z ▸ hlS)
end
section
variable{prog:Program}{w:World}{A:Around}{E:Value->Shared->Prop}{s:Shared}
set_option maxRecDepth 100000 in
set_option maxHeartbeats 3200000 in
theorem Zdg{l:Addr}{items:Array Value}{J:Nat->Heap->Prop}{Q:Value->Shared->Prop}(hh:A.handled=none)(hu:A.units+100<cLine)(hl:s.heap.IsList l items)(g:∀B:Around,B.units<cLine->Goes prog w B s.heap.objs.size items J)(j0:∀h:Heap,h.get? s.heap.objs.size=some (Zai w)->(∀b o,b<s.heap.objs.size->s.heap.get? b=some o->h.get? b=some o)->J 0 h)
  (q:∀(h':Heap)(tk:Nat),J items.size h'->(∀b o,b<s.heap.objs.size->s.heap.get? b=some o->h'.get? b=some o)->Q (.ref s.heap.objs.size) { s with heap:=h',toks:=tk }) :
  wpAny (model prog w) A (call (.type "set") [.ref l]) Q E s:=by
 obtain⟨c,tl,hmro⟩:=PySem.F.called_set.mro;have hmade:=PySem.F.called_set.made;have hsub:=PySem.F.called_set.sub;refine wpAny_call (codeAny_of_tree ?_);change wpAny _ _ (callAny (.type "set") _) _ _ _;refine wpAny_pure ⟨Code.quiet_builtin _ (by decide +kernel),codeAny_builtin PySem.F.entry_type_call ?_⟩;rw[Around.under_plain (weight_type_call_type "set" [.ref l] []) rfl];have noType:=PySem.F.called_set.notType;have canMake:=PySem.F.called_set.canCreate;have ctOk:=PySem.F.typeCall_set_1 (.ref l)
 repeat (any_goals (first|assumption|wp_step))
 refine codeAny_mono (ZiH (.ref l) (E:=E) (Q₁ := fun obj s₁=>obj=.ref s.heap.objs.size/\s₁ = { s with heap:=s.heap.push (Zai w) }) ⟨rfl,rfl⟩) fun r s₁ hr=>?_;cases r with
 | error e=>exact hr
 | ok fl =>
  cases fl with
  | ret obj =>
   obtain⟨rfl,rfl⟩:=hr;have hS:(s.heap.push (Zai w)).get? s.heap.objs.size=some (Zai w):=Heap.get?_push_size _ rfl;have hT:Shared.TypeIs { s with heap:=s.heap.push (Zai w) } (.ref s.heap.objs.size) "set" := ⟨_,hS,rfl⟩;have hli:=PySem.F.called_set.init.lookup;have hbi:=PySem.F.called_set.init.bind (.ref s.heap.objs.size)
   repeat (any_goals (first|assumption|wp_step))
   refine codeAny_mono (codeAny_call_builtin (R:=wants (fun r s₂=>r=.none/\∃h' tk,s₂ = { s with heap:=h',toks:=tk }/\J items.size h'/\∀b o,b<s.heap.objs.size->s.heap.get? b=some o->h'.get? b=some o) E) PySem.F.called_set.init.plain PySem.F.entry_set_init (check_set_init_1 hT ?_)) fun r₂ s₂ hr₂=>?_
   ·obtain⟨ol,hol,hcl,nl,hdl⟩:=hl;obtain⟨ocls,odict,odata,oslots⟩:=ol;simp only at hcl hdl;subst hcl;subst hdl;have hol2:(s.heap.push (Zai w)).get? l=some { cls:=.type "list",dict:=odict,data:=.seq items nl,slots:=oslots }:=Heap.get?_push_of_some _ hol;have hsls:=PySem.F.sub_list_set;have hslf:=PySem.F.sub_list_frozenset;have hne:(Value.type "list" == Value.type "dict")=false:=by decide
    have hl1:(s.heap.push (Zai w)).IsList l items:=⟨_,hol2,rfl,nl,rfl⟩;unfold Builtin.«set.__init__» noKeywords Builtin.Frozenset.updateFrom;generalize hPI:pyIter=PI
    wp_walk
    subst hPI;refine wpAny_pyIter_list hl1 (wpAny_bind (wpAny_runValue ?_));have hlS:l<s.heap.objs.size:=Heap.lt_size hol;have hsz:(s.heap.push (Zai w)).objs.size=s.heap.objs.size+1:=Heap.size_push ..;have hS0:((s.heap.push (Zai w)).push { cls:=.type "list_iterator",data:=.fields #[.ref l,.int 0 0] }).get? s.heap.objs.size=some (Zai w):=Heap.get?_push_of_some _ hS;have kk:∀b o,b<s.heap.objs.size->s.heap.get? b=some o->((s.heap.push (Zai w)).push { cls:=.type "list_iterator",data:=.fields #[.ref l,.int 0 0] }).get? b=some o:=fun b o hb e=>Heap.get?_push_of_some _ (Heap.get?_push_of_some _ e);refine ZgX (J:=J) (by simp[hh]) (g _ (by simp only[Around.in1_units];lia)) (by rw[hsz];exact Nat.lt_succ_self _) (by rw[hsz];exact Nat.ne_of_lt (Nat.lt_succ_of_lt hlS)) (items.size-0) 0 _ rfl (Nat.zero_le _)
     ⟨⟨_,Heap.get?_push_size _ rfl,rfl,rfl⟩,hl1.push _⟩ hlS (j0 _ hS0 kk) fun h' tk hw hb=>?_
    change wpAny _ _ _ _ _ _;refine wpAny_pure ?_;change wpAny _ _ (ret Value.none) _ _ _;exact wpAny_pure ⟨rfl,h',tk,rfl,hw,fun b o hlt e=>hb b o hlt (kk b o hlt e)⟩
   ·cases r₂ with
    | error e=>exact hr₂
    | ok fl₂ =>
     cases fl₂ with
     | ret r =>
      obtain⟨rfl,h',tk,rfl,hw⟩:=hr₂
      repeat (any_goals (first|assumption|wp_step))
      exact q _ _ hw.1 hw.2
     | _=>exact hr₂.elim
  | _=>exact hr.elim
end
end Stg
namespace Srd
theorem Sto.strict{α : Type}{lt : α -> α -> Bool}(o:Sto lt){l:List α}(h:l.Pairwise (fun a b=>lt b a=false))(hn:l.Nodup):l.Pairwise (fun a b=>lt a b=true):=by
 refine List.pairwise_iff_getElem.mpr fun i j hi hj hij=>?_;have h1:=(List.pairwise_iff_getElem.mp h) i j hi hj hij;have h2:=(List.pairwise_iff_getElem.mp hn) i j hi hj hij;cases e:lt l[i] l[j] with
 | true=>rfl
 | false=>exact absurd (o.tri _ _ e h1) h2
end Srd
namespace L2
open PySem PySem.Spec PyProof.Rows PySem.W Srd Sts Stg
def tq(q:Qd):HO:=.tup [.int q.1,.str q.2.1,.int q.2.2.1,.int q.2.2.2]
def QL(H:Hp)(zs:List V)(qs:List Qd):Prop:=Paired (fun z q=>∃p,z=V.ref p/\H p=some (tq q)) zs qs
def kOf(q:Qd):List Key:=[Sum.inl q.1,Sum.inr q.2.1,Sum.inl q.2.2.1,Sum.inl q.2.2.2]
theorem Zg2{q q':Qd}(h:kOf q=kOf q'):q=q':=by
 obtain⟨a,b,c,d⟩:=q;obtain⟨a',b',c',d'⟩:=q';simp only[kOf,List.cons.injEq,Sum.inl.injEq,Sum.inr.injEq,and_true] at h;obtain⟨rfl,rfl,rfl,rfl⟩:=h;rfl
theorem QL.mem{H:Hp}:∀{zs:List V}{qs:List Qd},QL H zs qs->∀z∈zs,∃p,∃q∈qs,z=V.ref p/\H p=some (tq q)
 | _,_,.cons ⟨p,e1,e2⟩ t,z,hz=>by
  rcases List.mem_cons.mp hz with rfl|hz
  ·exact⟨p,_,List.mem_cons_self ..,e1,e2⟩
  ·obtain⟨p',q',h1,h2⟩:=QL.mem t z hz;exact⟨p',q',List.mem_cons_of_mem _ h1,h2⟩
theorem QL.length{H:Hp}:∀{zs:List V}{qs:List Qd},QL H zs qs->zs.length=qs.length
 | _,_,.nil=>rfl
 | _,_,.cons _ t=>by rw[List.length_cons,List.length_cons,QL.length t]
theorem QL.get{H:Hp}:∀{zs:List V}{qs:List Qd},QL H zs qs->∀(i:Nat) z,zs[i]?= some z->∃p q,qs[i]?= some q/\z=V.ref p/\H p=some (tq q)
 | _,_,.cons ⟨p,e1,e2⟩ t,i,z,hz=>by
  cases i with
  | zero =>
   injection hz with hz;subst hz;exact⟨p,_,rfl,e1,e2⟩
  | succ i=>exact QL.get t i z hz
theorem QL.keep{H H':Hp}:∀{zs:List V}{qs:List Qd},QL H zs qs->(∀b xs,H b=some (.tup xs)->H' b=some (.tup xs))->QL H' zs qs
 | _,_,.nil,_=>.nil
 | _,_,.cons ⟨p,e1,e2⟩ t,k=>.cons ⟨p,e1,k _ _ e2⟩ (QL.keep t k)
theorem ZcK:∀{vs:List V}{us:List Value},Vals vs us->∀(i:Nat) u,us[i]?= some u->∃v,vs[i]?= some v/\RelV v u
 | _,_,.cons r t,i,u,h=>by
  cases i with
  | zero =>
   injection h with h;subst h;exact⟨_,rfl,r⟩
  | succ i=>exact ZcK t i u h
section
variable{X:Cx}{e:Expr}{te:TE}{p p' pos pos':Pos}
theorem Zhb{P:Program}{w:World}{H:Hp}{h:Heap}{t:Addr}{q:Qd}(ok:HOk P w H h)(e:H t=some (tq q)):IsQ h (.ref t) q:=by
 obtain⟨_,us,rus,o,ho,hc',n,hd⟩:=ok t _ e;obtain⟨u1,us,rfl,r1,rus⟩:=Vals.inv rus;obtain⟨u2,us,rfl,r2,rus⟩:=Vals.inv rus;obtain⟨u3,us,rfl,r3,rus⟩:=Vals.inv rus;obtain⟨u4,us,rfl,r4,rus⟩:=Vals.inv rus;obtain rfl:=Vals.end_ rus;obtain⟨t1,rfl⟩:=r1;obtain⟨t2,rfl⟩:=r2;obtain⟨t3,rfl⟩:=r3;obtain⟨t4,rfl⟩:=r4;exact⟨t,o,t1,t2,t3,t4,n,rfl,ho,hc',hd⟩
theorem Zei{P:Program}{w:World}{h0 h:Heap}{S t:Addr}{q:Qd}{x:Int}(hk:IsTupleKey (Zaj P w) h0 (kOf q) t)(hlt:t<S)(k:∀b o,b<S->h0.get? b=some o->h.get? b=some o)(ks:List Key):ZaP (Zaj P w) h ks (x,.ref t)↔ks=kOf q:=by
 obtain⟨o,its,n,h1,h2⟩:=hk;have hk':IsTupleKey (Zaj P w) h (kOf q) t:=⟨o,its,n,k t o hlt h1,h2⟩;constructor
 ·rintro⟨b,e,hb⟩;cases e;exact Zcq hb hk'
 ·rintro rfl;exact⟨t,rfl,hk'⟩
def QIt(P:Program)(w:World)(h0:Heap)(items:List Value)(qs:List Qd):Prop:=items.length=qs.length/\∀(i:Nat) v q,items[i]?= some v->qs[i]?= some q->∃t,v=.ref t/\IsTupleKey (Zaj P w) h0 (kOf q) t/\IsQ h0 v q
theorem QIt.of{P:Program}{w:World}{H:Hp}{h:Heap}{zs:List V}{qs:List Qd}{us:List Value}(ok:HOk P w H h)(r:Vals zs us)(ql:QL H zs qs):QIt P w h us qs:=by
 refine⟨by rw[<- r.length,ql.length],fun i v q hv hq=>?_⟩;obtain⟨z,hz,rz⟩:=ZcK r i v hv;obtain⟨t,q',h1,rfl,h3⟩:=ql.get i z hz;rw[hq] at h1;cases h1;obtain rfl:v=Value.ref t:=rz;exact⟨t,rfl,ZkM ok (ks:=kOf q) h3,Zhb ok h3⟩
theorem QIt.mem{P:Program}{w:World}{h0:Heap}{items:List Value}{qs:List Qd}(x:QIt P w h0 items qs){v:Value}(hv:v∈items):∃t,∃q∈qs,v=.ref t/\IsTupleKey (Zaj P w) h0 (kOf q) t/\IsQ h0 v q:=by
 obtain⟨i,hi⟩:=List.mem_iff_getElem?.mp hv;have hlt:=(List.getElem?_eq_some_iff.mp hi).1;rw[x.1] at hlt;obtain⟨t,h1,h2,h3⟩:=x.2 i v qs[i] hi (List.getElem?_eq_getElem hlt);exact⟨t,qs[i],List.getElem_mem hlt,h1,h2,h3⟩
def JQ(P:Program)(w:World)(h0:Heap)(S:Addr)(items:Array Value)(qs:List Qd)(i:Nat)(h:Heap):Prop :=
 ZfE (Zaj P w) h S (· ∈ items.toList) (fun ks=>∃(j:Nat)(q:Qd),j<i/\qs[j]?= some q/\ks=kOf q) i (Zft w)/\∀b o,b<S->h0.get? b=some o->h.get? b=some o
theorem JQ.goes{P:Program}{w:World}{A:Around}{h0:Heap}{S:Addr}{items:Array Value}{qs:List Qd}(hu:A.units<cLine)(x:QIt P w h0 items.toList qs)(hS:h0.objs.size<=S)(hn:items.size<=900):Goes P w A S items (JQ P w h0 S items qs) where
 keep:=fun i h h' ⟨⟨o,es,ep,t,ho,hx,hd,hT,hsz,hl,hv,hP⟩,hb⟩ k=>by
  have hb':∀b o,b<S->h0.get? b=some o->h'.get? b=some o:=fun b o hlt e=>k b o (Nat.le_of_lt hlt) (hb b o hlt e);have key:∀e∈es.toList,∀ks,ZaP (Zaj P w) h ks e↔ZaP (Zaj P w) h' ks e:=fun e he ks=>by
   obtain⟨tt,q,_,h1,h2,_⟩:=x.mem (hv e he);obtain⟨e1,e2⟩:=e;dsimp only at h1;subst h1;have hlt:tt<S:=by
    obtain⟨o2,_,_,g1,_⟩:=h2;exact Nat.lt_of_lt_of_le (Heap.lt_size g1) hS
   rw[Zei h2 hlt hb,Zei h2 hlt hb']
  refine⟨⟨o,es,ep,t,k S o (Nat.le_refl _) ho,hx,hd,⟨hT.tab,fun e he=>?_,hT.way,?_⟩,hsz,hl,hv,fun ks=>?_⟩,hb'⟩
  ·obtain⟨ks,h1,h2⟩:=hT.ent e he;exact⟨ks,(key e he ks).mp h1,h2⟩
  ·exact List.Pairwise.imp_of_mem (fun{a b} ha hb' hab ks h1 h2=>hab ks ((key a ha ks).mpr h1) ((key b hb' ks).mpr h2)) hT.one
  ·rw[<- hP ks];constructor
   ·rintro⟨e,he,h1⟩;exact⟨e,he,(key e he ks).mpr h1⟩
   ·rintro⟨e,he,h1⟩;exact⟨e,he,(key e he ks).mp h1⟩
 add:=fun i v s Q E hi ⟨hS1,hb⟩ q=>by
  have hil:i<items.size:=(Array.getElem?_eq_some_iff.mp hi).1;have hiq:i<qs.length:=by rw[<- x.1,Array.length_toList];exact hil
  have hi':items.toList[i]?= some v:=by rw[Array.getElem?_toList];exact hi
  obtain⟨t,rfl,h2,_⟩:=x.2 i v qs[i] hi' (List.getElem?_eq_getElem hiq);obtain⟨o2,its2,n2,g1,g2⟩:=h2;have hlt:t<S:=Nat.lt_of_lt_of_le (Heap.lt_size g1) hS;have hk:IsTupleKey (Zaj P w) s.heap (kOf qs[i]) t:=⟨o2,its2,n2,hb t o2 hlt g1,g2⟩;refine Zmd hu hS1 (by lia) hk (List.mem_of_getElem? hi') fun b h' tk _ sb hS2=>q b h' tk sb ⟨?_,fun b o hlt e=>(sb.2 b (Nat.ne_of_lt hlt)).trans (hb b o hlt e)⟩;have e:(fun ks=>(∃(j:Nat)(q:Qd),j<i/\qs[j]?= some q/\ks=kOf q)\/ks=kOf qs[i])=fun ks=>∃(j:Nat)(q:Qd),j<i+1/\qs[j]?= some q/\ks=kOf q:=funext fun ks=>propext (by
   constructor
   ·rintro(⟨j,q,h1,h2,h3⟩|h)
    ·exact⟨j,q,by lia,h2,h3⟩
    ·exact⟨i,qs[i],by lia,List.getElem?_eq_getElem hiq,h⟩
   ·rintro⟨j,q,h1,h2,h3⟩;by_cases c:j<i
    ·exact .inl ⟨j,q,c,h2,h3⟩
    ·have:j=i:=by lia
     subst this;rw[List.getElem?_eq_getElem hiq] at h2;cases h2;exact .inr h3)
  rw[<- e];exact hS2
theorem JQ.zero{P:Program}{w:World}{h0 h:Heap}{S:Addr}{items:Array Value}{qs:List Qd}(hS:h.get? S=some (Zai w))(k:∀b o,b<S->h0.get? b=some o->h.get? b=some o):JQ P w h0 S items qs 0 h :=
 ⟨⟨_,#[],0,_,hS,⟨rfl,rfl,rfl⟩,rfl,⟨⟨rfl,rfl,.inl rfl,(by show(0:Nat)*5<7*3;decide),List.Pairwise.nil⟩,(fun _ h=>(nomatch h)),(fun i e j h=>(nomatch h)),List.Pairwise.nil⟩,Nat.le_refl _,rfl,(fun _ h=>(nomatch h)),fun ks=>⟨fun⟨_,h,_⟩=>(nomatch h),fun⟨_,_,h,_⟩=>absurd h (Nat.not_lt_zero _)⟩⟩,k⟩
end
def GI(P:Int->Prop)(l:List (Int×Value)):Prop:=l.Pairwise (fun e e'=>Zgg e.2≠Zgg e'.2)/\∀i,(∃e∈l,Zgg e.2=i)↔P i
theorem GI.perm{P:Int->Prop}(l l':List (Int×Value))(p:l'.Perm l)(h:GI P l):GI P l' :=
 ⟨(p.pairwise_iff fun{a b} hab e=>hab e.symm).mpr h.1,fun i=>Iff.trans ⟨fun⟨e,h1,h2⟩=>⟨e,p.mem_iff.mp h1,h2⟩,fun⟨e,h1,h2⟩=>⟨e,p.mem_iff.mpr h1,h2⟩⟩ (h.2 i)⟩
def GN(l:List (Int×Value)):Prop := ∀e∈l,∃i t,e.2=Value.int i t
section
variable{X:Cx}{e:Expr}{te:TE}{p p' pos pos':Pos}
theorem Zjq{P:Program}{w:World}{k i:Int}{t:Nat}:(intKind P w).is k (Value.int i t)=true↔i=k:=by
 constructor
 ·intro h;exact(intKind P w).inj _ _ _ (intKind_is _ _ _ _) h
 ·rintro rfl;exact intKind_is _ _ _ _
def JI(P:Program)(w:World)(h0:Heap)(S:Addr)(ns:List Int)(i:Nat)(h:Heap):Prop :=
 ZgM (Zaj P w) h S (fun l=>GN l/\GI (fun k=>∃j:Nat,j<i/\ns[j]?= some k) l) i (Zft w)/\∀b o,b<S->h0.get? b=some o->h.get? b=some o
theorem JI.goes{P:Program}{w:World}{A:Around}{h0:Heap}{S:Addr}{items:Array Value}{ns:List Int}(x:Vals (ns.map V.int) items.toList)(hn:items.size<=900):Goes P w A S items (JI P w h0 S ns) where
 keep:=fun i h h' ⟨⟨o,es,ep,t,ho,hx,hd,hE,hT,hsz,hl,hG⟩,hb⟩ k =>
  ⟨⟨o,es,ep,t,k S o (Nat.le_refl _) ho,hx,hd,hE,hT,hsz,hl,hG⟩,fun b o hlt e=>k b o (Nat.le_of_lt hlt) (hb b o hlt e)⟩
 add:=fun i v s Q E hi ⟨hS1,hb⟩ q=>by
  have hi':items.toList[i]?= some v:=by rw[Array.getElem?_toList];exact hi
  have hil:i<items.size:=(Array.getElem?_eq_some_iff.mp hi).1;obtain⟨z,hz,rz⟩:=ZcK x i v hi';rw[List.getElem?_map] at hz;obtain⟨k,hk,rfl⟩:=Option.map_eq_some_iff.mp hz;obtain⟨tk0,rfl⟩:=rz;have eP:∀m:Int,(∃j:Nat,j<i+1/\ns[j]?= some m)↔((∃j:Nat,j<i/\ns[j]?= some m)\/m=k):=fun m=>by
   constructor
   ·rintro⟨j,h1,h2⟩;by_cases c:j<i
    ·exact .inl ⟨j,c,h2⟩
    ·have:j=i:=by lia
     subst this;rw[hk] at h2;cases h2;exact .inr rfl
   ·rintro(⟨j,h1,h2⟩|rfl)
    ·exact⟨j,by lia,h2⟩
    ·exact⟨i,by lia,hk⟩
  refine Zmm (G':=fun l=>GN l/\GI (fun k=>∃j:Nat,j<i+1/\ns[j]?= some k) l) (fun l l' pp ⟨g1,g2⟩=>⟨fun e he=>g1 e (pp.mem_iff.mp he),GI.perm l l' pp g2⟩) hS1 (by lia) (fun l ⟨hN,g1,g2⟩ hex=>⟨hN,g1,fun m=>?_⟩) (fun l x ⟨hN,g1,g2⟩ hno=>⟨fun e he=>?_,List.pairwise_cons.mpr ⟨fun e he z=>?_,g1⟩,fun m=>?_⟩) fun b h' tk _ sb hS2=>q b h' tk sb ⟨hS2,fun b o hlt e=>(sb.2 b (Nat.ne_of_lt hlt)).trans (hb b o hlt e)⟩
  ·refine Iff.trans ?_ (Iff.trans (or_congr (g2 m) Iff.rfl) (eP m).symm);constructor
   ·exact .inl
   ·rintro(h|rfl)
    ·exact h
    ·obtain⟨e,he,h1⟩:=hex;obtain⟨i',t',h2⟩:=hN e he;rw[h2] at h1;exact⟨e,he,by rw[h2];exact Zjq.mp h1⟩
  ·rcases List.mem_cons.mp he with rfl|he
   ·exact⟨k,tk0,rfl⟩
   ·exact hN e he
  ·obtain⟨i',t',h2⟩:=hN e he;have h3:=hno e he;rw[h2] at h3 z;have:i'=k:=z.symm;rw[Zjq.mpr this] at h3;cases h3
  ·refine Iff.trans ?_ (Iff.trans (or_congr (g2 m) Iff.rfl) (eP m).symm);constructor
   ·rintro⟨e,he,h1⟩;rcases List.mem_cons.mp he with rfl|he
    ·exact .inr h1.symm
    ·exact .inl ⟨e,he,h1⟩
   ·rintro(⟨e,he,h1⟩|rfl)
    ·exact⟨e,List.mem_cons_of_mem _ he,h1⟩
    ·exact⟨_,List.mem_cons_self ..,rfl⟩
theorem JI.zero{P:Program}{w:World}{h0 h:Heap}{S:Addr}{ns:List Int}(hS:h.get? S=some (Zai w))(k:∀b o,b<S->h0.get? b=some o->h.get? b=some o):JI P w h0 S ns 0 h :=
 ⟨⟨_,#[],0,_,hS,⟨rfl,rfl,rfl⟩,rfl,(fun _ h=>(nomatch h)),⟨rfl,rfl,.inl rfl,(by show(0:Nat)*5<7*3;decide),List.Pairwise.nil⟩,Nat.le_refl _,rfl,⟨(fun _ h=>(nomatch h)),List.Pairwise.nil,fun ks=>⟨fun⟨_,h,_⟩=>(nomatch h),fun⟨_,h,_⟩=>absurd h (Nat.not_lt_zero _)⟩⟩⟩,k⟩
def ZeN(K:PySem.W.Frag)(v:V)(H:Hp)(Q:VK):Prop :=
 (∃l ys qs,v=.ref l/\SqL K H l ys/\ys.length<=900/\QL H ys qs/\∀r zs ms,H r=none->ms.Pairwise (fun a b=>qLt a b=true)->(∀q,q∈ms↔q∈qs)->QL H zs ms->Q (.ref r) (upd H r (.lst zs))) \/
 (∃(l:Addr)(ns:List Int),v=.ref l/\SqL K H l (ns.map V.int)/\ns.length<=900/\∀r (ms:List Int),H r=none->ms.Pairwise (· < ·)->(∀i,i∈ms↔i∈ns)->Q (.ref r) (upd H r (.lst (ms.map V.int))))
theorem Zh1{P:Program}{w:World}{H:Hp}{h0:Heap}(ok:HOk P w H h0){ys:List V}{its:List Value}{qs:List Qd}(rv:Vals ys its)(ql:QL H ys qs):∀us:List Value,(∀u∈us,u∈its)->∃zs,Vals zs us/\QL H zs (us.map (kq h0))
 | [],_=>⟨[],.nil,.nil⟩
 | u::us,h=>by
  obtain⟨y,hy,ry⟩:=Zef rv u (h u (List.mem_cons_self ..));obtain⟨zs,rz,hz⟩:=Zh1 ok rv ql us fun x hx=>h x (List.mem_cons_of_mem _ hx);obtain⟨t,q,_,rfl,e2⟩:=ql.mem y hy;have hu:u=Value.ref t:=ry;subst hu;exact⟨_,.cons ry rz,.cons ⟨t,rfl,by rw[ZgV (Zhb ok e2)];exact e2⟩ hz⟩
theorem JQ.out{P:Program}{w:World}{h0 h:Heap}{S:Addr}{items:Array Value}{qs:List Qd}(x:QIt P w h0 items.toList qs)(hS:h0.objs.size<=S)(j:JQ P w h0 S items qs items.size h) :
  ∃o es ep t,h.get? S=some o/\o.ExactSet/\o.data=.set es ep t/\Tab es t/\es.size<=items.size/\t.led=Zft w/\(∀e∈es.toList,e.2∈items.toList)/\(es.toList.map fun e=>kq h0 e.2).Nodup/\∀q,q∈(es.toList.map fun e=>kq h0 e.2)↔q∈qs:=by
 obtain⟨⟨o,es,ep,t,ho,hx,hd,hT,hsz,hl,hv,hP⟩,hb⟩:=j;have key:∀e∈es.toList,∀ks,ZaP (Zaj P w) h ks e↔ks=kOf (kq h0 e.2):=fun e he ks=>by
  obtain⟨tt,q,_,h1,h2,h3⟩:=x.mem (hv e he);have hq:=ZgV h3;obtain⟨e1,e2⟩:=e;dsimp only at h1 hq ⊢;subst h1;have hlt:tt<S:=by
   obtain⟨o2,_,_,g1,_⟩:=h2;exact Nat.lt_of_lt_of_le (Heap.lt_size g1) hS
  rw[Zei h2 hlt hb,hq]
 refine⟨o,es,ep,t,ho,hx,hd,hT.tab,hsz,hl,hv,?_,fun q=>?_⟩
 ·refine List.pairwise_map.mpr (List.Pairwise.imp_of_mem (fun{a b} ha hb' hab z=>?_) hT.one);exact hab _ ((key a ha _).mpr rfl) ((key b hb' _).mpr (by rw[z]))
 ·have h1:=hP (kOf q);constructor
  ·intro hq;obtain⟨e,he,rfl⟩:=List.mem_map.mp hq;obtain⟨j,q',_,h2,h3⟩:=h1.mp ⟨e,he,(key e he _).mpr rfl⟩;rw[Zg2 h3];exact List.mem_of_getElem? h2
  ·intro hq;obtain⟨j,hj⟩:=List.mem_iff_getElem?.mp hq;have hjl:=(List.getElem?_eq_some_iff.mp hj).1;obtain⟨e,he,hbr⟩:=h1.mpr ⟨j,q,by rw[<- Array.length_toList,x.1];exact hjl,hj,rfl⟩;exact List.mem_map.mpr ⟨e,he,(Zg2 ((key e he _).mp hbr)).symm⟩
set_option maxHeartbeats 1000000 in
theorem Zbc(hc:X.calm=true)(hu:X.A.units+200<cLine)(hg:Gl X "sorted") (hm:X.mg "sorted" = none) (hg':Gl X "set") (hm':X.mg "set" = none) (pa:PA X [e] (Zjt te ZlK))
  (hs:starEach [e] X.env=[(false,eval e X.env)]:=by rfl) (hs':starEach [.Call (.Name "set" p') [e] [] pos'] X.env=[(false,eval (.Call (.Name "set" p') [e] [] pos') X.env)]:=by rfl) :
  PE X (.Call (.Name "sorted" p) [.Call (.Name "set" p') [e] [] pos'] [] pos) (fun σ H Q=>te σ H fun v H1=>ZeN X.K v H1 Q):=by
 intro pins s σ H Q I h;refine wpAny_Call_Name_kw (ZbD I hg hm ZgE ?_);refine PyProof.Rows.callWith_builtin1 ?_ hs' rfl;rw[hs'];refine Calls.spliced_cons ?_;refine wpAny_Call_Name_kw (ZbD I hg' hm' Zi8 ?_);refine PyProof.Rows.callWith_type1 (thn (pa pos' pins s σ H (fun vs H1=>match vs with | [v]=>ZeN X.K v H1 Q|_=>False) I h) fun us s1 ⟨vs,H1,I1,r,q⟩=>?_) hs rfl
 match vs,r,q with
 | [v],r,q =>
  obtain⟨u,rfl,ru⟩:=r.one;rcases q with⟨l,ys,qs,rfl,hq,hl9,hql,q⟩|⟨l,ns,rfl,hq,hl9,q⟩
  ·cases ru;obtain⟨its,rv,pl,hz⟩:=I1.list hq;have hlen:=rv.length;have x:QIt X.prog X.w s1.heap its.toArray.toList qs:=QIt.of I1.hok rv hql;refine Zdg (J:=JQ X.prog X.w s1.heap s1.heap.objs.size its.toArray qs) (I1.ok.hd hc) (by lia) pl.isList (fun B hB=>JQ.goes hB x (Nat.le_refl _) (by rw[List.size_toArray];lia)) (fun h h1 h2=>JQ.zero h1 h2) fun h2 tk hJ k2=>?_;refine Calls.spliced_nil ?_;have k2':∀b o,s1.heap.get? b=some o->h2.get? b=some o:=fun b o e=>k2 b o (Heap.lt_size e) e;obtain⟨o,es,ep,t,ho,hx,hd,hT,hsz,hled,hv,hnd,hmem⟩:=hJ.out x (Nat.le_refl _);have hsz':es.size<=its.length:=by simpa using hsz
   refine Za4 (lv:=fun u v=>qLt (kq s1.heap u) (kq s1.heap v)) (s:={ s1 with heap:=h2,toks:=tk }) (C:=fun ys=>ys.Perm (es.toList.map (·.2))) (Zcp.swo (kq s1.heap)) (fun Q' E' hq'=>?_) (fun ys' h6 tk6 d6 hC k6 h2l=>?_) fun pa ys' out h3 tk3 d3 c hC hperm hso k3 e3 hle hos=>?_
   ·refine Zcu (I1.ok.hd hc) ho hx hd hT hled (by lia) fun ys' h' tk' d' k' hp hle=>hq' ys' h' tk' d' k' hp ?_ hle;rw[hp.length_eq,List.length_map,Array.length_toList];lia
   ·refine Zcv (h0:=s1.heap) (fun v hv'=>?_) (fun b o e=>k6 b o (k2' b o e)) h2l;obtain⟨e,he,rfl⟩:=List.mem_map.mp (hC.mem_iff.mp hv');obtain⟨tt,q,_,h1,_,h3⟩:=x.mem (hv e he);exact⟨q,h3⟩
   ·have hpm:out.toList.Perm (es.toList.map (·.2)):=hperm.trans hC;obtain⟨zs,rz,hzq⟩:=Zh1 I1.hok rv hql out.toList fun u hu=>by
     obtain⟨e,he,rfl⟩:=List.mem_map.mp (hpm.mem_iff.mp hu);exact hv e he
    have hzl:zs.length=out.size:=rz.length.trans (Array.length_toList ..);have hS0:s1.heap.objs.size<=pa:=Nat.le_trans (Nat.le_of_lt (Heap.lt_size ho)) hle;have I2:=I1.laid (h':=h3) (t':=tk3) (a:=pa) (o:=.lst zs) (fun b o e=>k3 b o (k2' b o e)) hS0 (show ZaJ X.prog X.w _ h3 _ (.lst zs) from⟨by rw[sizeLine_eq];lia,out.toList,c,rz,e3⟩);have hmp:(out.toList.map (kq s1.heap)).Perm (es.toList.map fun e=>kq s1.heap e.2):=by
     have:=hpm.map (kq s1.heap);rw[List.map_map] at this;exact this
    refine⟨.ref pa,_,I2.draws (d:=d3),rfl,q pa zs _ (I1.hok.fresh hS0) (Zcp.strict ?_ (hmp.nodup_iff.mpr hnd)) (fun q=>hmp.mem_iff.trans (hmem q)) hzq⟩;exact List.pairwise_map.mpr hso
  ·cases ru;obtain⟨its,rv,pl,hz⟩:=I1.list hq;have hlen:=rv.length;rw[List.length_map] at hlen;refine Zdg (J:=JI X.prog X.w s1.heap s1.heap.objs.size ns) (I1.ok.hd hc) (by lia) pl.isList (fun B hB=>JI.goes rv (by rw[List.size_toArray];lia)) (fun h h1 h2=>JI.zero h1 h2) fun h2 tk hJ k2=>?_;refine Calls.spliced_nil ?_;have k2':∀b o,s1.heap.get? b=some o->h2.get? b=some o:=fun b o e=>k2 b o (Heap.lt_size e) e;obtain⟨⟨o,es,ep,t,ho,hx,hd,hE,hT,hsz,hled,hN,hnd,hmem⟩,hb⟩:=hJ;have hsz':es.size<=its.length:=by simpa using hsz
   refine Za4 (s:={ s1 with heap:=h2,toks:=tk }) (C:=fun ys=>ys.Perm (es.toList.map (·.2))) Zhi (fun Q' E' hq'=>?_) (fun ys' h6 tk6 d6 hC k6 h2l=>?_) fun pa ys' out h3 tk3 d3 c hC hperm hso k3 e3 hle hos=>?_
   ·refine Zcu (I1.ok.hd hc) ho hx hd hT hled (by lia) fun ys' h' tk' d' k' hp hle=>hq' ys' h' tk' d' k' hp ?_ hle;rw[hp.length_eq,List.length_map,Array.length_toList];lia
   ·refine Zbz (fun v hv'=>?_) h2l;obtain⟨e,he,rfl⟩:=List.mem_map.mp (hC.mem_iff.mp hv');exact hN e he
   ·have hpm:out.toList.Perm (es.toList.map (·.2)):=hperm.trans hC;have hon:∀us:List Value,(∀u∈us,∃i t,u=Value.int i t)->Vals ((us.map Zgg).map V.int) us:=fun us=>by
     induction us with
     | nil=>exact fun _=>.nil
     | cons u us ih =>
      intro hu;obtain⟨i,t,rfl⟩:=hu u (List.mem_cons_self ..);exact .cons ⟨t,rfl⟩ (ih fun x hx=>hu x (List.mem_cons_of_mem _ hx))
    have rz:=hon out.toList fun u hu=>by
     obtain⟨e,he,rfl⟩:=List.mem_map.mp (hpm.mem_iff.mp hu);exact hN e he
    have hS0:s1.heap.objs.size<=pa:=Nat.le_trans (Nat.le_of_lt (Heap.lt_size ho)) hle;have I2:=I1.laid (h':=h3) (t':=tk3) (a:=pa) (o:=.lst ((out.toList.map Zgg).map V.int)) (fun b o e=>k3 b o (k2' b o e)) hS0 (show ZaJ X.prog X.w _ h3 _ (.lst ((out.toList.map Zgg).map V.int)) from⟨by rw[List.length_map,List.length_map,Array.length_toList,sizeLine_eq];lia,out.toList,c,rz,e3⟩);have hmp:(out.toList.map Zgg).Perm (es.toList.map fun e=>Zgg e.2):=by
     have:=hpm.map Zgg;rw[List.map_map] at this;exact this
    refine⟨.ref pa,_,I2.draws (d:=d3),rfl,q pa _ (I1.hok.fresh hS0) (strictly (rising rz hso) (hmp.nodup_iff.mpr (List.pairwise_map.mpr hnd))) (fun i=>hmp.mem_iff.trans (Iff.trans ?_ ((hmem i).trans ?_)))⟩
    ·constructor
     ·intro hi;obtain⟨e,he,rfl⟩:=List.mem_map.mp hi;exact⟨e,he,rfl⟩
     ·rintro⟨e,he,rfl⟩;exact List.mem_map.mpr ⟨e,he,rfl⟩
    ·constructor
     ·rintro⟨j,_,h2⟩;exact List.mem_of_getElem? h2
     ·intro hi;obtain⟨j,hj⟩:=List.mem_iff_getElem?.mp hi;exact⟨j,by have:=(List.getElem?_eq_some_iff.mp hj).1;simp;lia,hj⟩
end
end L2
namespace L2
open PySem PySem.Spec PyProof.Rows
def Itz(K:PySem.W.Frag)(l l2:Addr):It :=
 ⟨fun i H=>∃xs x ys y,SqL K H l xs/\xs[i]?= some x/\SqL K H l2 ys/\ys[i]?= some y,fun i H x H'=>∃p,H p=none/\x=.ref p/\∀xs ys,SqL K H l xs->SqL K H l2 ys->∃x y,xs[i]?= some x/\ys[i]?= some y/\H'=upd H p (.tup [x,y]),fun i H=>∃xs ys,SqL K H l xs/\SqL K H l2 ys/\xs.length<=i⟩
theorem ZiL{P:Program}{w:World}{K:PySem.W.Frag}{elts:List Expr}{x1}{tp:Pos}(l l2 z TI TO i1 i2:Addr)(ap:ZipApart z TI TO i1 i2 l l2) :
  Turn P w K (.Tuple elts x1 tp) (Itz K l l2) [z,TI,TO,i1,i2] z (fun i h=>IsZip h z TI TO .none/\PySem.IsPair h TI (.ref i1) (.ref i2)/\(∃a b,PySem.IsPair h TO a b)/\h.IsListIter i1 l i/\h.IsListIter i2 l2 i) where
 mem:=by simp
 obj:=fun i h st b hb=>by
  obtain⟨hz,hI,⟨a,b',hO⟩,⟨o1,ho1,hc1,hd1⟩,o2,ho2,hc2,hd2⟩:=st;simp only[List.mem_cons,List.not_mem_nil,or_false] at hb;rcases hb with rfl|rfl|rfl|rfl|rfl
  ·exact⟨_,hz,fun v z=>by cases z⟩
  ·exact⟨_,hI,fun v z=>by cases z⟩
  ·exact⟨_,hO,fun v z=>by cases z⟩
  ·exact⟨o1,ho1,fun v z=>by rw[hd1] at z;cases z⟩
  ·exact⟨o2,ho2,fun v z=>by rw[hd2] at z;cases z⟩
 keep:=fun i h h' st k=>by
  obtain⟨hz,hI,⟨a,b',hO⟩,⟨o1,ho1,r1⟩,o2,ho2,r2⟩:=st;exact⟨k z (by simp) _ hz,k TI (by simp) _ hI,⟨a,b',k TO (by simp) _ hO⟩,⟨o1,k i1 (by simp) o1 ho1,r1⟩,o2,k i2 (by simp) o2 ho2,r2⟩
 item:=by
  intro X hP hw hK hc i pins s σ H E I hf st hg;subst hP hw hK;obtain⟨hz0,hI,⟨a,b',hO⟩,hit,hit2⟩:=st;obtain⟨xs,x,ys,y,hq,hx,hq2,hy⟩:=hg;obtain⟨its,rv,pl,hzz⟩:=I.list hq;obtain⟨its2,rv2,pl2,hzz2⟩:=I.list hq2;obtain⟨u,hu,ru⟩:=rv.get hx;obtain⟨u2,hu2,ru2⟩:=rv2.get hy;refine wpAny_pyNext_zip_item ap hz0 hI hO hit hit2 pl.isList pl2.isList (x:=u) (y:=u2) (by simpa using hu) (by simpa using hu2) fun h1 hz1 hO1 hit1 hit21 ht1 hsz1 hk1=>⟨_,rfl,wpAny_letOwnedTupleGo_zip hz1 fun h2 hz2 hs2=>?_⟩;have hfresh:H s.heap.objs.size=none:=I.hok.fresh (Nat.le_refl _);have nz:s.heap.objs.size≠z:=Nat.ne_of_gt (Heap.lt_size hz0);have kp:∀b o,b ∉ [z,TI,TO,i1,i2]->s.heap.get? b=some o->h2.get? b=some o:=fun b o hb q=>by
   have b1:b≠z:=fun z=>hb (by rw[z];simp);have b3:b≠TO:=fun z=>hb (by rw[z];simp);have b4:b≠i1:=fun z=>hb (by rw[z];simp);have b5:b≠i2:=fun z=>hb (by rw[z];simp);exact(hs2.2 b b1).trans (hk1 b o b1 b3 b4 b5 q)
  have hp2:h2.get? s.heap.objs.size=some { cls:=.type "tuple",data:=.seq #[u,u2] }:=(hs2.2 _ nz).trans ht1;have nb:∀b o,s.heap.get? b=some o->b≠s.heap.objs.size:=fun b o q=>Nat.ne_of_lt (Heap.lt_size q);have tracked:∀b o,H b=some o->b ∉ [z,TI,TO,i1,i2]:=fun b o q hb=>by
   have f:Zb9 X pins H b:=hf b hb;rw[f.1] at q;cases q
  have fpf:∀b ∈ [z,TI,TO,i1,i2],∃o,s.heap.get? b=some o:=fun b hb=>by
   obtain⟨o1,ho1,_⟩:=id hit;obtain⟨o2,ho2,_⟩:=id hit2;simp only[List.mem_cons,List.not_mem_nil,or_false] at hb;rcases hb with rfl|rfl|rfl|rfl|rfl
   ·exact⟨_,hz0⟩
   ·exact⟨_,hI⟩
   ·exact⟨_,hO⟩
   ·exact⟨o1,ho1⟩
   ·exact⟨o2,ho2⟩
  have hok2:HOk X.prog X.w (upd H s.heap.objs.size (.tup [x,y])) h2:=fun b o q=>by
   by_cases hb:b=s.heap.objs.size
   ·subst hb;rw[Zc] at q;cases q;exact⟨by show 2<=sizeLine;decide,[u,u2],.cons ru (.cons ru2 .nil),_,hp2,rfl,_,rfl⟩
   ·rw[ZR hb] at q;refine(I.hok b o q).stay (fun c v hcv r=>kp c v ?_ r) (fun c r=>by rw[ZR (Zx r hfresh)];exact r) fun c ys r=>by rw[ZR (Zx r hfresh)];exact r
    rcases hcv with rfl|hcv
    ·exact tracked _ _ q
    ·exact tracked _ _ hcv
  have I2:Inv X pins σ (upd H s.heap.objs.size (.tup [x,y])) { s with heap:=h2,gens:=s.gens,drawn:=s.drawn,toks:=s.toks }:=by
   refine I.step (ch:=[z,TI,TO,i1,i2]) (fun b hb=>?_) (fun b o _ _ hb q _=>kp b o hb q) (fun b o _ _ hb q _=>⟨o.slots,kp b o hb q⟩) (fun b o _ q n=>by rw[ZR (nb b o q)];exact n) (fun b o hb q=>⟨o,kp b o hb q⟩)
    (fun b ys q=>by rw[ZR (Zx q hfresh)];exact q) (fun b o ys q=>by rw[ZR (Zx q hfresh)];exact q) (fun b ps q=>⟨#[],by rw[ZR (Zx q hfresh),q];simp⟩) (fun m hm=>?_) hok2 I.bare
   ·have f:Zb9 X pins H b:=hf b hb;exact⟨f.2.2.2.1,f.2.1,f.2.2.2.2.1,f.2.2.2.2.2⟩
   ·obtain⟨o,es,ep,ho,r⟩:=hm;refine⟨o,es,ep,kp _ o (fun hb=>?_) ho,r⟩;exact(hf _ hb).2.1 rfl
  refine⟨.ref s.heap.objs.size,_,I2,rfl,⟨_,hfresh,rfl,fun xs' ys' hx' hy'=>⟨x,y,by rw[I.list_inj hx' hq];exact hx,by rw[I.list_inj hy' hq2];exact hy,rfl⟩⟩,⟨hz2,?_,⟨u,u2,(hs2.2 TO ap.TOz).trans hO1⟩,?_,?_⟩,fun b hb=>?_⟩
  ·exact(hs2.2 TI ap.TIz).trans (hk1 TI _ ap.TIz ap.TITO ap.TIi1 ap.TIi2 hI)
  ·obtain⟨o,ho,r⟩:=hit1;exact⟨o,(hs2.2 i1 ap.i1z).trans ho,r⟩
  ·obtain⟨o,ho,r⟩:=hit21;exact⟨o,(hs2.2 i2 ap.i2z).trans ho,r⟩
  ·obtain⟨o,ho⟩:=fpf b hb;rw[ZR (nb b o ho)];exact(hf b hb).1
 done:=by
  intro X hP hw hK hc i pins s σ H E I hf st hg;subst hP hw hK;obtain⟨hz0,hI,⟨a,b',hO⟩,hit,hit2⟩:=st;obtain⟨xs,ys,hq,hq2,hx⟩:=hg;obtain⟨its,rv,pl,hzz⟩:=I.list hq;obtain⟨its2,rv2,pl2,hzz2⟩:=I.list hq2;have hlen:=rv.length;refine wpAny_pyNext_zip_end (I.ok.hd hc) ap hz0 hI hO hit hit2 pl.isList pl2.isList (.inl (by simp;lia)) fun h' hk=>⟨rfl,?_⟩;have kp:∀b o,b ∉ [z,TI,TO,i1,i2]->s.heap.get? b=some o->h'.get? b=some o:=fun b o hb q=>by
   have b1:b≠z:=fun z=>hb (by rw[z];simp);have b3:b≠TO:=fun z=>hb (by rw[z];simp);have b4:b≠i1:=fun z=>hb (by rw[z];simp);have b5:b≠i2:=fun z=>hb (by rw[z];simp);exact hk b o b1 b3 b4 b5 q
  have tracked:∀b o,H b=some o->b ∉ [z,TI,TO,i1,i2]:=fun b o q hb=>by
   have f:Zb9 X pins H b:=hf b hb;rw[f.1] at q;cases q
  have hok2:HOk X.prog X.w H h':=fun b o q=>(I.hok b o q).stay (fun c v hcv r=>kp c v (by
    rcases hcv with rfl|hcv
    ·exact tracked _ _ q
    ·exact tracked _ _ hcv) r) (fun c r=>r) fun c ys r=>r
  refine I.step (t':=s.toks) (d':=s.drawn) (g':=s.gens) (ch:=[z,TI,TO,i1,i2]) (fun b hb=>?_) (fun b o _ _ hb q _=>kp b o hb q) (fun b o _ _ hb q _=>⟨o.slots,kp b o hb q⟩) (fun b o _ q n=>n) (fun b o hb q=>⟨o,kp b o hb q⟩)
    (fun b ys q=>q) (fun b o ys q=>q) (fun b ps q=>⟨#[],by rw[q];simp⟩) (fun m hm=>?_) hok2 I.bare
  ·have f:Zb9 X pins H b:=hf b hb;exact⟨f.2.2.2.1,f.2.1,f.2.2.2.2.1,f.2.2.2.2.2⟩
  ·obtain⟨o,es,ep,ho,r⟩:=hm;refine⟨o,es,ep,kp _ o (fun hb=>?_) ho,r⟩;exact(hf _ hb).2.1 rfl
 self:=fun _ _ _ _ _ st h=>wpAny_pyIter_zip st.1 h
section
variable{X:Cx}{elts:List Expr}{x1:Nat}{tp:Pos}
def Zl3(K:PySem.W.Frag)(tl:TA):TI:=fun σ H R=>tl σ H fun vs H1=>∃a b xs ys,vs=[.ref a,.ref b]/\SqL K H1 a xs/\SqL K H1 b ys/\R (Itz K a b) H1
theorem ZkW{a b:Expr}{ta:TA}{p pos:Pos}(hg:Gl X "zip") (hm:X.mg "zip" = none) (ha:PA X [a,b] ta) (hs:starEach [a,b] X.env=[(false,eval a X.env),(false,eval b X.env)]:=by rfl) (hs2:starEach [b] X.env=[(false,eval b X.env)]:=by rfl) :
  PI X (.Tuple elts x1 tp) (.Call (.Name "zip" p) [a,b] [] pos) (Zl3 X.K ta):=by
 intro pins s σ H R I h;refine Call_ (ZbD I hg hm boot_zip (PyProof.Rows.callWith_type1 (thn (ha pos pins s σ H _ I h) fun us s1 ⟨vs,H1,I1,r1,q1⟩=>?_) (by rw[hs,hs2]) (by rw[hs2];rfl)));obtain⟨a,b,xs,ys,e,hq,hq2,q⟩:=q1;subst e;obtain⟨u,u2,rfl,ru,ru2⟩:=Vals.two r1;cases ru;cases ru2;obtain⟨its,rv,pl,hz⟩:=I1.list hq;obtain⟨its2,rv2,pl2,hz2⟩:=I1.list hq2;have la:a<s1.heap.objs.size:=by
  obtain⟨o,ho,_⟩:=pl.isList;exact Heap.lt_size ho
 have lb:b<s1.heap.objs.size:=by
  obtain⟨o,ho,_⟩:=pl2.isList;exact Heap.lt_size ho
 refine call_zip_2 pl.isList pl2.isList fun h' hz0 hI hO hit hit2 hsz hk=>wpAny_pyIter_zip hz0 ?_;refine⟨s1.heap.objs.size+4,[s1.heap.objs.size+4,s1.heap.objs.size+2,s1.heap.objs.size+3,s1.heap.objs.size,s1.heap.objs.size+1],_,_,H1,rfl,I1.kept (t':=s1.toks) hk,ZiL a b _ _ _ _ _ (zipApart_new la lb),⟨hz0,hI,⟨_,_,hO⟩,hit,hit2⟩,fun b hb=>?_,q⟩;have hb':s1.heap.objs.size<=b:=by
  simp only[List.mem_cons,List.not_mem_nil,or_false] at hb;rcases hb with rfl|rfl|rfl|rfl|rfl <;> lia
 exact I1.fpOk hb' (I1.hok.fresh hb')
end
end L2
namespace L2
open PySem PySem.Spec PyProof.Rows PySem.W Srd
def Zk6(K:PySem.W.Frag)(xs:List V)(H:Hp)(Q:VK):Prop :=
 (∃l ys qs,xs=[.ref l]/\SqL K H l ys/\ys.length<=90000/\QL H ys qs/\∀r zs ms,H r=none->ms.Pairwise (fun a b=>qLt b a=false)->ms.Perm qs->QL H zs ms->Q (.ref r) (upd H r (.lst zs))) \/
 (∃(l:Addr)(ns:List Int),xs=[.ref l]/\SqL K H l (ns.map V.int)/\ns.length<=90000/\∀r (ms:List Int),H r=none->ms.Pairwise (· <= ·)->ms.Perm ns->Q (.ref r) (upd H r (.lst (ms.map V.int))))
section
variable{X:Cx}
theorem ZfI{prog:Program}{w:World}{A:Around}{s:Shared}{l:Addr}{vs:List Value}(hl:s.heap.IsList l vs.toArray)(hn:vs.length<=90000){Q':List Value->Shared->Prop}{E':Value->Shared->Prop}
  (hq:∀(ys:List Value)(h':Heap)(tk:Nat)(d:Drawn),(∀b o,s.heap.get? b=some o->h'.get? b=some o)->ys=vs->ys.length<=90000->s.heap.objs.size<=h'.objs.size->Q' ys { s with heap:=h',toks:=tk,drawn:=d }):wpAny (model prog w) A (collect (.ref l)) Q' E' s:=by
 refine collect_list hl ?_ (by rw[sizeLine_eq];lia);refine hq _ _ s.toks s.drawn (fun b o e=>?_) rfl hn ?_
 ·rw[Heap.get?_update_other _ _ (Nat.ne_of_gt (Heap.lt_size e))];exact Heap.get?_push_of_some _ e
 ·rw[Heap.size_update,Heap.size_push];exact Nat.le_succ _
theorem Zje{P:Program}{w:World}{H:Hp}{h0:Heap}(ok:HOk P w H h0):∀{ys:List V}{its:List Value}{qs:List Qd},Vals ys its->QL H ys qs->its.map (kq h0)=qs
 | _,_,_,.nil,.nil=>rfl
 | _,_,_,.cons (b:=u) r rr,.cons ⟨p,e1,e2⟩ t=>by
  subst e1;have hu:u=Value.ref p:=r;subst hu;rw[List.map_cons,Zje ok rr t,ZgV (Zhb ok e2)]
theorem Zbb(hc:X.calm=true):Zby X (.builtin "sorted") (Zk6 X.K):=by
 intro pins s σ H xs us Q I r h;rcases h with⟨l,ys,qs,rfl,hq,hlen,hql,q⟩|⟨l,ns,rfl,hq,hlen,q⟩
 ·obtain⟨u,rfl,ru⟩:=vals1 r;obtain rfl:u=.ref l:=ru;obtain⟨its,rv,pl,hz⟩:=I.list hq;have hl:=rv.length;have x:QIt X.prog X.w s.heap its qs:=QIt.of I.hok rv hql;refine Za4 (lv:=fun u v=>qLt (kq s.heap u) (kq s.heap v)) (C:=fun ys=>ys=its) (Zcp.swo (kq s.heap)) (fun Q' E' hq'=>?_) (fun ys' h6 tk6 d6 hC k6 h2l=>?_) fun pa ys' out h3 tk3 d3 c hC hperm hso k3 e3 hle hos=>?_
  ·exact ZfI pl.isList (by lia) hq'
  ·subst hC;exact Zcv (h0:=s.heap) (fun v hv'=>let ⟨_,q,_,_,_,h3⟩:=x.mem hv';⟨q,h3⟩) k6 h2l
  ·subst hC;obtain⟨zs,rz,hzq⟩:=Zh1 I.hok rv hql out.toList fun u hu=>hperm.mem_iff.mp hu;have hzl:zs.length=out.size:=rz.length.trans (Array.length_toList ..);have I2:=I.laid (h':=h3) (t':=tk3) (a:=pa) (o:=.lst zs) (fun b o e=>k3 b o e) hle (show ZaJ X.prog X.w _ h3 _ (.lst zs) from⟨by rw[sizeLine_eq];lia,out.toList,c,rz,e3⟩);refine⟨.ref pa,_,I2.draws (d:=d3),rfl,q pa zs _ (I.hok.fresh hle) (List.pairwise_map.mpr hso) ?_ hzq⟩;rw[<- Zje I.hok rv hql];exact hperm.map _
 ·obtain⟨u,rfl,ru⟩:=vals1 r;obtain rfl:u=.ref l:=ru;obtain⟨its,rv,pl,hz⟩:=I.list hq;have hl:=rv.length;rw[List.length_map] at hl;refine Za4 (C:=fun ys=>ys=its) Zhi (fun Q' E' hq'=>?_) (fun ys' h6 tk6 d6 hC k6 h2l=>Zbz (fun v hv=>?_) h2l) fun pa ys' out h3 tk3 d3 c hC hperm hso k3 e3 hle hos=>?_
  ·exact ZfI pl.isList (by lia) hq'
  ·subst hC;obtain⟨y,hy,ry⟩:=Zef rv v hv;obtain⟨i,_,rfl⟩:=List.mem_map.mp hy;obtain⟨t,rfl⟩:=ry;exact⟨i,t,rfl⟩
  ·subst hC;obtain⟨zs,pz,rz⟩:=Zht hperm rv;obtain⟨ms,rfl,pm⟩:=ZhQ pz;have hzl:=rz.length;have I2:=I.laid (h':=h3) (t':=tk3) (a:=pa) (o:=.lst (ms.map V.int)) (fun b o e=>k3 b o e) hle (show ZaJ X.prog X.w _ h3 _ (.lst (ms.map V.int)) from⟨by rw[hzl,Array.length_toList,sizeLine_eq];lia,out.toList,c,rz,e3⟩);exact⟨.ref pa,_,I2.draws (d:=d3),rfl,q pa ms (I.hok.fresh hle) (rising rz hso) pm⟩
end
end L2
namespace L2
open PySem PySem.Spec PyProof.Rows
theorem Zk2:bootBuiltins "any" = some (.builtin "any"):=by decide +kernel
section
variable{X:Cx}
theorem any_range:∀(bs:List Bool),((List.range bs.length).any fun i=>(bs[i]?).getD false)=bs.any id:=by
 intro bs;rw[Bool.eq_iff_iff,List.any_eq_true,List.any_eq_true];constructor
 ·rintro⟨i,hi,h⟩;have hi':=List.mem_range.mp hi;rw[List.getElem?_eq_getElem hi'] at h;exact⟨_,List.getElem_mem hi',h⟩
 ·rintro⟨b,hb,h⟩;obtain⟨i,hi,rfl⟩:=List.getElem_of_mem hb;exact⟨i,List.mem_range.mpr hi,by rw[List.getElem?_eq_getElem hi];exact h⟩
theorem ZiA(hc:X.calm=true):Zby X (.builtin "any") (fun xs H Q=>∃(p:Addr)(bs:List Bool),xs=[.ref p]/\SqL X.K H p (bs.map V.bl)/\Q (.bl (bs.any id)) H):=by
 intro pins s σ H xs us Q I r h;obtain⟨p,bs,rfl,hS,q⟩:=h;obtain⟨u,rfl,ru⟩:=Vals.one r;cases ru;obtain⟨its,rv,pl,hz⟩:=I.list hS;have hl:=pl.isList;have hlen:bs.length=its.length:=by
  have:=rv.length;rw[List.length_map] at this;exact this
 refine call_any_walk (wpAny_pyIter_list hl ⟨s.heap.objs.size,[s.heap.objs.size,p],[s.heap.objs.size],its.toArray.size,_,_,fun i=>(bs[i]?).getD false,rfl,
  Walks.list (A:=X.A.in1) (I.ok.hd hc) _ p (Nat.ne_of_lt pl.lt) its.toArray,⟨⟨_,Heap.get?_push_size _ rfl,rfl,rfl⟩,hl.push _⟩,fun i v s' Q' E' hP hQ=>?_,fun h' tk hk=>?_⟩)
 ·obtain⟨b,e,e2⟩:=ZdR rv i v (by simpa using hP);subst e2;simp only[e,Option.getD_some] at hQ;exact wpAny_truthy_bool hQ
 ·rw[List.size_toArray,<- hlen,any_range];refine⟨.bl _,H,I.kept (t':=tk) fun b o e=>hk b o (fun hm=>?_) (Heap.get?_push_of_some _ e),rfl,q⟩;rw[List.mem_singleton.mp hm] at e;exact Nat.lt_irrefl _ (Heap.lt_size e)
end
end L2
namespace Stg
open PySem PyProof.Rows Sts
section
variable{prog:Program}{w:World}{A:Around}{E:Value->Shared->Prop}{s:Shared}
def Zgw(prog:Program)(w:World)(h:Heap)(S:Addr)(G:List (Int×Value)->Prop)(n:Nat)(led:Bool):Prop :=
 ∃o es ep t,h.get? S=some o/\o.ExactSet/\o.data=.set es ep t/\ElemsOf (PySem.strKind prog w) es.toList/\Tab es t/\es.size<=n/\t.led=led/\G es.toList
set_option maxHeartbeats 1000000 in
theorem ZfS{g:Bool->Sem Unit}(hg:∀(b:Bool)(s₁ : Shared)(Q':Unit->Shared->Prop),Q' () s₁ -> wpAny (model prog w) A (g b) Q' E s₁)
  {S:Addr} {o:Obj} {es es1:Array (Int×Value)} {ep:Nat} {t t2:SetTable} {G:List (Int×Value)->Prop} (gp:∀l l',List.Perm l' l->G l->G l') {n:Nat} {led:Bool} {Q:Option Bool->Shared->Prop} (ho:s.heap.get? S=some o) (hx:o.ExactSet) (hd:o.data=.set es ep t)
  (hE:ElemsOf (PySem.strKind prog w) es1.toList) (hvs:G es1.toList) (h1:1<=es1.size) (hn:es1.size<=1000) (hsz:es1.size<=n) (hp:t2.place.size=es1.size) (hd2:t2.dummies=#[]) (hg2:Good t2.mask) (hris:Ris t2.place) (hled:t2.led=led)
  (q:∀h',Heap.SameBut S s.heap h'->Zgw prog w h' S G n led->Q (some true) { s with heap:=h' }) :
  wpAny (model prog w) A (do
   storeSet S es1 t2
   if(!false&&t2.tooFull)=true then do
     g (relayAll t2 es1 (SetTable.grown es1.size)).2.2
     storeSet S (relayAll t2 es1 (SetTable.grown es1.size)).1 (relayAll t2 es1 (SetTable.grown es1.size)).2.1
     pure (some true)
    else pure (some true)) Q E s:=by
 refine wpAny_bind (wpAny_storeSet_of ho hd ?_ (by rw[sizeLine_eq];lia));have ho1:=stored ho hd es1 t2;have sb1:Heap.SameBut S s.heap (s.heap.update S (Obj.putSet es1 t2)):=Heap.SameBut.update ..;generalize s.heap.update S (Obj.putSet es1 t2)=hp1 at ho1 sb1;by_cases hfull:t2.tooFull=true
 ·rw[hfull,if_pos (by decide)];obtain⟨es2,t3,gv,e,hpm,hT3,hl3⟩:=ZeQ (t:=t2) h1 hn;rw[e];dsimp only;have hz2:es2.size=es1.size:=by rw[<- Array.length_toList,hpm.length_eq,Array.length_toList]
  refine wpAny_bind (hg _ _ _ (wpAny_bind (wpAny_storeSet_of (s:={ s with heap:=hp1 }) ho1 rfl ?_ (by rw[hz2,sizeLine_eq];lia))));have ho2:=stored ho1 rfl es2 t3;have sb2:Heap.SameBut S hp1 (hp1.update S (Obj.putSet es2 t3)):=Heap.SameBut.update ..;exact wpAny_pure (q _ (sb1.trans sb2) ⟨_,es2,_,t3,ho2,hx,rfl,fun e he=>hE e (hpm.mem_iff.mp he),hT3,by lia,by rw[hl3,hled],gp _ _ hpm hvs⟩)
 ·have hnf:t2.tooFull=false:=by
   cases hc:t2.tooFull with
   | true=>exact absurd hc hfull
   | false=>rfl
  rw[hnf,if_neg (by decide)];refine wpAny_pure (q hp1 sb1 ⟨_,es1,_,t2,ho1,hx,rfl,hE,⟨hp,hd2,hg2,?_,hris⟩,hsz,hled,hvs⟩);unfold SetTable.tooFull at hnf;have:=of_decide_eq_false hnf;lia
set_option maxHeartbeats 2000000 in
theorem ZgK{S:Addr}{G G':List (Int×Value)->Prop}(gp:∀l l',List.Perm l' l->G' l->G' l'){n i tk:Nat}{k:Str}{led:Bool}{Q:Bool->Shared->Prop}(hS:Zgw prog w s.heap S G n led)(hn:n<=900)(g0:∀l,G l->(∃e∈l,(PySem.strKind prog w).is k e.2=true)->G' l)(g1:∀l x,G l->(∀e∈l,(PySem.strKind prog w).is k e.2=false)->G' ((x,Value.str k tk)::l))
  (q:∀b h',Heap.SameBut S s.heap h'->Zgw prog w h' S G' (n+1) led->Q b { s with heap:=h' }):wpAny (model prog w) A (setAddHashed S (.str k tk) ((PySem.strKind prog w).hash k)) Q E s:=by
 obtain⟨o,es,ep,t,ho,hx,hd,hE,hT,hsz,hled,hvs⟩:=hS;have hkey:(PySem.strKind prog w).is k (Value.str k tk)=true:=PySem.strKind_is _ _ _ _;have hb:es.size<scanBound:=by show es.size<4096;lia
 unfold setAddHashed setAddHashedIn;refine wpAny_holding (wpAny_bind (wpAny_setState_of ho hd hT.fits ?_));dsimp only;rw[byScan_of (knd:=PySem.strKind prog w) rfl hb hE];simp only[↓reduceIte];unfold setAddByScan;refine wpAny_bind ?_;refine wpAny_bind (wpAny_rule ?_);refine wpAny_bind (wpAny_setScan_of (knd:=PySem.strKind prog w) hkey ho hd hT.fits hE ?_);cases hr:List.findIdx? (fun e=>(PySem.strKind prog w).is k e.2) es.toList with
 | some j =>
  dsimp only;obtain⟨hj,hpj,_⟩:=List.findIdx?_eq_some_iff_getElem.mp hr;exact wpAny_pure (wpAny_pure (q false s.heap (Heap.SameBut.refl ..) ⟨o,es,ep,t,ho,hx,hd,hE,hT,by lia,hled,g0 _ hvs ⟨es.toList[j],List.getElem_mem hj,hpj⟩⟩))
 | none =>
  dsimp only;obtain⟨j,hj,eL⟩:=ZhG hT ((PySem.strKind prog w).hash k) (Value.str k tk);rw[eL];dsimp only;have hins:=SetTable.insertAt_perm es (SetTable.below t.place j) ((PySem.strKind prog w).hash k,Value.str k tk);have hmem:∀e∈(SetTable.insertAt es (SetTable.below t.place j) ((PySem.strKind prog w).hash k,Value.str k tk)).toList,e∈es.toList\/e=((PySem.strKind prog w).hash k,Value.str k tk):=fun e he=>by
   have:=hins.mem_iff.mp he;rw[Array.toList_push] at this;rcases List.mem_append.mp this with z|z
   ·exact .inl z
   ·exact .inr (List.mem_singleton.mp z)
  have hG1:G' (SetTable.insertAt es (SetTable.below t.place j) ((PySem.strKind prog w).hash k,Value.str k tk)).toList:=by
   refine gp _ _ ?_ (g1 es.toList ((PySem.strKind prog w).hash k) hvs fun e he=>?_)
   ·refine hins.trans ?_;rw[Array.toList_push];exact List.perm_append_comm (l₁ := es.toList) (l₂ :=[_])
   ·exact List.findIdx?_eq_none_iff.mp hr e he
  have hs1:(SetTable.insertAt es (SetTable.below t.place j) ((PySem.strKind prog w).hash k,Value.str k tk)).size=es.size+1:=by
   rw[<- Array.length_toList,hins.length_eq,Array.length_toList,Array.size_push]
  have hp1:(SetTable.insertAt t.place (SetTable.below t.place j) j).size=es.size+1:=by
   rw[<- Array.length_toList,(SetTable.insertAt_perm t.place (SetTable.below t.place j) j).length_eq,Array.length_toList,Array.size_push,hT.size]
  have hris:Ris (SetTable.insertAt t.place (SetTable.below t.place j) j):=Zcm hT.ris (Zbj hT.ris hj);generalize SetTable.insertAt es (SetTable.below t.place j) ((PySem.strKind prog w).hash k,Value.str k tk)=es1 at hmem hs1 hG1;have hE1:ElemsOf (PySem.strKind prog w) es1.toList:=fun e he=>by
   rcases hmem e he with z|z
   ·exact hE e z
   ·subst z;exact⟨⟨k,PySem.strKind_is _ _ _ _,rfl⟩,rfl⟩
  refine wpAny_bind (wpAny_pure ?_)
  split
  ·refine wpAny_bind ?_;rw[hashByValue_scannable 8 (x:=Value.str k tk) rfl];refine wpAny_pure ?_;refine ZfS (gp:=gp) (fun b s₁ Q' hq=>by cases b <;> first|exact wpAny_pure hq|exact wpAny_rule hq) ho hx hd hE1 hG1 (by lia) (by lia) (show es1.size<=n+1 by lia) (by rw[hs1];exact hp1) hT.none hT.good hris hled fun h' sb hS'=>?_
   exact wpAny_pure (q true h' sb hS')
  ·refine wpAny_bind (wpAny_pure ?_);refine ZfS (gp:=gp) (fun b s₁ Q' hq=>by cases b <;> first|exact wpAny_pure hq|exact wpAny_rule hq) ho hx hd hE1 hG1 (by lia) (by lia) (show es1.size<=n+1 by lia) (by rw[hs1];exact hp1) hT.none hT.good hris hled fun h' sb hS'=>?_
   exact wpAny_pure (q true h' sb hS')
theorem Zmh{S:Addr}{k:Str}{tk:Nat}{G G':List (Int×Value)->Prop}(gp:∀l l',List.Perm l' l->G' l->G' l'){n:Nat}{led:Bool}{Q:Bool->Shared->Prop}(hS:Zgw prog w s.heap S G n led)(hn:n<=900)(g0:∀l,G l->(∃e∈l,(PySem.strKind prog w).is k e.2=true)->G' l)(g1:∀l x,G l->(∀e∈l,(PySem.strKind prog w).is k e.2=false)->G' ((x,Value.str k tk)::l))
  (q:∀r h' tk,s.toks<=tk->Heap.SameBut S s.heap h'->Zgw prog w h' S G' (n+1) led->Q r { s with heap:=h',toks:=tk }):wpAny (model prog w) A (setAdd S (.str k tk)) Q E s:=by
 unfold setAdd;refine wpAny_holding (wpAny_bind ((PySem.strKind prog w).pyHash (PySem.strKind_is _ _ _ _) ?_));exact ZgK gp (i:=0) (s:={ s with toks:=_ }) hS hn g0 g1 fun b h' sb hS'=>q b h' _ (Nat.le_add_right _ _) sb hS'
end
end Stg
namespace L2
open PySem PySem.Spec PyProof.Rows PySem.W Srd Sts Stg
def Zlc:Value->Str
 | .str x _=>x
 | _=>Str.empty
def GT(P:Str->Prop)(l:List (Int×Value)):Prop:=l.Pairwise (fun e e'=>Zlc e.2≠Zlc e'.2)/\∀i,(∃e∈l,Zlc e.2=i)↔P i
theorem GT.perm{P:Str->Prop}(l l':List (Int×Value))(p:l'.Perm l)(h:GT P l):GT P l' :=
 ⟨(p.pairwise_iff fun{a b} hab e=>hab e.symm).mpr h.1,fun i=>Iff.trans ⟨fun⟨e,h1,h2⟩=>⟨e,p.mem_iff.mp h1,h2⟩,fun⟨e,h1,h2⟩=>⟨e,p.mem_iff.mpr h1,h2⟩⟩ (h.2 i)⟩
def GS(l:List (Int×Value)):Prop := ∀e∈l,∃i t,e.2=Value.str i t
section
variable{X:Cx}{e:Expr}{te:TE}{p p' pos pos':Pos}
theorem ZhA{P:Program}{w:World}{k i:Str}{t:Tok}:(PySem.strKind P w).is k (Value.str i t)=true↔i=k:=by
 constructor
 ·intro h;exact(PySem.strKind P w).inj _ _ _ (PySem.strKind_is _ _ _ _) h
 ·rintro rfl;exact PySem.strKind_is _ _ _ _
def JT(P:Program)(w:World)(h0:Heap)(S:Addr)(ns:List Str)(i:Nat)(h:Heap):Prop :=
 Zgw P w h S (fun l=>GS l/\GT (fun k=>∃j:Nat,j<i/\ns[j]?= some k) l) i (Zft w)/\∀b o,b<S->h0.get? b=some o->h.get? b=some o
theorem JT.goes{P:Program}{w:World}{A:Around}{h0:Heap}{S:Addr}{items:Array Value}{ns:List Str}(x:Vals (ns.map V.str) items.toList)(hn:items.size<=900):Goes P w A S items (JT P w h0 S ns) where
 keep:=fun i h h' ⟨⟨o,es,ep,t,ho,hx,hd,hE,hT,hsz,hl,hG⟩,hb⟩ k =>
  ⟨⟨o,es,ep,t,k S o (Nat.le_refl _) ho,hx,hd,hE,hT,hsz,hl,hG⟩,fun b o hlt e=>k b o (Nat.le_of_lt hlt) (hb b o hlt e)⟩
 add:=fun i v s Q E hi ⟨hS1,hb⟩ q=>by
  have hi':items.toList[i]?= some v:=by rw[Array.getElem?_toList];exact hi
  have hil:i<items.size:=(Array.getElem?_eq_some_iff.mp hi).1;obtain⟨z,hz,rz⟩:=ZcK x i v hi';rw[List.getElem?_map] at hz;obtain⟨k,hk,rfl⟩:=Option.map_eq_some_iff.mp hz;obtain⟨tk0,rfl⟩:=rz;have eP:∀m:Str,(∃j:Nat,j<i+1/\ns[j]?= some m)↔((∃j:Nat,j<i/\ns[j]?= some m)\/m=k):=fun m=>by
   constructor
   ·rintro⟨j,h1,h2⟩;by_cases c:j<i
    ·exact .inl ⟨j,c,h2⟩
    ·have:j=i:=by lia
     subst this;rw[hk] at h2;cases h2;exact .inr rfl
   ·rintro(⟨j,h1,h2⟩|rfl)
    ·exact⟨j,by lia,h2⟩
    ·exact⟨i,by lia,hk⟩
  refine Zmh (G':=fun l=>GS l/\GT (fun k=>∃j:Nat,j<i+1/\ns[j]?= some k) l) (fun l l' pp ⟨g1,g2⟩=>⟨fun e he=>g1 e (pp.mem_iff.mp he),GT.perm l l' pp g2⟩) hS1 (by lia) (fun l ⟨hN,g1,g2⟩ hex=>⟨hN,g1,fun m=>?_⟩) (fun l x ⟨hN,g1,g2⟩ hno=>⟨fun e he=>?_,List.pairwise_cons.mpr ⟨fun e he z=>?_,g1⟩,fun m=>?_⟩) fun b h' tk _ sb hS2=>q b h' tk sb ⟨hS2,fun b o hlt e=>(sb.2 b (Nat.ne_of_lt hlt)).trans (hb b o hlt e)⟩
  ·refine Iff.trans ?_ (Iff.trans (or_congr (g2 m) Iff.rfl) (eP m).symm);constructor
   ·exact .inl
   ·rintro(h|rfl)
    ·exact h
    ·obtain⟨e,he,h1⟩:=hex;obtain⟨i',t',h2⟩:=hN e he;rw[h2] at h1;exact⟨e,he,by rw[h2];exact ZhA.mp h1⟩
  ·rcases List.mem_cons.mp he with rfl|he
   ·exact⟨k,tk0,rfl⟩
   ·exact hN e he
  ·obtain⟨i',t',h2⟩:=hN e he;have h3:=hno e he;rw[h2] at h3 z;have:i'=k:=z.symm;rw[ZhA.mpr this] at h3;cases h3
  ·refine Iff.trans ?_ (Iff.trans (or_congr (g2 m) Iff.rfl) (eP m).symm);constructor
   ·rintro⟨e,he,h1⟩;rcases List.mem_cons.mp he with rfl|he
    ·exact .inr h1.symm
    ·exact .inl ⟨e,he,h1⟩
   ·rintro(⟨e,he,h1⟩|rfl)
    ·exact⟨e,List.mem_cons_of_mem _ he,h1⟩
    ·exact⟨_,List.mem_cons_self ..,rfl⟩
theorem JT.zero{P:Program}{w:World}{h0 h:Heap}{S:Addr}{ns:List Str}(hS:h.get? S=some (Zai w))(k:∀b o,b<S->h0.get? b=some o->h.get? b=some o):JT P w h0 S ns 0 h :=
 ⟨⟨_,#[],0,_,hS,⟨rfl,rfl,rfl⟩,rfl,(fun _ h=>(nomatch h)),⟨rfl,rfl,.inl rfl,(by show(0:Nat)*5<7*3;decide),List.Pairwise.nil⟩,Nat.le_refl _,rfl,⟨(fun _ h=>(nomatch h)),List.Pairwise.nil,fun ks=>⟨fun⟨_,h,_⟩=>(nomatch h),fun⟨_,h,_⟩=>absurd h (Nat.not_lt_zero _)⟩⟩⟩,k⟩
end
end L2
namespace Fg
open PySem L2 FgM
theorem ZcR{X:Cx}{K:PySem.W.Frag}{es:List Expr}{k:Nat}{t:TGs}{n:Nat}{pos:Pos}(hK:X.K=K)(hc:X.calm=true)(h:PGs X es t)(hn:(assignEach es X.env).length=n:=by rfl)(hst:(assignEach es X.env).findIdx? (·.1)=none:=by rfl):PG X (.Tuple es k pos) (ZlT K n t):=by
 subst hK;exact Zf9 hc h hn hst
theorem ZcX:bootBuiltins "sorted" = some (.builtin "sorted"):=by decide +kernel
theorem ZbT{K:PySem.W.Frag}{a p:Addr}{xs:List V}{g:TG}{te:TE}{R:Hp->Prop}{σ0:St}{H0:Hp}(Pv:Nat->List V->St->Hp->Prop)(h0:Pv 0 [] σ0 H0)
  (hl:∀i ys σ H,i<=xs.length->Pv i ys σ H->SqT K H a xs/\H p=some (.lst ys))
  (hs:∀i ys x σ H,i<xs.length->xs[i]?= some x->Pv i ys σ H->g x σ H fun σ3 H4=>te σ3 H4 fun v H5=>H5 p=some (.lst ys)/\ys.length<sizeLine/\∃m',m'<xs.length-i/\CW xs.length Pv (i+1) m' (ys ++ [v]) σ3 (upd H5 p (.lst (ys ++ [v]))))
  (hd:∀ys σ H,Pv xs.length ys σ H->R H) :
  ∃W:Nat->Nat->List V->St->Hp->Prop,(∃m,W 0 m [] σ0 H0)/\∀i m ys σc H2,W i m ys σc H2->H2 p=some (.lst ys)/\(((Itt K a).stop i H2/\R H2)\/((Itt K a).go i H2/\∀x H3,(Itt K a).yld i H2 x H3->g x σc H3 fun σ3 H4=>te σ3 H4 fun v H5 =>
   H5 p=some (.lst ys)/\ys.length<sizeLine/\∃m',m'<m/\W (i+1) m' (ys ++ [v]) σ3 (upd H5 p (.lst (ys ++ [v]))))):=by
 refine⟨CW xs.length Pv,⟨_,rfl,Nat.zero_le _,h0⟩,?_⟩;rintro i m ys σ H ⟨rfl,hi,hp⟩;obtain⟨h1,h2⟩:=hl i ys σ H hi hp;refine⟨h2,?_⟩;by_cases hlt:i<xs.length
 ·refine .inr ⟨⟨xs,xs[i],h1,List.getElem?_eq_getElem hlt⟩,?_⟩;rintro x H3 ⟨rfl,hx⟩;exact hs i ys x σ _ hlt (hx xs h1) hp
 ·refine .inl ⟨⟨xs,h1,by lia⟩,hd ys σ H ?_⟩;have e:i=xs.length:=by lia
  rw[<- e];exact hp
theorem ZK{α : Type}{l:List α}{i:Nat}{x : α}(h:l[i]?= some x):l.take (i+1)=l.take i ++ [x]:=by
 rw[List.take_add_one,h];rfl
theorem Za2{lo:Int}{n:Nat}{p:Addr}{g:TG}{te:TE}{R:Hp->Prop}{σ0:St}{H0:Hp}(Pv:Nat->List V->St->Hp->Prop)(h0:Pv 0 [] σ0 H0)
  (hl:∀i ys σ H,i<=n->Pv i ys σ H->H p=some (.lst ys))
  (hs:∀i ys σ H,i<n->Pv i ys σ H->g (.int (lo+i)) σ H fun σ3 H4=>te σ3 H4 fun v H5=>H5 p=some (.lst ys)/\ys.length<sizeLine/\∃m',m'<n-i/\CW n Pv (i+1) m' (ys ++ [v]) σ3 (upd H5 p (.lst (ys ++ [v]))))
  (hd:∀ys σ H,Pv n ys σ H->R H) :
  ∃W:Nat->Nat->List V->St->Hp->Prop,(∃m,W 0 m [] σ0 H0)/\∀i m ys σc H2,W i m ys σc H2->H2 p=some (.lst ys)/\(((Itr lo n).stop i H2/\R H2)\/((Itr lo n).go i H2/\∀x H3,(Itr lo n).yld i H2 x H3->g x σc H3 fun σ3 H4=>te σ3 H4 fun v H5 =>
   H5 p=some (.lst ys)/\ys.length<sizeLine/\∃m',m'<m/\W (i+1) m' (ys ++ [v]) σ3 (upd H5 p (.lst (ys ++ [v]))))):=by
 refine⟨CW n Pv,⟨_,rfl,Nat.zero_le _,h0⟩,?_⟩;rintro i m ys σ H ⟨rfl,hi,hp⟩;refine⟨hl i ys σ H hi hp,?_⟩;by_cases hlt:i<n
 ·refine .inr ⟨hlt,?_⟩;rintro x H3 ⟨rfl,rfl⟩;exact hs i ys σ _ hlt hp
 ·have e:i=n:=by lia
  subst e;exact .inl ⟨Nat.le_refl _,hd ys σ H hp⟩
theorem ZdE{X:Cx}{K:PySem.W.Frag}(h:X.K=K):OpR X (compareOp .In) (rIn K false):=h ▸ Zia
theorem ZaD{H:Hp}{p:Addr}{ys zs:List V}(hp:H p=some (.lst ys)):∀b xs,H b=some (.tup xs)->(upd H p (.lst zs)) b=some (.tup xs):=fun b xs h=>by
 rw[ZR (fun e=>by rw[e,hp] at h;cases h)];exact h
def ZaV(K:PySem.W.Frag):Sp:=fun vs H Q _=>∃(a:Addr)(ns:List Int)(k:Int),vs=[.ref a,.int k]/\SqL K H a (ns.map V.int)/\ns.length<=63/\0<=k/\k<=1000/\∀v:Int,0<=v->v<2147483647->Q (.int v) H
structure FQ where
 n:Int
 hs:List Int
 ts:List Int
 qs:List Srd.Qd
abbrev ZlV(l:List Int):Prop:=l.Pairwise (· < ·)
abbrev Zdp(l:List Srd.Qd):Prop:=l.Pairwise (fun a b=>Srd.qLt a b=true)
def FmQ(H:Hp)(a:Addr)(f:FQ):Prop := ∃(h1 h2 h3:Addr)(zs:List V),H a=some (.tup [.int f.n,.ref h1,.ref h2,.ref h3])/\H h1=some (.tup (f.hs.map V.int))/\H h2=some (.tup (f.ts.map V.int))/\H h3=some (.tup zs)/\QL H zs f.qs
theorem FmQ.same{H H':Hp}{a:Addr}{f:FQ}(h:FmQ H a f)(s:Zk H H'):FmQ H' a f:=by
 obtain⟨h1,h2,h3,zs,e1,e2,e3,e4,e5⟩:=h;exact⟨h1,h2,h3,zs,s _ _ e1,s _ _ e2,s _ _ e3,s _ _ e4,e5.keep fun b xs e=>s _ _ e⟩
theorem QL.snoc{H:Hp}{q:Srd.Qd}{p:Addr}(e:H p=some (tq q)):∀{zs:List V}{qs:List Srd.Qd},QL H zs qs->QL H (zs ++ [.ref p]) (qs ++ [q])
 | _,_,.nil=>.cons ⟨p,rfl,e⟩ .nil
 | _,_,.cons r t=>.cons r (QL.snoc e t)
theorem QL.app{H:Hp}{zs':List V}{qs':List Srd.Qd}(h':QL H zs' qs'):∀{zs:List V}{qs:List Srd.Qd},QL H zs qs->QL H (zs++zs') (qs++qs')
 | _,_,.nil=>h'
 | _,_,.cons r t=>.cons r (QL.app h' t)
theorem ZaW{α : Type}[DecidableEq α]:∀{l m:List α},l.Nodup->(∀x∈l,x∈m)->l.length<=m.length
 | [],_,_,_=>Nat.zero_le _
 | a::l,m,hn,h=>by
  obtain⟨h1,h2⟩:=List.nodup_cons.mp hn;have ha:=h a (List.mem_cons_self ..);have h3:=ZaW (m:=m.erase a) h2 fun x hx=>(List.mem_erase_of_ne (fun(e:x=a)=>h1 (e ▸ hx))).mpr (h x (List.mem_cons_of_mem _ hx));rw[List.length_erase_of_mem ha] at h3;have:=List.length_pos_of_mem ha;rw[List.length_cons];lia
theorem ZfC{l:List Srd.Qd}(h:Zdp l):l.Nodup:=h.imp fun{a b} hab e=>by
 subst e;rw[Srd.Zcp.irr] at hab;cases hab
theorem Zc2{K:PySem.W.Frag}{a p:Addr}{xs:List V}{g:TG}{tt:TT}{te:TE}{R:Hp->Prop}{σ0:St}{H0:Hp}(Pv:Nat->List V->St->Hp->Prop)(h0:Pv 0 [] σ0 H0)
  (hl:∀i ys σ H,i<=xs.length->Pv i ys σ H->SqT K H a xs/\H p=some (.lst ys))
  (hs:∀i ys x σ H,i<xs.length->xs[i]?= some x->Pv i ys σ H->g x σ H fun σ3 H4=>tt σ3 H4 fun b H4'=>if b=true then te σ3 H4' fun v H5=>H5 p=some (.lst ys)/\ys.length<sizeLine/\∃m',m'<xs.length-i/\CW xs.length Pv (i+1) m' (ys ++ [v]) σ3 (upd H5 p (.lst (ys ++ [v])))
   else ∃m',m'<xs.length-i/\CW xs.length Pv (i+1) m' ys σ3 H4')
  (hd:∀ys σ H,Pv xs.length ys σ H->R H) :
  ∃W:Nat->Nat->List V->St->Hp->Prop,(∃m,W 0 m [] σ0 H0)/\∀i m ys σc H2,W i m ys σc H2->H2 p=some (.lst ys)/\(((Itt K a).stop i H2/\R H2)\/((Itt K a).go i H2/\∀x H3,(Itt K a).yld i H2 x H3->g x σc H3 fun σ3 H4=>tt σ3 H4 fun b H4'=>if b=true then te σ3 H4' fun v H5 =>
   H5 p=some (.lst ys)/\ys.length<sizeLine/\∃m',m'<m/\W (i+1) m' (ys ++ [v]) σ3 (upd H5 p (.lst (ys ++ [v]))) else ∃m',m'<m/\W (i+1) m' ys σ3 H4')):=by
 refine⟨CW xs.length Pv,⟨_,rfl,Nat.zero_le _,h0⟩,?_⟩;rintro i m ys σ H ⟨rfl,hi,hp⟩;obtain⟨h1,h2⟩:=hl i ys σ H hi hp;refine⟨h2,?_⟩;by_cases hlt:i<xs.length
 ·refine .inr ⟨⟨xs,xs[i],h1,List.getElem?_eq_getElem hlt⟩,?_⟩;rintro x H3 ⟨rfl,hx⟩;exact hs i ys x σ _ hlt (hx xs h1) hp
 ·have e:i=xs.length:=by lia
  subst e;exact .inl ⟨⟨xs,h1,Nat.le_refl _⟩,hd ys σ H hp⟩
theorem Zgb{x:Int}{xs:List Int}:inV (.int x) (xs.map V.int)=decide (x∈xs):=by
 unfold inV;rw[Bool.eq_iff_iff,List.any_eq_true,decide_eq_true_eq];constructor
 ·rintro⟨y,hy,h⟩;obtain⟨z,hz,rfl⟩:=List.mem_map.mp hy;have:z=x:=by
   have h':(z == x)=true:=by simpa[eqV] using h
   exact eq_of_beq h'
  exact this ▸ hz
 ·intro h;exact⟨V.int x,List.mem_map.mpr ⟨x,h,rfl⟩,by simp[eqV]⟩
theorem Zey(xs:List Int):(xs.map V.int).all Zdm=true:=by
 rw[List.all_eq_true];intro y hy;obtain⟨z,_,rfl⟩:=List.mem_map.mp hy;rfl
def upQ(b i:Int)(q:Srd.Qd):Srd.Qd:=(q.1+b,q.2.1,q.2.2.1+i,q.2.2.2+b)
abbrev Tr:=Str×Int×Int
def TL(H:Hp)(zs:List V)(ts:List Tr):Prop:=Paired (fun z (t:Tr)=>∃p,z=V.ref p/\H p=some (.tup [.str t.1,.int t.2.1,.int t.2.2])) zs ts
theorem TL.keep{H H':Hp}:∀{zs:List V}{qs:List Tr},TL H zs qs->(∀b xs,H b=some (.tup xs)->H' b=some (.tup xs))->TL H' zs qs
 | _,_,.nil,_=>.nil
 | _,_,.cons ⟨p,e1,e2⟩ t,k=>.cons ⟨p,e1,k _ _ e2⟩ (TL.keep t k)
theorem TL.length{H:Hp}:∀{zs:List V}{qs:List Tr},TL H zs qs->zs.length=qs.length
 | _,_,.nil=>rfl
 | _,_,.cons _ t=>by rw[List.length_cons,List.length_cons,TL.length t]
theorem TL.get{H:Hp}:∀{zs:List V}{qs:List Tr},TL H zs qs->∀(i:Nat) z,zs[i]?= some z->∃p q,qs[i]?= some q/\z=V.ref p/\H p=some (.tup [.str q.1,.int q.2.1,.int q.2.2])
 | _,_,.cons ⟨p,e1,e2⟩ t,i,z,hz=>by
  cases i with
  | zero =>
   injection hz with hz;subst hz;exact⟨p,_,rfl,e1,e2⟩
  | succ i=>exact TL.get t i z hz
theorem TL.snoc{H:Hp}{q:Tr}{p:Addr}(e:H p=some (.tup [.str q.1,.int q.2.1,.int q.2.2])):∀{zs:List V}{qs:List Tr},TL H zs qs->TL H (zs ++ [.ref p]) (qs ++ [q])
 | _,_,.nil=>.cons ⟨p,rfl,e⟩ .nil
 | _,_,.cons r t=>.cons r (TL.snoc e t)
def tr(q:Srd.Qd):Tr:=(q.2.1,q.2.2.1,q.2.2.2)
def Zaf(f:FQ):List Tr:=(f.qs.filter fun q=>decide (q.1∈f.hs)).map tr
def Zeo(f:FQ):List Srd.Qd:=f.qs++f.qs.map (upQ f.n 0)
def Zb4:Sp:=fun vs H Q _=>∃(a:Addr)(b:Int)(xs:List Int),vs=[.ref a,.int b]/\H a=some (.tup (xs.map V.int))/\xs.length<=100/\∀(r:Addr)(H':Hp),Zk H H'->H r=none->H' r=some (.lst ((xs.map (· + b)).map V.int))->Q (.ref r) H'
structure IsF(n':Int)(hs' ts':List Int)(qs':List Srd.Qd)(h:FQ):Prop where
 n:h.n=n'
 hs:ZlV h.hs
 ts:ZlV h.ts
 qs:Zdp h.qs
 hm:∀x,x∈h.hs↔x∈hs'
 tm:∀x,x∈h.ts↔x∈ts'
 qm:∀x,x∈h.qs↔x∈qs'
def Zlj(g:FQ):Bool:=(g.hs.map fun x=>decide (x∈g.ts)).any id
def Zgl(f g:FQ):List Int:=(f.ts++g.ts.map (· + 2*f.n))++if Zlj g=true then f.ts.map (· + f.n) else []
def mkT(n e:Int)(t:Tr):Srd.Qd:=(n+e,t.1,2*n+t.2.1,2*n+t.2.2)
def ZcH(f g:FQ):List Srd.Qd:=(Zeo f++g.qs.map (upQ (2*f.n) (2*f.n)))++f.ts.flatMap fun e=>(Zaf g).map (mkT f.n e)
theorem Zbr(g:FQ):(Zaf g).length<=g.qs.length:=by
 unfold Zaf;rw[List.length_map];exact List.length_filter_le ..
theorem ZdT{α β : Type}{F : α -> List β}{k:Nat}(h:∀a,(F a).length<=k):∀l:List α,(l.flatMap F).length<=l.length*k
 | []=>by simp
 | a::l=>by
  have:=ZdT h l;have:=h a;rw[List.flatMap_cons,List.length_append,List.length_cons,Nat.succ_mul];lia
theorem Zer{α β : Type}(F : α -> List β)(l:List α)(a : α):(l ++ [a]).flatMap F=l.flatMap F++F a:=by
 rw[List.flatMap_append];simp
theorem Zd8(f:FQ):(Zeo f).length=f.qs.length+f.qs.length:=by
 unfold Zeo;rw[List.length_append,List.length_map]
def mkA(n k:Int)(t:Tr):Srd.Qd:=(k,t.1,t.2.1,n+t.2.2)
def Za0(f:FQ):List Int:=2*f.n::f.ts.map (· + f.n)
def Zbo(f:FQ):List Srd.Qd:=Zeo f++(Za0 f).flatMap fun k=>(Zaf f).map (mkA f.n k)
def Ze6(f:FQ):List Int:=(f.ts++f.ts.map (· + f.n)) ++ [2*f.n]
end Fg
namespace L2
open PySem PySem.Spec PyProof.Rows
theorem Zc3{lo:Int}{n:Nat}{p:Addr}{g:TG}{tt:TT}{te:TE}{R:Hp->Prop}{σ0:St}{H0:Hp}(Pv:Nat->List V->St->Hp->Prop)(h0:Pv 0 [] σ0 H0)
  (hl:∀i ys σ H,i<=n->Pv i ys σ H->H p=some (.lst ys))
  (hs:∀i ys σ H,i<n->Pv i ys σ H->g (.int (lo+i)) σ H fun σ3 H4=>tt σ3 H4 fun b H4'=>if b=true then te σ3 H4' fun v H5=>H5 p=some (.lst ys)/\ys.length<sizeLine/\∃m',m'<n-i/\CW n Pv (i+1) m' (ys ++ [v]) σ3 (upd H5 p (.lst (ys ++ [v])))
   else ∃m',m'<n-i/\CW n Pv (i+1) m' ys σ3 H4')
  (hd:∀ys σ H,Pv n ys σ H->R H) :
  ∃W:Nat->Nat->List V->St->Hp->Prop,(∃m,W 0 m [] σ0 H0)/\∀i m ys σc H2,W i m ys σc H2->H2 p=some (.lst ys)/\(((Itr lo n).stop i H2/\R H2)\/((Itr lo n).go i H2/\∀x H3,(Itr lo n).yld i H2 x H3->g x σc H3 fun σ3 H4=>tt σ3 H4 fun b H4'=>if b=true then te σ3 H4' fun v H5 =>
   H5 p=some (.lst ys)/\ys.length<sizeLine/\∃m',m'<m/\W (i+1) m' (ys ++ [v]) σ3 (upd H5 p (.lst (ys ++ [v]))) else ∃m',m'<m/\W (i+1) m' ys σ3 H4')):=by
 refine⟨CW n Pv,⟨_,rfl,Nat.zero_le _,h0⟩,?_⟩;rintro i m ys σ H ⟨rfl,hi,hp⟩;refine⟨hl i ys σ H hi hp,?_⟩;by_cases hlt:i<n
 ·refine .inr ⟨hlt,?_⟩;rintro x H3 ⟨rfl,rfl⟩;exact hs i ys σ _ hlt hp
 ·have e:i=n:=by lia
  subst e;exact .inl ⟨Nat.le_refl _,hd ys σ H hp⟩
end L2
namespace Fg
open PySem L2 FgM
namespace Pa
end Pa
theorem ZgH{z:Str}(h:ZlY z)(h8:z.length<=8):ZcW z=true:=by
 have h1:1<=z.length:=by
  have:0<z.cps.toList.length:=List.length_pos_iff.mpr h.1;rw[Array.length_toList] at this;exact this
 unfold ZcW;rw[decide_eq_true h1,decide_eq_true h8,Bool.true_and,Bool.true_and,List.all_eq_true];intro c hc;have:=h.2 c hc;unfold azB;simp;lia
end Fg
namespace L2
open PySem PySem.Spec PyProof.Rows PySem.W
structure XNot(K:Frag)(C D:Addr):Prop where
 ca:findIn K (.ref C) "__class__" = some (some (.builtin "object.__class__"))
 gt:specialIn K (.builtin "object.__class__") "__get__" = some (some (.builtin "getset_descriptor.__get__"))
 tk:takesIn K (.builtin "object.__class__")=some true
 ob:mroIn K C (.type "object")=some true
 ty:typeIn K (.ref D)=some (.type "type")
section
variable{prog:Program}{w:World}{A:Around}{E:Value->Shared->Prop}{s:Shared}{K:Frag}{x C D:Addr}{ox od:Obj}{f:Str}
theorem Zk7{Q:Option Value->Shared->Prop}(X:K.In s.heap)(I:InstAt s.heap x ox C (some od))(Y:XFld K C f)(N:XNot K C D)(h:Q (some (.ref C)) { s with toks:=s.toks+1 }):wpAny (model prog w) A (getAttr? (.ref x) "__class__") Q E s:=by
 have hf:findObj K C (some od) "__class__" = some (.bind (.builtin "getset_descriptor.__get__") (.builtin "object.__class__")):=findObj_data (by obtain⟨cd,hc,_⟩:=any_some Y.hd;rw[hc];rfl) N.ca N.gt N.tk;obtain⟨hp,g,d,t,os⟩:=s;have L0:=I.type (M:=model prog w);have L1:=looks_findIn (M:=model prog w) X Y.ga;have L2:=looks_find (M:=model prog w) X I hf;have L3:Looks (model prog w) hp (hookBefore (.ref C)) none:=looks_hook X ((if_pos (show onTheHeap (Value.ref C)=true from rfl)).trans Y.gt);have L4:Looks (model prog w) hp (isInstance (.ref x) (.type "BaseException")) true:=L0.andThen (looks_mroIn X Y.mb);have F0:=F.excAttr_ValueError;unfold getAttr? getAttrBy? getAttrBy;refine wpAny_bind (wpAny_mkText (wpAny_bind (wpAny_attempt (wpAny_holding (wpAny_bind (L0.at (wpAny_bind (L1.at ?_))))))));have hne:(onTheHeap (Value.ref C)&&Value.builtin "BaseException.__getattribute__" == Value.builtin "object.__getattribute__")=false:=by
  rw[show(Value.builtin "BaseException.__getattribute__" == Value.builtin "object.__getattribute__")=false by decide +kernel,Bool.and_false]
 dsimp only;rw[hne,if_neg Bool.false_ne_true];unfold getAttrByItsOwn;refine wpAny_bind (L3.at (wpAny_bind (wpAny_attempt (wpAny_holding ?_))));unfold callGetattribute boundAndCalled;rw[show(false&&onTheHeap (Value.builtin "BaseException.__getattribute__"))=false from rfl,if_neg Bool.false_ne_true,F0.ga.bind];refine wpAny_bind (wpAny_pure ?_);show wpAny _ _ (call (.builtin "BaseException.__getattribute__") [.ref x,.str "__class__" t]) _ _ _;refine wpAny_call (codeAny_call_builtin F0.ga.plain F.entry_bexc_ga ?_);refine @check_slot (model prog w) _ _ ⟨hp,g,d,t+1,os⟩ "BaseException.__getattribute__" "BaseException" "__getattribute__" (.ref x) [.str "__class__" t] [] _ (by decide +kernel) (by decide +kernel) L4 (Zf3 _ _) ?_;show wpAny _ _ (Builtin.«object.__getattribute__» _) _ _ _;unfold Builtin.«object.__getattribute__»;refine wpAny_bind (wpAny_pure (wpAny_bind (wpAny_pure (wpAny_bind (L0.at (wpAny_bind (L2.at ?_)))))));refine wpAny_bind (wpAny_holding (wpAny_call (class_get (s:=⟨hp,g,d,t+1,os⟩) (ox:=ox) (od:=some od) X I N.ob (wpAny_pure ?_))));show wpAny _ _ (handedOut (.ref C)) _ _ _;rw[handedOut_of rfl];exact wpAny_pure (wpAny_pure h)
theorem Zhv{c:Value}{Q:Value->Shared->Prop}(X:K.In s.heap)(I:InstAt s.heap x ox C (some od))(Y:XFld K C f)(N:XNot K C D)(hne:(Value.ref C == c)=false)(e:kitCls K (.ref C) c=some false)
  (h:Q (.bool false) { s with toks:=s.toks+1 }):wpAny (model prog w) A (call (.builtin "isinstance") [.ref x,c]) Q E s:=by
 obtain⟨cdD,hcD,_⟩:=any_some Y.hd;refine call_isinstance (S:=fun _ R s=>(K.In s.heap/\InstAt s.heap x ox C (some od))/\R (.ok (.ret (.bool false))) { s with toks:=s.toks+1 }) (fun prog w A R s hs=>isinstance_outer ?_ (fun z=>nomatch z)) ⟨⟨X,I⟩,h⟩
 obtain⟨⟨X,I⟩,hq⟩:=hs;have hisD:Looks (model prog w) s.heap (isType (.ref C)) true:=by
  unfold clsIn at hcD
  split at hcD
  ·rename_i c' d' cd' sl' ho
   intro A' Q' E' s' k q;unfold isType loadHead;exact wpAny_bind (wpAny_loadPart (k _ _ (X _ _ ho)) (wpAny_pure q))
  ·cases hcD
 obtain⟨h0,g,d,tt,os⟩:=s;have L0:=I.type (M:=model prog w);unfold Builtin.«isinstance.nested»;refine wpAny_bind (L0.at ?_);rw[if_neg (by rw[hne];decide)];obtain⟨hty,his,hsub⟩:=kit_cls (M:=model prog w) X e;refine wpAny_bind (hty.at ?_);rw[if_pos (by decide)]
 k_delta "plainIsInstance"
 refine wpAny_bind (wpAny_bind (his.at ?_));simp only[Bool.not_true,Bool.false_eq_true,if_false];refine wpAny_bind ((L0.andThen hsub).at ?_);simp only[Bool.false_eq_true,if_false];refine wpAny_bind (Zk7 X I Y N ?_);refine wpAny_bind (hisD.at ?_);simp only[Bool.not_true,Bool.false_eq_true,if_false];refine wpAny_bind (wpAny_rule ?_);refine hsub.at ?_
 first
  | exact wpAny_pure hq
  | exact wpAny_pure (wpAny_pure hq)
  | exact wpAny_bind (wpAny_pure (wpAny_pure hq))
theorem Zi0{Q:Value->Shared->Prop}(ty:∀M,Looks M s.heap (typeOf (.ref x)) (.ref C))(h:Q (.bool true) s):wpAny (model prog w) A (call (.builtin "isinstance") [.ref x,.ref C]) Q E s:=by
 refine call_isinstance (S:=fun _ R s=>(∀M,Looks M s.heap (typeOf (.ref x)) (.ref C))/\R (.ok (.ret (.bool true))) s) (fun prog w A R s hs=>isinstance_outer ?_ (fun z=>nomatch z)) ⟨ty,h⟩
 obtain⟨LT,hq⟩:=hs;obtain⟨h0,g,d,tt,os⟩:=s;unfold Builtin.«isinstance.nested»;refine wpAny_bind ((LT _).at ?_);rw[if_pos (beq_self_eq_true _)]
 first
  | exact wpAny_bind (wpAny_rule (wpAny_pure hq))
  | exact wpAny_bind (wpAny_rule hq)
  | ((repeat lk);exact hq)
end
section
variable{X:Cx}
theorem ZgJ{K:Frag}(hK:X.K=K):Zby X (.builtin "isinstance") (fun xs H Q=>∃a oe C D b,xs=[.ref a,.ref D]/\H a=some (Known a oe)/\oe.cls=.ref C /\
    ((C=D/\b=true)\/(C≠D/\isClsIn K D=true/\typeIn K (.ref D)=some (.type "type")/\mroIn K C (.ref D)=some true/\b=true) \/
     (C≠D/\isClsIn K D=true/\mroIn K C (.ref D)=some false/\b=false/\∃dx fs f,oe.dict=some dx/\(∃vs,oe.data=.fields vs)/\H dx=some (.xd fs)/\XFld K C f/\XNot K C D))/\Q (.bl b) H):=by
  subst hK;intro pins s σ H xs us Q I r h;obtain⟨a,oe,C,D,b,rfl,hk,hc,h1,q⟩:=h;rcases h1 with⟨rfl,rfl⟩|⟨h1,h2,h3,h4,rfl⟩|⟨h1,h2,h3,rfl,dx,fs,f,hd,⟨vs,hf⟩,hx,Y,N⟩
  · obtain⟨u,v,rfl,rx,ry⟩:=Vals.two r;obtain rfl:u=Value.ref a:=rx;obtain rfl:v=Value.ref C:=ry;have ho:s.heap.get? a=some oe:=(I.hok a _ hk).1;exact Zi0 (fun M=>hc ▸ (Looks.ld ho).andThen .now) ⟨.bl true,H,I,rfl,q⟩
  · exact Zeu pins s σ H _ us Q I r ⟨a,oe,C,D,rfl,hk,hc,h1,h2,h3,h4,q⟩
  · obtain⟨u,v,rfl,rx,ry⟩:=Vals.two r;obtain rfl:u=Value.ref a:=rx;obtain rfl:v=Value.ref D:=ry;have ho:s.heap.get? a=some oe:=(I.hok a _ hk).1;obtain⟨mA,n,hr⟩:=(show ZaJ X.prog X.w H s.heap dx (.xd fs) from I.hok dx _ hx);obtain⟨od,hod,hlk⟩:=ZgU n;have J:InstAt s.heap a oe C (some od):=⟨ho,hc,by unfold notCls;rw[hf],by rw[hd];exact hod⟩;refine Zhv I.kIn J Y N (by simpa using h1) ?_ ⟨.bl false,H,I.tok _,rfl,q⟩;unfold kitCls;dsimp only;unfold isClsIn at h2;rw[h2,N.ty,if_pos (by decide)];exact h3
end
end L2
namespace L2
open PySem PySem.Spec PyProof.Rows
def Zmr(tv:TE):TE:=fun σ H Q=>tv σ H fun v H1=>∃z,v=.str z/\(reprText z).length<=sizeLine/\Q (.str (reprText z)) H1
section
variable{X:Cx}{e:Expr}{te:TE}{pos:Pos}
theorem Zk0(he:PE X e te):PE X (.FormattedValue e 114 none pos) (Zmr te):=by
 intro pins s σ H Q I h;refine wpAny_FormattedValue_repr (thn (he pins s σ H _ I h) fun u s1 ⟨v,H1,I1,r,z,ev,hz,q⟩=>?_);subst ev;obtain⟨tk,rfl⟩:=r;refine pyReprObj_str ?_ hz;exact formatField_str (fun t' tk=>⟨.str (reprText z),H1,(I1.tok _).tok _,⟨_,rfl⟩,q⟩) hz
end
end L2
namespace L2
open PySem PySem.Spec PyProof.Rows PySem.W
section
variable{prog:Program}{w:World}{A:Around}{E:Value->Shared->Prop}{s:Shared}{K:Frag}{x C D:Addr}{ox:Obj}{f:Str}
theorem Zd3{a g:Value}{name:Str}(hc:(clsIn K C).isSome=true)(ha:findIn K (.ref C) name=some (some a))(hg:specialIn K a "__get__" = some (some g)) (ht:takesIn K a=some true):findObj K C none name=some (.bind g a):=by
 obtain⟨cd,hc⟩:=Option.isSome_iff_exists.mp hc;unfold findObj;rw[hc,Option.bind_some,ha,Option.bind_some];simp[hg,ht]
theorem ZjY{Q:Option Value->Shared->Prop}(X:K.In s.heap)(I:InstAt s.heap x ox C none)(Y:XFld K C f)(N:XNot K C D)(h:Q (some (.ref C)) { s with toks:=s.toks+1 }):wpAny (model prog w) A (getAttr? (.ref x) "__class__") Q E s:=by
 have hf:findObj K C none "__class__" = some (.bind (.builtin "getset_descriptor.__get__") (.builtin "object.__class__")):=Zd3 (by obtain⟨cd,hc,_⟩:=any_some Y.hd;rw[hc];rfl) N.ca N.gt N.tk;obtain⟨hp,g,d,t,os⟩:=s;have L0:=I.type (M:=model prog w);have L1:=looks_findIn (M:=model prog w) X Y.ga;have L2:=looks_find (M:=model prog w) X I hf;have L3:Looks (model prog w) hp (hookBefore (.ref C)) none:=looks_hook X ((if_pos (show onTheHeap (Value.ref C)=true from rfl)).trans Y.gt);have L4:Looks (model prog w) hp (isInstance (.ref x) (.type "BaseException")) true:=L0.andThen (looks_mroIn X Y.mb);have F0:=F.excAttr_ValueError;unfold getAttr? getAttrBy? getAttrBy;refine wpAny_bind (wpAny_mkText (wpAny_bind (wpAny_attempt (wpAny_holding (wpAny_bind (L0.at (wpAny_bind (L1.at ?_))))))));have hne:(onTheHeap (Value.ref C)&&Value.builtin "BaseException.__getattribute__" == Value.builtin "object.__getattribute__")=false:=by
  rw[show(Value.builtin "BaseException.__getattribute__" == Value.builtin "object.__getattribute__")=false by decide +kernel,Bool.and_false]
 dsimp only;rw[hne,if_neg Bool.false_ne_true];unfold getAttrByItsOwn;refine wpAny_bind (L3.at (wpAny_bind (wpAny_attempt (wpAny_holding ?_))));unfold callGetattribute boundAndCalled;rw[show(false&&onTheHeap (Value.builtin "BaseException.__getattribute__"))=false from rfl,if_neg Bool.false_ne_true,F0.ga.bind];refine wpAny_bind (wpAny_pure ?_);show wpAny _ _ (call (.builtin "BaseException.__getattribute__") [.ref x,.str "__class__" t]) _ _ _;refine wpAny_call (codeAny_call_builtin F0.ga.plain F.entry_bexc_ga ?_);refine @check_slot (model prog w) _ _ ⟨hp,g,d,t+1,os⟩ "BaseException.__getattribute__" "BaseException" "__getattribute__" (.ref x) [.str "__class__" t] [] _ (by decide +kernel) (by decide +kernel) L4 (Zf3 _ _) ?_;show wpAny _ _ (Builtin.«object.__getattribute__» _) _ _ _;unfold Builtin.«object.__getattribute__»;refine wpAny_bind (wpAny_pure (wpAny_bind (wpAny_pure (wpAny_bind (L0.at (wpAny_bind (L2.at ?_)))))));refine wpAny_bind (wpAny_holding (wpAny_call (class_get (s:=⟨hp,g,d,t+1,os⟩) (ox:=ox) (od:=none) X I N.ob (wpAny_pure ?_))));show wpAny _ _ (handedOut (.ref C)) _ _ _;rw[handedOut_of rfl];exact wpAny_pure (wpAny_pure h)
theorem Zgi{c:Value}{Q:Value->Shared->Prop}(X:K.In s.heap)(I:InstAt s.heap x ox C none)(Y:XFld K C f)(N:XNot K C D)(hne:(Value.ref C == c)=false)(e:kitCls K (.ref C) c=some false)
  (h:Q (.bool false) { s with toks:=s.toks+1 }):wpAny (model prog w) A (call (.builtin "isinstance") [.ref x,c]) Q E s:=by
 obtain⟨cdD,hcD,_⟩:=any_some Y.hd;refine call_isinstance (S:=fun _ R s=>(K.In s.heap/\InstAt s.heap x ox C none)/\R (.ok (.ret (.bool false))) { s with toks:=s.toks+1 }) (fun prog w A R s hs=>isinstance_outer ?_ (fun z=>nomatch z)) ⟨⟨X,I⟩,h⟩
 obtain⟨⟨X,I⟩,hq⟩:=hs;have hisD:Looks (model prog w) s.heap (isType (.ref C)) true:=by
  unfold clsIn at hcD
  split at hcD
  ·rename_i c' d' cd' sl' ho
   intro A' Q' E' s' k q;unfold isType loadHead;exact wpAny_bind (wpAny_loadPart (k _ _ (X _ _ ho)) (wpAny_pure q))
  ·cases hcD
 obtain⟨h0,g,d,tt,os⟩:=s;have L0:=I.type (M:=model prog w);unfold Builtin.«isinstance.nested»;refine wpAny_bind (L0.at ?_);rw[if_neg (by rw[hne];decide)];obtain⟨hty,his,hsub⟩:=kit_cls (M:=model prog w) X e;refine wpAny_bind (hty.at ?_);rw[if_pos (by decide)]
 k_delta "plainIsInstance"
 refine wpAny_bind (wpAny_bind (his.at ?_));simp only[Bool.not_true,Bool.false_eq_true,if_false];refine wpAny_bind ((L0.andThen hsub).at ?_);simp only[Bool.false_eq_true,if_false];refine wpAny_bind (ZjY X I Y N ?_);refine wpAny_bind (hisD.at ?_);simp only[Bool.not_true,Bool.false_eq_true,if_false];refine wpAny_bind (wpAny_rule ?_);refine hsub.at ?_
 first
  | exact wpAny_pure hq
  | exact wpAny_pure (wpAny_pure hq)
  | exact wpAny_bind (wpAny_pure (wpAny_pure hq))
end
section
variable{X:Cx}
theorem Zcn{K:Frag}(hK:X.K=K):Zby X (.builtin "isinstance") (fun xs H Q=>∃a oe C D b,xs=[.ref a,.ref D]/\H a=some (Known a oe)/\oe.cls=.ref C /\
    ((C=D/\b=true)\/(C≠D/\isClsIn K D=true/\typeIn K (.ref D)=some (.type "type")/\mroIn K C (.ref D)=some true/\b=true) \/
     (C≠D/\isClsIn K D=true/\mroIn K C (.ref D)=some false/\b=false/\∃f,oe.dict=none/\(∃vs,oe.data=.fields vs)/\XFld K C f/\XNot K C D))/\Q (.bl b) H):=by
  subst hK;intro pins s σ H xs us Q I r h;obtain⟨a,oe,C,D,b,rfl,hk,hc,h1,q⟩:=h;rcases h1 with⟨rfl,rfl⟩|⟨h1,h2,h3,h4,rfl⟩|⟨h1,h2,h3,rfl,f,hd,⟨vs,hf⟩,Y,N⟩
  · exact ZgJ rfl pins s σ H _ us Q I r ⟨a,oe,C,C,true,rfl,hk,hc,.inl ⟨rfl,rfl⟩,q⟩
  · exact Zeu pins s σ H _ us Q I r ⟨a,oe,C,D,rfl,hk,hc,h1,h2,h3,h4,q⟩
  · obtain⟨u,v,rfl,rx,ry⟩:=Vals.two r;obtain rfl:u=Value.ref a:=rx;obtain rfl:v=Value.ref D:=ry;have ho:s.heap.get? a=some oe:=(I.hok a _ hk).1;have J:InstAt s.heap a oe C none:=⟨ho,hc,by unfold notCls;rw[hf],by rw[hd];trivial⟩;refine Zgi I.kIn J Y N (by simpa using h1) ?_ ⟨.bl false,H,I.tok _,rfl,q⟩;unfold kitCls;dsimp only;unfold isClsIn at h2;rw[h2,N.ty,if_pos (by decide)];exact h3
theorem ZhJ(bs:List Bool):(bs.map V.bl).all Zdm=true:=by
 rw[List.all_eq_true];intro y hy;obtain⟨z,_,rfl⟩:=List.mem_map.mp hy;rfl
theorem Zfx:∀{bs:List Bool}{us:List Value},Vals (bs.map V.bl) us->us=bs.map Value.bool
 | [],_,.nil=>rfl
 | b::bs,_::us,.cons r t=>by
  cases r;rw[Zfx t];rfl
theorem Zi2(b:Bool):eqU (.bl true) (.bool b)=b:=by cases b <;> rfl
theorem Zhy{K:PySem.W.Frag}(hK:X.K=K):MtM X "list.count" (fun x vs H Q=>∃(p:Addr)(bs:List Bool),x=.ref p/\vs=[.bl true]/\SqL K H p (bs.map V.bl)/\Q (.int ((bs.countP id:Nat):Int)) H):=by
 subst hK;intro pins s σ H x vs v us Q I rx rv h;obtain⟨p,bs,rfl,rfl,hq,h⟩:=h;cases rx;obtain⟨u,rfl,ru⟩:=rv.one;obtain⟨its,r,pl,hz⟩:=I.list hq;obtain⟨⟨cls,dd,data,sl⟩,m,ho,hc,hdd,hd⟩:=pl;simp only at hc hdd hd;subst hc hdd hd;have e:its.toArray.toList.countP (eqU (.bl true))=bs.countP id:=by
  rw[Zfx r,List.countP_map]
  congr 1
  funext b
  exact Zi2 b
 refine call_meets PySem.F.slot_list_count ⟨_,ho,rfl⟩ PySem.F.entry_list_count (PySem.F.args_list_count_2 _ _) (PySem.SeqAt.list_countAt p its.toArray m none sl u (eqU (.bl true))) ⟨ho,fun y hy=>ZbS ru rfl r (ZhJ bs) y (by simpa using hy),?_⟩;rw[e];exact⟨.int _,H,I.tok _,⟨_,rfl⟩,h⟩
theorem Zh2{K:PySem.W.Frag}(hK:X.K=K):MtM X "list.index" (fun x vs H Q=>∃(p:Addr)(bs:List Bool)(j:Nat),x=.ref p/\vs=[.bl true]/\SqL K H p (bs.map V.bl)/\bs[j]?= some true/\(∀m,m<j->bs[m]?= some false)/\j<1000/\Q (.int (j:Int)) H):=by
 subst hK;intro pins s σ H x vs v us Q I rx rv h;obtain⟨p,bs,j,rfl,rfl,hq,hj,hm,hs,h⟩:=h;cases rx;obtain⟨u,rfl,ru⟩:=rv.one;obtain⟨its,r,pl,hz⟩:=I.list hq;obtain⟨⟨cls,dd,data,sl⟩,m,ho,hc,hdd,hd⟩:=pl;simp only at hc hdd hd;subst hc hdd hd;have e:=Zfx r;obtain⟨hjl,hje⟩:=List.getElem?_eq_some_iff.mp hj;have at_:∀(i:Nat)(h1:i<its.length)(h2:i<bs.length),eqU (.bl true) its[i]=bs[i]:=fun i h1 h2=>by
  have:its[i]=Value.bool bs[i]:=by simp[e]
  rw[this];exact Zi2 _
 have hl:its.length=bs.length:=by rw[e,List.length_map]
 refine call_meets PySem.F.slot_list_index ⟨_,ho,rfl⟩ PySem.F.entry_list_index (PySem.F.args_list_index_2 _ _)
  (PySem.SeqAt.list_indexAt p its.toArray m none sl u (eqU (.bl true)) j (by rw[List.size_toArray];lia) (by lia) ?_ ?_) ⟨ho,fun y hy=>ZbS ru rfl r (ZhJ bs) y (by simpa using hy),⟨.int _,H,I.tok _,⟨_,rfl⟩,h⟩⟩
 ·show eqU (.bl true) its[j]=true;rw[at_ j (by lia) hjl,hje]
 ·intro i hi hlt;show eqU (.bl true) its[i]=false;obtain⟨h1,h2⟩:=List.getElem?_eq_some_iff.mp (hm i hlt);rw[at_ i (by lia) h1,h2]
end
end L2
namespace L2
open PySem PySem.Spec PyProof.Rows PySem.W Srd Sts Stg
section
variable{X:Cx}{e:Expr}{te:TE}{p p' pos pos':Pos}
def ZfO(K:PySem.W.Frag)(v:V)(H:Hp)(Q:VK):Prop :=
 ∃(l:Addr)(ns:List Str),v=.ref l/\SqL K H l (ns.map V.str)/\ns.length<=900/\∀ms:List Str,ms.Nodup->(∀q,q∈ms↔q∈ns)->Q (.int ((ms.length:Nat):Int)) H
set_option maxHeartbeats 1000000 in
theorem Zfb(hc:X.calm=true)(hu:X.A.units+200<cLine)(hg:Gl X "len") (hm:X.mg "len" = none) (hg':Gl X "set") (hm':X.mg "set" = none) (pa:PA X [e] (Zjt te ZlK))
  (hs:starEach [e] X.env=[(false,eval e X.env)]:=by rfl) (hs':starEach [.Call (.Name "set" p') [e] [] pos'] X.env=[(false,eval (.Call (.Name "set" p') [e] [] pos') X.env)]:=by rfl) :
  PE X (.Call (.Name "len" p) [.Call (.Name "set" p') [e] [] pos'] [] pos) (fun σ H Q=>te σ H fun v H1=>ZfO X.K v H1 Q):=by
 intro pins s σ H Q I h;refine wpAny_Call_Name_kw (ZbD I hg hm PySem.boot_len ?_);refine PyProof.Rows.callWith_builtin1 ?_ hs' rfl;rw[hs'];refine Calls.spliced_cons ?_;refine wpAny_Call_Name_kw (ZbD I hg' hm' Zi8 ?_);refine PyProof.Rows.callWith_type1 (thn (pa pos' pins s σ H (fun vs H1=>match vs with | [v]=>ZfO X.K v H1 Q|_=>False) I h) fun us s1 ⟨vs,H1,I1,r,q⟩=>?_) hs rfl
 match vs,r,q with
 | [v],r,q =>
  obtain⟨u,rfl,ru⟩:=r.one;obtain⟨l,ns,rfl,hq,hl9,q⟩:=q;cases ru;obtain⟨its,rv,pl,hz⟩:=I1.list hq;have hlen:=rv.length;rw[List.length_map] at hlen;refine Zdg (J:=JT X.prog X.w s1.heap s1.heap.objs.size ns) (I1.ok.hd hc) (by lia) pl.isList (fun B hB=>JT.goes rv (by rw[List.size_toArray];lia)) (fun h h1 h2=>JT.zero h1 h2) fun h2 tk hJ k2=>?_;refine Calls.spliced_nil ?_;have k2':∀b o,s1.heap.get? b=some o->h2.get? b=some o:=fun b o e=>k2 b o (Heap.lt_size e) e;obtain⟨⟨o,es,ep,t,ho,hx,hd,hE,hT,hsz,hled,hN,hnd,hmem⟩,hb⟩:=hJ;have hsz':es.size<=its.length:=by simpa using hsz
  refine call_len_set (s:={ s1 with heap:=h2,toks:=tk }) ho hx hd hT.fits (by lia) ?_;have hl:(es.toList.map fun e=>Zlc e.2).length=es.size:=by rw[List.length_map,Array.length_toList]
  refine⟨.int ((es.size:Nat):Int),H1,I1.kept (h':=h2) (t':=tk+1+1) fun b o e=>k2' b o e,⟨_,rfl⟩,?_⟩;rw[<- hl];refine q _ (List.pairwise_map.mpr hnd) fun i=>Iff.trans ?_ ((hmem i).trans ?_)
  ·constructor
   ·intro hi;obtain⟨e,he,rfl⟩:=List.mem_map.mp hi;exact⟨e,he,rfl⟩
   ·rintro⟨e,he,rfl⟩;exact List.mem_map.mpr ⟨e,he,rfl⟩
  ·constructor
   ·rintro⟨j,_,h2⟩;exact List.mem_of_getElem? h2
   ·intro hi;obtain⟨j,hj⟩:=List.mem_iff_getElem?.mp hi;exact⟨j,by have:=(List.getElem?_eq_some_iff.mp hj).1;simp;lia,hj⟩
end
end L2
namespace L2
open PySem PySem.Spec PyProof.Rows PySem.W
section
variable{X:Cx}
def Zlr(K:PySem.W.Frag):R2:=fun x y H Q=>ZkC K false x y H Q\/rEq x y H Q
def ZlA(K:PySem.W.Frag):R2:=fun x y H Q=>ZkC K true x y H Q\/rNe x y H Q
theorem Ze3(hu:X.A.units+200<cLine):OpR X (compareOp .Eq) (Zlr X.K):=by
 intro pins s σ H x y v u Q I rx ry h;rcases h with h|h
 ·exact ZkJ hu pins s σ H x y v u Q I rx ry h
 ·exact Zbi pins s σ H x y v u Q I rx ry h
theorem ZhK(hu:X.A.units+200<cLine):OpR X (compareOp .NotEq) (ZlA X.K):=by
 intro pins s σ H x y v u Q I rx ry h;rcases h with h|h
 ·exact Zkk hu pins s σ H x y v u Q I rx ry h
 ·exact Zki pins s σ H x y v u Q I rx ry h
end
end L2
namespace K47
open PySem L2 FgM Fg
def top(i:Nat):Stmt:=PySem.Challenge.pw_formgrove_k47_forms_too_great.main.body.getD i (.Pass ⟨0,0,0,0⟩)
abbrev Zbv:Stmt:=top 7
abbrev Zaw:Stmt:=top 11
abbrev ZdG:Stmt:=top 13
abbrev Zbt:Stmt:=top 14
abbrev Zao:Stmt:=top 15
abbrev Zaa:Stmt:=top 16
abbrev Zdt:Stmt:=top 17
abbrev Zav:Stmt:=top 18
abbrev s_again:Stmt:=top 19
abbrev Zbw:Stmt:=top 20
abbrev Z6:Stmt:=top 21
abbrev Zbx:Stmt:=top 22
abbrev Zbq:Stmt:=top 23
abbrev ZaB:Stmt:=top 24
abbrev Zaz:Stmt:=top 25
abbrev Zbu:Stmt:=top 27
abbrev Zce:Stmt:=top 28
abbrev Zbp:Stmt:=top 29
abbrev Za3:Stmt:=top 30
abbrev Zau:Stmt:=top 31
abbrev Zco:Stmt:=top 32
abbrev Zo:Stmt:=top 33
abbrev Zn:Stmt:=top 34
abbrev Zq:Stmt:=top 35
abbrev Zj:Stmt:=top 36
abbrev ZS:Stmt:=top 37
abbrev ZaY:Stmt:=top 38
theorem Zhg:FnScope ["text"] ["text"] (Zh Zbv):=⟨rfl,rfl,rfl,by decide +kernel,rfl,by decide +kernel,by decide +kernel⟩
theorem ZbC:FnScope ["many","starts","ends","rules","unlike"] ["many","starts","ends","rules"] (Zh Zaw):=⟨rfl,rfl,rfl,by decide +kernel,rfl,by decide +kernel,by decide +kernel⟩
theorem Zel:FnScope ["one","other","many","starts","ends"] ["one","other"] (Zh ZdG):=⟨rfl,rfl,rfl,by decide +kernel,rfl,by decide +kernel,by decide +kernel⟩
theorem Zh6:FnScope ["kinds","by"] ["kinds","by"] (Zh Zbt):=⟨rfl,rfl,rfl,by decide +kernel,rfl,by decide +kernel,by decide +kernel⟩
theorem Zdb:FnScope ["rules","by","inner_by"] ["rules","by","inner_by"] (Zh Zao):=⟨rfl,rfl,rfl,by decide +kernel,rfl,by decide +kernel,by decide +kernel⟩
theorem ZcF:FnScope ["form"] ["form"] (Zh Zaa):=⟨rfl,rfl,rfl,by decide +kernel,rfl,by decide +kernel,by decide +kernel⟩
theorem Zbm:FnScope ["one","other","many","ends","rules","end","tag","inner","rest"] ["one","other"] (Zh Zdt):=⟨rfl,rfl,rfl,by decide +kernel,rfl,by decide +kernel,by decide +kernel⟩
theorem Zds:FnScope ["one"] ["one"] (Zh Zav):=⟨rfl,rfl,rfl,by decide +kernel,rfl,by decide +kernel,by decide +kernel⟩
theorem ZbR:FnScope ["one","many","rules","kind","ends"] ["one"] (Zh s_again):=⟨rfl,rfl,rfl,by decide +kernel,rfl,by decide +kernel,by decide +kernel⟩
theorem ZcZ:FnScope ["tag","one","many","rules"] ["tag","one"] (Zh Zbw):=⟨rfl,rfl,rfl,by decide +kernel,rfl,by decide +kernel,by decide +kernel⟩
theorem Zcs:FnScope ["tag"] ["tag"] (Zh Z6):=⟨rfl,rfl,rfl,by decide +kernel,rfl,by decide +kernel,by decide +kernel⟩
theorem Zat:FnScope ["one","other","rules","kind","tag","inner","rest","mate","word","mate_inner","mate_rest","pairs"] ["one","other"] (Zh Zbx):=⟨rfl,rfl,rfl,by decide +kernel,rfl,by decide +kernel,by decide +kernel⟩
theorem Zip:FnScope ["kinds","mates","many"] ["kinds","mates","many"] (Zh Zbq):=⟨rfl,rfl,rfl,by decide +kernel,rfl,by decide +kernel,by decide +kernel⟩
theorem Za5:FnScope ["kinds","mates","many","found","kind"] ["kinds","mates","many"] (Zh ZaB):=⟨rfl,rfl,rfl,by decide +kernel,rfl,by decide +kernel,by decide +kernel⟩
theorem ZbV:FnScope ["tags","tag"] ["tags"] (Zh Zaz):=⟨rfl,rfl,rfl,by decide +kernel,rfl,by decide +kernel,by decide +kernel⟩
theorem Zhd:FnScope ["_law_script","_law_k"] ["_law_script","_law_k"] (Zh Zbu):=⟨rfl,rfl,rfl,by decide +kernel,rfl,by decide +kernel,by decide +kernel⟩
theorem ZaU:FnScope ["_law_seed","_law_v","_law_letters","_law_many","_law_word","_law_j","_law_sign","_law_at"] ["_law_seed","_law_v"] (Zh Zce):=⟨rfl,rfl,rfl,by decide +kernel,rfl,by decide +kernel,by decide +kernel⟩
theorem Zdk:FnScope ["_law_many","_law_cell_here","_law_heads","_law_tails"] ["_law_many","_law_cell_here"] (Zh Zbp):=⟨rfl,rfl,rfl,by decide +kernel,rfl,by decide +kernel,by decide +kernel⟩
theorem Zch:FnScope ["_law_many","_law_heads","_law_tails","_law_seed","_law_first","_law_count","_law_rules","_law_v"] ["_law_many","_law_heads","_law_tails","_law_seed","_law_first","_law_count"] (Zh Za3):=⟨rfl,rfl,rfl,by decide +kernel,rfl,by decide +kernel,by decide +kernel⟩
theorem Zan:FnScope ["_law_way","_law_one","_law_other","_law_tag_here","_law_found","_law_caught","e","_law_some"] ["_law_way","_law_one","_law_other","_law_tag_here"] (Zh Zau):=⟨rfl,rfl,rfl,by decide +kernel,rfl,by decide +kernel,by decide +kernel⟩
theorem Ziw:FnScope ["_law_many","_law_rules"] ["_law_many","_law_rules"] (Zh Zco):=⟨rfl,rfl,rfl,by decide +kernel,rfl,by decide +kernel,by decide +kernel⟩
theorem Zv:FnScope ["_law_script","_law_cell_here","_law_way","_law_near","_law_some","_law_m","_law_n","_law_one","_law_other","_law_many","_law_rules"] ["_law_script"] (Zh Zo):=⟨rfl,rfl,rfl,by decide +kernel,rfl,by decide +kernel,by decide +kernel⟩
theorem Zw:FnScope ["_law_script","_law_near","_law_some","_law_seed","_law_count","_law_one","_law_other","_law_tails","_law_behind","_law_led"] ["_law_script","_law_near"] (Zh Zn):=⟨rfl,rfl,rfl,by decide +kernel,rfl,by decide +kernel,by decide +kernel⟩
theorem ZF:FnScope ["_law_script","_law_near","_law_some","_law_seed","_law_tails","_law_count","_law_one","_law_led","_law_heads"] ["_law_script","_law_near"] (Zh Zq):=⟨rfl,rfl,rfl,by decide +kernel,rfl,by decide +kernel,by decide +kernel⟩
theorem Zu:FnScope ["_law_script","_law_near","_law_some","_law_seed","_law_a","_law_b","_law_word","_law_twins","_law_ones","_law_others","_law_one","_law_other"] ["_law_script","_law_near"] (Zh Zj):=⟨rfl,rfl,rfl,by decide +kernel,rfl,by decide +kernel,by decide +kernel⟩
theorem ZaH:FnScope ["_law_script","_law_tags","_law_cell_here","_law_bad","_law_at"] ["_law_script","_law_tags"] (Zh ZS):=⟨rfl,rfl,rfl,by decide +kernel,rfl,by decide +kernel,by decide +kernel⟩
theorem Zdh:FnScope ["_law_script","_law_cell_here","_law_near","_law_tags","_law_at"] ["_law_script"] (Zh ZaY):=⟨rfl,rfl,rfl,by decide +kernel,rfl,by decide +kernel,by decide +kernel⟩
structure XC(K:PySem.W.Frag)(mg:Str->Option Value)(X_GroveError X_BadForm X_TooMany X_TooBig:Addr):Prop where
 n_GroveError:mg "GroveError" = some (.ref X_GroveError)
 n_BadForm:mg "BadForm" = some (.ref X_BadForm)
 n_TooMany:mg "TooMany" = some (.ref X_TooMany)
 n_TooBig:mg "TooBig" = some (.ref X_TooBig)
 bas:XBas K X_GroveError
 isG:PySem.W.isClsIn K X_GroveError=true
 tyG:PySem.W.typeIn K (.ref X_GroveError)=some (.type "type")
 c_GroveError:XCl K X_GroveError
 c_BadForm:XCl K X_BadForm
 c_TooMany:XCl K X_TooMany
 c_TooBig:XCl K X_TooBig
 top_BadForm:XTop K X_BadForm X_GroveError
 ini_BadForm:PySem.W.findIn K (.ref X_BadForm) "__init__" = some (some (.builtin "ValueError.__init__"))
 f_BadForm_place:XFld K X_BadForm "place"
 mV_BadForm:PySem.W.mroIn K X_BadForm (.type "ValueError")=some true
 ne_BadForm:X_BadForm≠X_GroveError
 not_BadForm_TooMany:XNot K X_BadForm X_TooMany
 nn_BadForm_TooMany:X_BadForm≠X_TooMany
 not_BadForm_TooBig:XNot K X_BadForm X_TooBig
 nn_BadForm_TooBig:X_BadForm≠X_TooBig
 m_BadForm_GroveError:PySem.W.mroIn K X_BadForm (.ref X_GroveError)=some true
 m_BadForm_BadForm:PySem.W.mroIn K X_BadForm (.ref X_BadForm)=some true
 m_BadForm_TooMany:PySem.W.mroIn K X_BadForm (.ref X_TooMany)=some false
 m_BadForm_TooBig:PySem.W.mroIn K X_BadForm (.ref X_TooBig)=some false
 top_TooMany:XTop K X_TooMany X_GroveError
 ini_TooMany:PySem.W.findIn K (.ref X_TooMany) "__init__" = some (some (.builtin "ValueError.__init__"))
 f_TooMany_place:XFld K X_TooMany "place"
 mV_TooMany:PySem.W.mroIn K X_TooMany (.type "ValueError")=some true
 ne_TooMany:X_TooMany≠X_GroveError
 not_TooMany_BadForm:XNot K X_TooMany X_BadForm
 nn_TooMany_BadForm:X_TooMany≠X_BadForm
 not_TooMany_TooBig:XNot K X_TooMany X_TooBig
 nn_TooMany_TooBig:X_TooMany≠X_TooBig
 m_TooMany_GroveError:PySem.W.mroIn K X_TooMany (.ref X_GroveError)=some true
 m_TooMany_BadForm:PySem.W.mroIn K X_TooMany (.ref X_BadForm)=some false
 m_TooMany_TooMany:PySem.W.mroIn K X_TooMany (.ref X_TooMany)=some true
 m_TooMany_TooBig:PySem.W.mroIn K X_TooMany (.ref X_TooBig)=some false
abbrev Zca:List Str:=["ValueError","all","any","isinstance","len","list","max","min","range","set","sorted","tuple","zip"]
section
variable{P:Program}{w:World}{K:PySem.W.Frag}{mg:Str->Option Value}{base:Heap}{f:Addr}{fd:FuncData}{X_GroveError X_BadForm X_TooMany X_TooBig:Addr}
theorem ZgY(B:∀x∈Zca,mg x=none)(Cc:∃t:Tok,mg "LONGEST_TAG" = some (.int 8 t)) (F:Fun K "is_tag" "is_tag" Zbv f fd):FnOk P w K mg base CX0 1 f fd ["text"] Zfp:=by
 refine F.ok Zhg (fun vs H Q E h=>?_) (fun cdv A outer s H vs Q E hr h=>?_)
 ·obtain⟨z,rfl,_⟩:=h;rfl
 obtain⟨z,rfl,hz,q⟩:=h;obtain⟨t8,c_LONGEST_TAG⟩:=Cc;unfold ZcW at q;refine⟨_,(Zi (ZX (Zjg (ZiX Zkc Zkc Zb (ZV Ze1 rfl (B "len" (by decide)) PySem.boot_len (Za (pv 0) Zd)) (Zbg (v:=.int 8) rfl c_LONGEST_TAG ⟨_,rfl⟩)) (Zjj (ZV (ZiZ rfl) rfl (B "all" (by decide)) ZkS (Za (ZgB (pv 0) rfl (by decide) (by decide) rfl (by decide) rfl (by decide) (fun _=>rfl)) Zd)))))),?_⟩;refine⟨_,rfl,z,rfl,ZZ (by lia),_,_,rfl,rfl,_,rfl,?_⟩;refine Zdn (fun c=>?_) (fun c=>?_)
 ·have c1:1<=z.length:=by
   have:=of_decide_eq_true c;lia
  rw[decide_eq_true c1,Bool.true_and] at q;refine⟨_,_,rfl,rfl,_,rfl,?_⟩;refine Zdn (fun c=>?_) (fun c=>?_)
  ·have c2:z.length<=8:=by
    have:=of_decide_eq_true c;lia
   rw[decide_eq_true c2,Bool.true_and] at q;refine⟨_,rfl,z,rfl,ZZ (by lia),fun p hp=>⟨p,z.cps.toList.map azB,rfl,SqL.of ?_,?_⟩⟩
   ·rw[Zc,List.map_map];rfl
   ·have e:(z.cps.toList.map azB).all id=z.cps.toList.all azB:=by
     rw[List.all_map];rfl
    rw[e];exact q _ (Zk.new hp)
  ·have c2 : ¬ z.length<=8:=fun h=>c (decide_eq_true (by show((z.length:Nat):Int)<=8;lia));rw[decide_eq_false c2,Bool.false_and] at q;exact q H (Zk.refl H)
 ·have c1 : ¬ 1<=z.length:=fun h=>c (decide_eq_true (by show(1:Int)<=((z.length:Nat):Int);lia));rw[decide_eq_false c1,Bool.false_and,Bool.false_and] at q;exact⟨_,rfl,ZbF (q H (Zk.refl H))⟩
structure Ok47(f:FQ):Prop where
 n0:0<=f.n
 n8:f.n<=64
 hn:(f.hs.length:Int)<=f.n
 tn:(f.ts.length:Int)<=f.n
 hl:f.hs.length<=64
 tl:f.ts.length<=64
 ql:f.qs.length<=450
def ZhI(f g:FQ):List Int:=f.hs++g.hs.map (· + f.n)
def ZhL(f g:FQ):List Int:=f.ts++g.ts.map (· + f.n)
def Zc5(f g:FQ):List Srd.Qd:=f.qs++g.qs.map (upQ f.n f.n)
def Zkj(f:FQ):List Int:=f.ts ++ [f.n+1]
def Zfu(f:FQ)(t:Str):List Srd.Qd:=f.qs++f.hs.map fun s=>(f.n,t,s,f.n+1)
def evQ(ts:List Str):List Srd.Qd:=ts.map fun t=>(0,t,0,0)
def Zbk:Sp:=fun vs H Q _=>∃(a:Addr)(b i:Int)(zs:List V)(qs:List Srd.Qd),vs=[.ref a,.int b,.int i]/\H a=some (.tup zs)/\QL H zs qs/\qs.length<=900/\∀(r:Addr)(ys:List V)(H':Hp),Zk H H'->H r=none->H' r=some (.lst ys)->QL H' ys (qs.map (upQ b i))->Q (.ref r) H'
def Zb0:Sp:=fun vs H Q _=>∃(a:Addr)(f:FQ),vs=[.ref a]/\FmQ H a f/\Ok47 f/\∀(r:Addr)(ys:List V)(H':Hp),Zk H H'->H r=none->H' r=some (.lst ys)->TL H' ys (Zaf f)->Q (.ref r) H'
def Zd4:Sp:=fun vs H Q _=>∃(a:Addr)(f:FQ),vs=[.ref a]/\FmQ H a f/\Ok47 f/\∀(r:Addr)(ys:List V)(H':Hp),Zk H H'->H r=none->H' r=some (.lst ys)->QL H' ys (Zeo f)->Q (.ref r) H'
def rsX(C:Addr)(N:Int)(hs ts:List Int)(qs:List Srd.Qd)(H:Hp)(Q:VK)(E:XK):Prop :=
 (∀ms:List Srd.Qd,Zdp ms->(∀q,q∈ms↔q∈qs)->(64<N\/400<ms.length)->∀H',Zk H H'->E (.ref C) none H') /\
 (∀ms:List Srd.Qd,Zdp ms->(∀q,q∈ms↔q∈qs)->N<=64->ms.length<=400->∀(r:Addr)(h:FQ)(H':Hp),Zk H H'->FmQ H' r h->IsF N hs ts qs h->Q (.ref r) H')
def Zfo(C:Addr):Sp:=fun vs H Q E=>∃(a b:Addr)(f g:FQ),vs=[.ref a,.ref b]/\FmQ H a f/\FmQ H b g/\Ok47 f/\Ok47 g/\(Zc5 f g).length<=900/\rsX C (f.n+g.n) (ZhI f g) (ZhL f g) (Zc5 f g) H Q E
def Zfi(C:Addr):Sp:=fun vs H Q E=>∃(a b:Addr)(f g:FQ),vs=[.ref a,.ref b]/\FmQ H a f/\FmQ H b g/\Ok47 f/\Ok47 g/\(ZcH f g).length<=900/\rsX C (2*f.n+g.n) (f.hs.map (· + f.n)) (Zgl f g) (ZcH f g) H Q E
def ZdK(C:Addr):Sp:=fun vs H Q E=>∃(a:Addr)(f:FQ),vs=[.ref a]/\FmQ H a f/\Ok47 f/\(Zbo f).length<=900/\rsX C (2*f.n+1) [2*f.n] (Ze6 f) (Zbo f) H Q E
def Zj2(t:Str):Prop:=t.length<=1000/\∀c∈t.cps.toList,c<16 ^ 8
def Zem(D:Addr):Sp:=fun vs H Q E=>∃t:Str,vs=[.str t]/\Zj2 t/\(ZcW t=true->∀H',Zk H H'->Q .non H')/\(ZcW t=false->∀H',Zk H H'->E (.ref D) none H')
def Zdd(C D:Addr):Sp:=fun vs H Q E=>∃(t:Str)(a:Addr)(f:FQ),vs=[.str t,.ref a]/\Zj2 t/\FmQ H a f/\Ok47 f/\(Zfu f t).length<=900/\(ZcW t=false->∀H',Zk H H'->E (.ref D) none H')/\(ZcW t=true->rsX C (f.n+2) [f.n] (Zkj f) (Zfu f t) H Q E)
def ZdM(K:PySem.W.Frag)(C D:Addr):Sp:=fun vs H Q E=>∃(a:Addr)(ts:List Str),vs=[.ref a]/\SqL K H a (ts.map V.str)/\ts.length<=900/\(∀t∈ts,Zj2 t)/\((∃t∈ts,ZcW t=false)->∀H',Zk H H'->E (.ref D) none H')/\((∀t∈ts,ZcW t=true)->rsX C 1 [0] [0] (evQ ts) H Q E)
theorem Zkb{x:Int}(h:0<=x)(h':x<=4000000000):x.natAbs.log2<1900:=by
 by_cases c:x.natAbs=0
 ·rw[c]
  decide
 ·have h1:x.natAbs<2 ^ 1900:=Nat.lt_of_le_of_lt (show x.natAbs<=2 ^ 32 by lia) (Nat.pow_lt_pow_right (by decide) (by decide));exact(Nat.log2_lt c).mpr h1
theorem len_num{i:Int}(h:i.natAbs.log2<1900):(Str.ofString (toString i)).length<=1901:=by
 rw[PyProof.Rows.ofString_len];exact int_text_length_le (by decide) h
def Zbn(K:PySem.W.Frag)(C:Addr):Sp:=fun vs H Q E=>∃(n:Int)(s e r:Addr)(hs ts:List Int)(ys:List V)(qs:List Srd.Qd),vs=[.int n,.ref s,.ref e,.ref r]/\n.natAbs.log2<1900/\SqL K H s (hs.map V.int)/\hs.length<=900/\SqL K H e (ts.map V.int)/\ts.length<=900/\SqL K H r ys/\QL H ys qs/\qs.length<=900 /\
 (∀ms:List Srd.Qd,Zdp ms->(∀q,q∈ms↔q∈qs)->(64<n\/400<ms.length)->∀H',Zk H H'->E (.ref C) none H') /\
 (∀ms:List Srd.Qd,Zdp ms->(∀q,q∈ms↔q∈qs)->n<=64->ms.length<=400->∀(a:Addr)(f:FQ)(H':Hp),Zk H H'->FmQ H' a f->IsF n hs ts qs f->Q (.ref a) H')
def ZaT(n x y:Int):Int:=x*n+y
def ZcS(n:Int)(xs ys:List Int):List Int:=xs.flatMap fun x=>ys.map (ZaT n x)
def ZdW(n:Int)(a b:Srd.Qd):Srd.Qd:=(ZaT n a.1 b.1,a.2.1,ZaT n a.2.2.1 b.2.2.1,ZaT n a.2.2.2 b.2.2.2)
def Zay(n:Int)(xs ys:List Srd.Qd):List Srd.Qd:=xs.flatMap fun a=>(ys.filter fun b=>decide (a.2.1=b.2.1)).map (ZdW n a)
def Zdi(C:Addr):Sp:=fun vs H Q E=>∃(a b:Addr)(f g:FQ),vs=[.ref a,.ref b]/\FmQ H a f/\FmQ H b g/\Ok47 f/\Ok47 g/\(Zay g.n f.qs g.qs).length<=900/\f.qs.length*g.qs.length<=90000/\rsX C (f.n*g.n) (ZcS g.n f.hs g.hs) (ZcS g.n f.ts g.ts) (Zay g.n f.qs g.qs) H Q E
theorem Zff{f g:FQ}(x:Ok47 f)(y:Ok47 g):(Zgl f g).length<=900:=by
 have h2:=x.tl;have h3:=y.tl;unfold Zgl;rw[List.length_append,List.length_append,List.length_map]
 split
 ·rw[List.length_map];lia
 ·rw[List.length_nil];lia
theorem ZbO{f:FQ}(x:Ok47 f)(ks:List Int)(h:ks.length<=65):(Zeo f++ks.flatMap fun k=>(Zaf f).map (mkA f.n k)).length<=40000:=by
 have h1:=ZdT (F:=fun e=>(Zaf f).map (mkA f.n e)) (k:=450) (fun e=>by rw[List.length_map];exact Nat.le_trans (Zbr f) x.ql) ks;have h3:=x.ql;have h5:ks.length*450<=65*450:=Nat.mul_le_mul h (Nat.le_refl _);rw[List.length_append,Zd8];lia
theorem Ze8{f:FQ}(x:Ok47 f):(Za0 f).length<=65:=by
 have:=x.tl;unfold Za0;rw[List.length_cons,List.length_map];lia
def ZjX(q:Srd.Qd):List Srd.Qd->List Srd.Qd
 | []=>[q]
 | x::l=>if Srd.qLt q x=true then q::x::l else if q=x then x::l else x::ZjX q l
theorem ZdO(q z:Srd.Qd):∀l,z∈ZjX q l↔z=q\/z∈l
 | []=>by simp[ZjX]
 | x::l=>by
  unfold ZjX
  split
  ·rw[List.mem_cons]
  ·split
   ·rename_i h
    subst h;rw[List.mem_cons];exact⟨.inr,fun z=>z.elim .inl id⟩
   ·rw[List.mem_cons,ZdO q z l,List.mem_cons];exact⟨fun z=>z.elim (fun z=>.inr (.inl z)) fun z=>z.elim .inl fun z=>.inr (.inr z),fun z=>z.elim (fun z=>.inr (.inl z)) fun z=>z.elim .inl fun z=>.inr (.inr z)⟩
theorem Zew(q:Srd.Qd):∀l,Zdp l->Zdp (ZjX q l)
 | [],_=>List.pairwise_singleton ..
 | x::l,h=>by
  obtain⟨h1,h2⟩:=List.pairwise_cons.mp h;unfold ZjX
  split
  ·rename_i c
   refine List.pairwise_cons.mpr ⟨fun y hy=>?_,h⟩;rcases List.mem_cons.mp hy with rfl|hy
   ·exact c
   ·exact Srd.Zcp.trans _ _ _ c (h1 y hy)
  ·rename_i c
   split
   ·exact h
   ·rename_i n
    refine List.pairwise_cons.mpr ⟨fun y hy=>?_,Zew q l h2⟩;rcases(ZdO q y l).mp hy with rfl|hy
    ·cases e:Srd.qLt x y with
     | true=>rfl
     | false=>exact absurd (Srd.Zcp.tri y x (by simpa using c) e) n
    ·exact h1 y hy
theorem ZfU:∀qs:List Srd.Qd,∃ms:List Srd.Qd,Zdp ms/\∀q,q∈ms↔q∈qs
 | []=>⟨[],.nil,fun _=>Iff.rfl⟩
 | x::qs=>by
  obtain⟨ms,h1,h2⟩:=ZfU qs;exact⟨ZjX x ms,Zew x ms h1,fun q=>by rw[ZdO,List.mem_cons,h2]⟩
def Cn(qs:List Srd.Qd)(k:Nat):Prop := ∀ms:List Srd.Qd,Zdp ms->(∀q,q∈ms↔q∈qs)->ms.length=k
theorem Cn.nodup{qs:List Srd.Qd}(h:qs.Nodup):Cn qs qs.length:=fun ms h1 h2=>Nat.le_antisymm (ZaW (ZfC h1) fun x hx=>(h2 x).mp hx) (ZaW h fun x hx=>(h2 x).mpr hx)
theorem Cn.of{qs qs':List Srd.Qd}{k:Nat}(h:Cn qs k)(e:∀q,q∈qs'↔q∈qs):Cn qs' k:=fun ms h1 h2=>h ms h1 fun q=>(h2 q).trans (e q)
theorem Zgh{C:Addr}{N:Int}{hs ts:List Int}{qs:List Srd.Qd}{k:Nat}{H:Hp}{Q:VK}{E:XK}(hc:Cn qs k)(q1:(64<N\/400<k)->∀H',Zk H H'->E (.ref C) none H')(q2:N<=64->k<=400->∀(r:Addr)(h:FQ)(H':Hp),Zk H H'->FmQ H' r h->h.n=N->h.qs.length=k->Q (.ref r) H'):rsX C N hs ts qs H Q E :=
 ⟨fun ms h1 h2 h3=>q1 (by rw[<- hc ms h1 h2];exact h3),fun ms h1 h2 h3 h4 r h H' s hf hI=>q2 h3 (by rw[<- hc ms h1 h2];exact h4) r h H' s hf hI.n (hc h.qs hI.qs hI.qm)⟩
theorem ZdS:bootBuiltins "ValueError" = some (.type "ValueError"):=by decide +kernel
def Kp(H H':Hp):Prop := ∀b o,H b=some o->(∀x,o ≠ .ext x)->H' b=some o
theorem Kp.same{H H':Hp}(s:Zk H H'):Kp H H':=fun b o h _=>s b o h
theorem Kp.trans{H H1 H2:Hp}(a:Kp H H1)(b:Kp H1 H2):Kp H H2:=fun c o h n=>b c o (a c o h n) n
theorem Kp.ext{H H1:Hp}{e:Addr}{x:Heap->Prop}{o:HO}(a:Kp H H1)(h:H1 e=some (.ext x)):Kp H (upd H1 e o):=fun b u q n=>by
 have q1:=a b u q n;have:b≠e:=fun z=>by
  rw[z,h] at q1;exact n x (Option.some.inj q1).symm
 rw[ZR this];exact q1
theorem Kp.tk{H H':Hp}(k:Kp H H'):TK H H':=fun b xs e=>k b _ e fun _ z=>nomatch z
theorem Kp.seq{K:PySem.W.Frag}{H H':Hp}{a:Addr}{xs:List V}(k:Kp H H')(h:SqL K H a xs):SqL K H' a xs:=by
 rcases h with(h|⟨o,h⟩)|h
 ·exact .inl (.inl (k _ _ h fun _ z=>nomatch z))
 ·exact .inl (.inr ⟨o,k _ _ h fun _ z=>nomatch z⟩)
 ·exact .inr h
def Way(K:PySem.W.Frag)(H:Hp)(w:Int)(o1 o2:V)(t:Str)(bad:Bool)(N:Int)(k:Nat):Prop :=
 (w=0/\bad=false/\∃(a b:Addr)(f g:FQ),o1=.ref a/\o2=.ref b/\FmQ H a f/\FmQ H b g/\Ok47 f/\Ok47 g/\(Zc5 f g).length<=900/\N=f.n+g.n/\Cn (Zc5 f g) k) \/
 (w=1/\bad=false/\∃(a b:Addr)(f g:FQ),o1=.ref a/\o2=.ref b/\FmQ H a f/\FmQ H b g/\Ok47 f/\Ok47 g/\(ZcH f g).length<=900/\N=2*f.n+g.n/\Cn (ZcH f g) k) \/
 (w=2/\bad=false/\∃(a:Addr)(f:FQ),o1=.ref a/\FmQ H a f/\Ok47 f/\(Zbo f).length<=900/\N=2*f.n+1/\Cn (Zbo f) k) \/
 (w=3/\Zj2 t/\ZcW t= !bad/\∃(a:Addr)(f:FQ),o1=.ref a/\FmQ H a f/\Ok47 f/\(Zfu f t).length<=900/\N=f.n+2/\(bad=false->Cn (Zfu f t) k)) \/
 (w=4/\bad=false/\∃(a b:Addr)(f g:FQ),o1=.ref a/\o2=.ref b/\FmQ H a f/\FmQ H b g/\Ok47 f/\Ok47 g/\(Zay g.n f.qs g.qs).length<=900/\f.qs.length*g.qs.length<=90000/\N=f.n*g.n/\Cn (Zay g.n f.qs g.qs) k) \/
 (w=5/\∃(a:Addr)(ts:List Str),o2=.ref a/\SqL K H a (ts.map V.str)/\ts.length<=900/\(∀t∈ts,Zj2 t)/\(bad=true->∃t∈ts,ZcW t=false)/\(bad=false->(∀t∈ts,ZcW t=true)/\Cn (evQ ts) k)/\N=1)
def Zcw(K:PySem.W.Frag):Sp:=fun vs H Q _=>∃(w:Int)(o1 o2:V)(t:Str)(bad:Bool)(N:Int)(k:Nat),vs=[.int w,o1,o2,.str t]/\Way K H w o1 o2 t bad N k /\
 (bad=true->∀H',Kp H H'->Q (.str "bad") H')/\(bad=false->(64<N\/400<k)->∀H',Kp H H'->Q (.str "many") H')/\(bad=false->N<=64->k<=400->∀(r:Addr)(H':Hp),Kp H H'->H' r=some (.tup [.int N,.int (k:Int)])->Q (.ref r) H')
set_option maxHeartbeats 8000000 in
theorem Zg6(B:∀x∈Zca,mg x=none)(xc:XC K mg X_GroveError X_BadForm X_TooMany X_TooBig)(g_join:HasX P w K mg base "join" ["one","other"] 2 (Zfo X_TooMany)) (g_then:HasX P w K mg base "then" ["one","other"] 3 (Zfi X_TooMany)) (g_again:HasX P w K mg base "again" ["one"] 3 (ZdK X_TooMany)) (g_inside:HasX P w K mg base "inside" ["tag","one"] 3 (Zdd X_TooMany X_BadForm)) (g_common:HasX P w K mg base "common" ["one","other"] 2 (Zdi X_TooMany)) (g_everything:HasX P w K mg base "everything" ["tags"] 3 (ZdM K X_TooMany X_BadForm))
  (F:Fun K "_law_said" "_law_said" Zau f fd):FnOk P w K mg base CX0 4 f fd ["_law_way","_law_one","_law_other","_law_tag_here"] (Zcw K):=by
 refine F.ok Zan (fun vs H Q E h=>?_) (fun cdv A outer s H vs Q E hr h=>?_)
 ·obtain⟨w,o1,o2,t,bad,N,k,rfl,_⟩:=h;rfl
 obtain⟨w,o1,o2,t,bad,N,k,rfl,hw,q1,q2,q3⟩:=h;refine ZD ((Zf Zau).drop 6) (Zi (ZX (ZG ZaK (Zas (Za Zal (Za Zal (Za Zal Zd)))) (Ze2 PySem.F.plainAttrs_list PySem.F.slot_list_index PySem.F.type_list_index (Zh2 (K:=K) rfl) (pv 7) (Za ZdQ Zd)) (fun _ _=>rfl)))) (fun u6 h6 e6=>?_);refine ZD ((Zf Zau).drop 5) (Ze (ZaN (PW.pt (ZkZ (Z0 Zki (Ze2 PySem.F.plainAttrs_list PySem.F.slot_list_count PySem.F.type_list_count (Zhy (K:=K) rfl) (pv 7) (Za ZdQ Zd)) Zb (Z4 _)) (Zjc (ZdF (Za7 (ZV (Zgs (K:=K) rfl) rfl (B "isinstance" (by decide)) ZaM (Za (pv 5) (Za (Zlz rfl (B "ValueError" (by decide)) ZdS) Zd))) (fun _=>rfl))))))
   (Zi (ZX Zal))
   Zak) h6) (fun u5 h5 e5=>?_)
 refine ZD ((Zf Zau).drop 4) (Ze (Zm (i:=7) Zan.nd rfl (Or.inl rfl) (Zas (Za (ZV (Zcn (K:=K) rfl) rfl (B "isinstance" (by decide)) ZaM (Za (pv 5) (Za (Zbg (v:=.ref X_BadForm) rfl xc.n_BadForm rfl) Zd))) (Za (ZV (Zcn (K:=K) rfl) rfl (B "isinstance" (by decide)) ZaM (Za (pv 5) (Za (Zbg (v:=.ref X_TooMany) rfl xc.n_TooMany rfl) Zd))) (Za (ZV (Zcn (K:=K) rfl) rfl (B "isinstance" (by decide)) ZaM (Za (pv 5) (Za (Zbg (v:=.ref X_TooBig) rfl xc.n_TooBig rfl) Zd))) Zd))))) h5) (fun u4 h4 e4=>?_);refine ZD ((Zf Zau).drop 3) (Ze (ZaN (Z0 ZkE (pv 5) ZgR (Z4 _))
   (Zi (ZX (Zad (Za (ZG Zy (pv 4) Zb (fun _ _=>rfl)) (Za (ZV Zag rfl (B "len" (by decide)) PySem.boot_len (Za (ZG Zy (pv 4) Zb (fun _ _=>rfl)) Zd)) Zd)))))
   Zak) h4) (fun u3 h3 e3=>?_)
 refine ZD ((Zf Zau).drop 2) (Ze (Zk9 rfl rfl (fun E pins E₁ hT hp=>(Zi (ZaN (Z0 Zbi (pv 0) Zb (Z4 _))
     (Zi (Zm (i:=4) Zan.nd rfl (Or.inl rfl) (ZaC g_join hT hr rfl (Za (pv 1) (Za (pv 2) Zd)))))
     (Zi (ZaN (Z0 Zbi (pv 0) Zb (Z4 _))
       (Zi (Zm (i:=4) Zan.nd rfl (Or.inl rfl) (ZaC g_then hT hr rfl (Za (pv 1) (Za (pv 2) Zd)))))
       (Zi (ZaN (Z0 Zbi (pv 0) Zb (Z4 _))
         (Zi (Zm (i:=4) Zan.nd rfl (Or.inl rfl) (ZaC g_again hT hr rfl (Za (pv 1) Zd))))
         (Zi (ZaN (Z0 Zbi (pv 0) Zb (Z4 _))
           (Zi (Zm (i:=4) Zan.nd rfl (Or.inl rfl) (ZaC g_inside hT hr rfl (Za (pv 3) (Za (pv 1) Zd)))))
           (Zi (ZaN (Z0 Zbi (pv 0) Zb (Z4 _))
             (Zi (Zm (i:=4) Zan.nd rfl (Or.inl rfl) (ZaC g_common hT hr rfl (Za (pv 1) (Za (pv 2) Zd)))))
             (Zi (Zm (i:=4) Zan.nd rfl (Or.inl rfl) (ZaC g_everything hT hr rfl (Za (pv 2) Zd)))))))))))))))
   (Zlm (i:=6) (rest:=[]) (fun e=>(Zbg (v:=.ref X_GroveError) rfl xc.n_GroveError rfl)) Zan.nd rfl rfl (fun e=>(Zi (Zm (i:=5) Zan.nd rfl (Or.inl rfl) (pv 6)))))) h3) (fun u2 h2 e2=>?_)
 refine ZD ((Zf Zau).drop 1) (Ze (Zm (i:=5) Zan.nd rfl (Or.inl rfl) ZgR) h2) (fun u1 h1 e1=>?_);refine ZD ((Zf Zau).drop 0) (Ze (Zm (i:=4) Zan.nd rfl (Or.inl rfl) ZgR) h1) (fun u0 h0 e0=>?_);refine⟨u0,h0,?_⟩;refine Zz e0 ?_;show u1 _ _ _;refine Zz e1 ?_;show u2 _ _ _;refine Zz e2 ?_;have good:bad=false->N<=64->k<=400->∀(r:Addr)(h:FQ)(H':Hp),Zk H H'->FmQ H' r h->h.n=N->h.qs.length=k->u3 { nx:=fun _ H'=>Q .non H',rt:=Q } [some (.int w),some o1,some o2,some (.str t),some (.ref r),some .non,none,none] H':=fun hb hN hk r h H' sm hf en ek=>by
  obtain⟨h1',h2',h3',zs,a1,a2,a3,a4,a5⟩:=hf;refine Zz e3 ?_;refine⟨_,rfl,rfl,_,rfl,Zi3 ?_⟩;refine⟨_,rfl,r,_,0,_,rfl,rfl,SqT.of a1,rfl,_,rfl,r,_,3,_,rfl,rfl,SqT.of a1,rfl,h3',_,rfl,.inr (SqT.of a4),(by show(2:Nat)<=sizeLine;decide),fun p hp=>?_⟩;refine q3 hb hN hk p _ (Kp.same (sm.trans (Zk.new hp))) ?_;rw[Zc,en,a5.length,ek]
 refine⟨fun σ' C d' H'=>σ'=[some (.int w),some o1,some o2,some (.str t),some .non,some .non,none,none]/\d'=none/\Zk H H'/\((C=.ref X_BadForm/\bad=true)\/(C=.ref X_TooMany/\bad=false/\(64<N\/400<k))),?_,?_⟩
 ·rcases hw with⟨rfl,hb,a,b,fm,gm,rfl,rfl,hF,hG,okF,okG,hl,rfl,hc⟩|⟨rfl,hb,a,b,fm,gm,rfl,rfl,hF,hG,okF,okG,hl,rfl,hc⟩|⟨rfl,hb,a,fm,rfl,hF,okF,hl,rfl,hc⟩|⟨rfl,hsb,htb,a,fm,rfl,hF,okF,hl,rfl,hc⟩|⟨rfl,hb,a,b,fm,gm,rfl,rfl,hF,hG,okF,okG,hl,hm,rfl,hc⟩|⟨rfl,a,ts,rfl,hA,htl,hsb,hb1,hb2,rfl⟩
  ·refine⟨_,rfl,rfl,_,rfl,Zi3 ?_⟩;exact⟨_,rfl,_,rfl,a,b,fm,gm,rfl,hF,hG,okF,okG,hl,Zgh hc (fun z H' s'=>⟨rfl,rfl,s',.inr ⟨rfl,hb,z⟩⟩) fun h1 h2 r h H' s' hf en ek=>good hb h1 h2 r h H' s' hf en ek⟩
  ·refine⟨_,rfl,rfl,_,rfl,ZbF ⟨_,rfl,rfl,_,rfl,Zi3 ?_⟩⟩;exact⟨_,rfl,_,rfl,a,b,fm,gm,rfl,hF,hG,okF,okG,hl,Zgh hc (fun z H' s'=>⟨rfl,rfl,s',.inr ⟨rfl,hb,z⟩⟩) fun h1 h2 r h H' s' hf en ek=>good hb h1 h2 r h H' s' hf en ek⟩
  ·refine⟨_,rfl,rfl,_,rfl,ZbF ⟨_,rfl,rfl,_,rfl,ZbF ⟨_,rfl,rfl,_,rfl,Zi3 ?_⟩⟩⟩;exact⟨_,rfl,a,fm,rfl,hF,okF,hl,Zgh hc (fun z H' s'=>⟨rfl,rfl,s',.inr ⟨rfl,hb,z⟩⟩) fun h1 h2 r h H' s' hf en ek=>good hb h1 h2 r h H' s' hf en ek⟩
  ·refine⟨_,rfl,rfl,_,rfl,ZbF ⟨_,rfl,rfl,_,rfl,ZbF ⟨_,rfl,rfl,_,rfl,ZbF ⟨_,rfl,rfl,_,rfl,Zi3 ?_⟩⟩⟩⟩;refine⟨_,rfl,_,rfl,t,a,fm,rfl,hsb,hF,okF,hl,fun z H' s'=>⟨rfl,rfl,s',.inl ⟨rfl,?_⟩⟩,fun z=>?_⟩
   ·rw[htb] at z;cases bad with
    | true=>rfl
    | false=>cases z
   ·have hb:bad=false:=by
     rw[htb] at z;cases bad with
     | true=>cases z
     | false=>rfl
    exact Zgh (hc hb) (fun z H' s'=>⟨rfl,rfl,s',.inr ⟨rfl,hb,z⟩⟩) fun h1 h2 r h H' s' hf en ek=>good hb h1 h2 r h H' s' hf en ek
  ·refine⟨_,rfl,rfl,_,rfl,ZbF ⟨_,rfl,rfl,_,rfl,ZbF ⟨_,rfl,rfl,_,rfl,ZbF ⟨_,rfl,rfl,_,rfl,ZbF ⟨_,rfl,rfl,_,rfl,Zi3 ?_⟩⟩⟩⟩⟩;exact⟨_,rfl,_,rfl,a,b,fm,gm,rfl,hF,hG,okF,okG,hl,hm,Zgh hc (fun z H' s'=>⟨rfl,rfl,s',.inr ⟨rfl,hb,z⟩⟩) fun h1 h2 r h H' s' hf en ek=>good hb h1 h2 r h H' s' hf en ek⟩
  ·refine⟨_,rfl,rfl,_,rfl,ZbF ⟨_,rfl,rfl,_,rfl,ZbF ⟨_,rfl,rfl,_,rfl,ZbF ⟨_,rfl,rfl,_,rfl,ZbF ⟨_,rfl,rfl,_,rfl,ZbF ?_⟩⟩⟩⟩⟩;refine⟨_,rfl,a,ts,rfl,hA,htl,hsb,fun⟨t0,h0,z⟩ H' s'=>⟨rfl,rfl,s',.inl ⟨rfl,?_⟩⟩,fun z=>?_⟩
   ·cases e:bad with
    | true=>rfl
    | false =>
     have:=(hb2 e).1 t0 h0;rw[z] at this;cases this
   ·have hb:bad=false:=by
     cases e:bad with
     | false=>rfl
     | true =>
      obtain⟨t0,h0,y⟩:=hb1 e;rw[z t0 h0] at y;cases y
    exact Zgh (hb2 hb).2 (fun z H' s'=>⟨rfl,rfl,s',.inr ⟨rfl,hb,z⟩⟩) fun h1 h2 r h H' s' hf en ek=>good hb h1 h2 r h H' s' hf en ek
 ·rintro σ' C d' H' e oe ⟨rfl,rfl,sm,hC⟩ he hc hdd hf;have k0:Kp H (upd H' e (Known e oe)):=(Kp.same sm).ext he;have e3':(upd H' e (Known e oe)) e=some (Known e oe):=Zc;generalize upd H' e (Known e oe)=H1 at k0 e3';have body:∀(Cx:Addr)(b1 b2:Bool)(wd:Str),oe.cls=.ref Cx ->
    ((Cx=X_BadForm/\b1=true)\/(Cx≠X_BadForm/\PySem.W.isClsIn K X_BadForm=true/\PySem.W.mroIn K Cx (.ref X_BadForm)=some false/\b1=false/\XNot K Cx X_BadForm)) ->
    ((Cx=X_TooMany/\b2=true)\/(Cx≠X_TooMany/\PySem.W.isClsIn K X_TooMany=true/\PySem.W.mroIn K Cx (.ref X_TooMany)=some false/\b2=false/\XNot K Cx X_TooMany)) ->
    (Cx≠X_TooBig/\PySem.W.isClsIn K X_TooBig=true/\PySem.W.mroIn K Cx (.ref X_TooBig)=some false/\XNot K Cx X_TooBig) ->
    XFld K Cx "place" -> PySem.W.mroIn K Cx (.type "ValueError")=some true->b1= !b2->wd=(if b2=true then "many" else "bad")->(∀H',Kp H H'->Q (.str wd) H') ->
    u3 { nx:=fun _ H'=>Q .non H',rt:=Q } [some (.int w),some o1,some o2,some (.str t),some .non,some (.ref e),none,none] H1:=fun Cx b1 b2 wd hcx h1 h2 hN hf9 hV hbb hwd hq=>by
   have y1:(Cx=X_BadForm/\b1=true)\/(Cx≠X_BadForm/\PySem.W.isClsIn K X_BadForm=true/\PySem.W.typeIn K (.ref X_BadForm)=some (.type "type")/\PySem.W.mroIn K Cx (.ref X_BadForm)=some true/\b1=true)\/(Cx≠X_BadForm/\PySem.W.isClsIn K X_BadForm=true/\PySem.W.mroIn K Cx (.ref X_BadForm)=some false/\b1=false/\∃f',oe.dict=none/\(∃vs,oe.data=.fields vs)/\XFld K Cx f'/\XNot K Cx X_BadForm):=h1.elim .inl fun z=>.inr (.inr ⟨z.1,z.2.1,z.2.2.1,z.2.2.2.1,"place",hdd,hf,hf9,z.2.2.2.2⟩);have y2:(Cx=X_TooMany/\b2=true)\/(Cx≠X_TooMany/\PySem.W.isClsIn K X_TooMany=true/\PySem.W.typeIn K (.ref X_TooMany)=some (.type "type")/\PySem.W.mroIn K Cx (.ref X_TooMany)=some true/\b2=true)\/(Cx≠X_TooMany/\PySem.W.isClsIn K X_TooMany=true/\PySem.W.mroIn K Cx (.ref X_TooMany)=some false/\b2=false/\∃f',oe.dict=none/\(∃vs,oe.data=.fields vs)/\XFld K Cx f'/\XNot K Cx X_TooMany):=h2.elim .inl fun z=>.inr (.inr ⟨z.1,z.2.1,z.2.2.1,z.2.2.2.1,"place",hdd,hf,hf9,z.2.2.2.2⟩);refine Zz e3 ?_;refine⟨_,rfl,rfl,_,rfl,ZbF ?_⟩;show u4 _ _ _;refine Zz e4 ?_;refine⟨_,rfl,e,oe,Cx,X_BadForm,b1,rfl,e3',hcx,y1,?_⟩;refine⟨_,rfl,e,oe,Cx,X_TooMany,b2,rfl,e3',hcx,y2,?_⟩;refine⟨_,rfl,e,oe,Cx,X_TooBig,false,rfl,e3',hcx,.inr (.inr ⟨hN.1,hN.2.1,hN.2.2.1,rfl,"place",hdd,hf,hf9,hN.2.2.2⟩),(by show 3<=sizeLine;decide),fun p1 hp1=>?_⟩;have t1:=Zk.new (o:=.lst [.bl b1,.bl b2,.bl false]) hp1;have hp1':upd H1 p1 (.lst [.bl b1,.bl b2,.bl false]) p1=some (.lst [.bl b1,.bl b2,.bl false]):=Zc;have k1:=k0.trans (Kp.same t1);have e31:=t1 _ _ e3';generalize upd H1 p1 (.lst [.bl b1,.bl b2,.bl false])=H5 at k1 e31 hp1' ⊢;show u5 _ _ _;refine Zz e5 ?_;refine⟨_,rfl,.inl ⟨rfl,_,SqL.of hp1'⟩,p1,[b1,b2,false],rfl,rfl,SqL.of hp1',rfl,_,rfl,Zdn (fun c=>absurd c (by rw[hbb];cases b2 <;> decide)) fun _=>?_⟩
   refine⟨_,rfl,e,oe,Cx,"ValueError",rfl,e31,hcx,rfl,hV,true,rfl,ZbF ?_⟩;show u6 _ _ _;refine Zz e6 ?_;refine⟨(by show 3<=sizeLine;decide),fun pB hpB=>?_⟩;have tB:=Zk.new (o:=.lst [.str "bad",.str "many",.str "big"]) hpB;refine⟨_,rfl,.inl ⟨rfl,_,SqL.of (tB _ _ hp1')⟩,p1,[b1,b2,false],?_⟩;cases b2 with
   | true =>
    refine⟨1,rfl,rfl,SqL.of (tB _ _ hp1'),rfl,fun m hm=>?_,by decide,pB,_,1,_,rfl,rfl,SqL.of Zc,rfl,?_⟩
    ·obtain rfl:m=0:=by lia
     rw[hbb];rfl
    rw[hwd] at hq;exact hq _ (k1.trans (Kp.same tB))
   | false =>
    refine⟨0,rfl,rfl,SqL.of (tB _ _ hp1'),by rw[hbb];rfl,fun m hm=>absurd hm (Nat.not_lt_zero _),by decide,pB,_,0,_,rfl,rfl,SqL.of Zc,rfl,?_⟩;rw[hwd] at hq;exact hq _ (k1.trans (Kp.same tB))
  rcases hC with⟨rfl,hg⟩|⟨rfl,hg,hm⟩
  ·refine⟨[X_GroveError],X_BadForm,fun _=>true,.one xc.c_GroveError,hc,?_,rfl,e3',?_⟩
   ·intro D hD;obtain rfl:=List.mem_singleton.mp hD;exact xc.m_BadForm_GroveError
   refine⟨_,rfl,?_⟩;exact body X_BadForm true false "bad" hc (.inl ⟨rfl,rfl⟩) (.inr ⟨xc.nn_BadForm_TooMany,xc.c_TooMany.cl,xc.m_BadForm_TooMany,rfl,xc.not_BadForm_TooMany⟩) ⟨xc.nn_BadForm_TooBig,xc.c_TooBig.cl,xc.m_BadForm_TooBig,xc.not_BadForm_TooBig⟩ xc.f_BadForm_place xc.mV_BadForm rfl rfl (q1 hg)
  ·refine⟨[X_GroveError],X_TooMany,fun _=>true,.one xc.c_GroveError,hc,?_,rfl,e3',?_⟩
   ·intro D hD;obtain rfl:=List.mem_singleton.mp hD;exact xc.m_TooMany_GroveError
   refine⟨_,rfl,?_⟩;exact body X_TooMany false true "many" hc (.inr ⟨xc.nn_TooMany_BadForm,xc.c_BadForm.cl,xc.m_TooMany_BadForm,rfl,xc.not_TooMany_BadForm⟩) (.inl ⟨rfl,rfl⟩) ⟨xc.nn_TooMany_TooBig,xc.c_TooBig.cl,xc.m_TooMany_TooBig,xc.not_TooMany_TooBig⟩ xc.f_TooMany_place xc.mV_TooMany rfl rfl (q2 hg hm)
set_option maxHeartbeats 1000000 in
theorem Zdr(B:∀x∈Zca,mg x=none)(Cc1:∃t:Tok,mg "MOST_KINDS" = some (.int 64 t)) (Cc2:∃t:Tok,mg "MOST_RULES" = some (.int 400 t)) (xc:XC K mg X_GroveError X_BadForm X_TooMany X_TooBig) (F:Fun K "sorted_form" "sorted_form" Zaw f fd):FnOk P w K mg base (CXE P w) 1 f fd ["many","starts","ends","rules"] (Zbn K X_TooMany):=by
 refine F.okX ZbC (fun vs H Q E h=>?_) (fun cdv A outer s H vs Q E hr h=>?_)
 ·obtain⟨n,s0,e0,r0,hs,ts,ys,qs,rfl,_⟩:=h;rfl
 obtain⟨n,s0,e0,r0,hs,ts,ys,qs,rfl,hnb,hS,hsl,hT,htl,hR,hql,hqn,qe,q⟩:=h;obtain⟨t1,c_MOST_KINDS⟩:=Cc1;obtain⟨t2,c_MOST_RULES⟩:=Cc2;have hu:=ZbK hr;have hyl:=hql.length;have ln:=len_num hnb;refine⟨_,(Ze (Zm (i:=4) ZbC.nd rfl (Or.inl rfl) (Zbc rfl hu rfl (B "sorted" (by decide)) rfl (B "set" (by decide)) (Za (ZaQ (cl:=[]) ["kind","tag","inner","rest"] [] (Zcr (pv 3)) (fun _ _ _ _=>(ZcR (K:=K) (n:=4) rfl rfl (ZC (Zt (i:=0) (show List.Nodup (["kind","tag","inner","rest"]:List Str) by decide) rfl (Or.inl rfl)) (ZC (Zt (i:=1) (show List.Nodup (["kind","tag","inner","rest"]:List Str) by decide) rfl (Or.inl rfl)) (ZC (Zt (i:=2) (show List.Nodup (["kind","tag","inner","rest"]:List Str) by decide) rfl (Or.inl rfl)) (ZC (Zt (i:=3) (show List.Nodup (["kind","tag","inner","rest"]:List Str) by decide) rfl (Or.inl rfl)) Zbl)))))) (fun _ _ _ _=>(Zad (Za (pv 0) (Za (pv 1) (Za (pv 2) (Za (pv 3) Zd)))))) rfl rfl (by decide) rfl (by decide) (fun _ _ h=>nomatch h) (Zcy (by decide)) (fun _ _ h=>nomatch h) (fun _=>rfl)) Zd)))
  (Ze (ZaN (Z0 ZhZ (pv 0) (Zbg (v:=.int 64) rfl c_MOST_KINDS ⟨_,rfl⟩) (Z4 _))
   (Zi (Zb5 xc.top_TooMany xc.ini_TooMany xc.n_TooMany Zam hr rfl (Za (ZeH (Zda Zal (Zda (Zlx (pv 0)) (Zda Zal Zja)))) Zd)))
   Zak)
  (Ze (ZaN (Z0 ZhZ (ZV Zag rfl (B "len" (by decide)) PySem.boot_len (Za (pv 4) Zd)) (Zbg (v:=.int 400) rfl c_MOST_RULES ⟨_,rfl⟩) (Z4 _))
   (Zi (Zb5 xc.top_TooMany xc.ini_TooMany xc.n_TooMany Zam hr rfl (Za Zal Zd)))
   Zak)
  (Zi (ZX (Zad (Za (pv 0) (Za (ZL Z1 rfl (B "tuple" (by decide)) ZaG (Za (Zbc rfl hu rfl (B "sorted" (by decide)) rfl (B "set" (by decide)) (Za (pv 1) Zd)) Zd)) (Za (ZL Z1 rfl (B "tuple" (by decide)) ZaG (Za (Zbc rfl hu rfl (B "sorted" (by decide)) rfl (B "set" (by decide)) (Za (pv 2) Zd)) Zd)) (Za (ZL Z1 rfl (B "tuple" (by decide)) ZaG (Za (pv 4) Zd)) Zd)))))))))),?_⟩
 refine⟨_,rfl,r0,rfl,⟨ys,hR⟩,fun pl hpl=>Zc8 (K:=K) (a:=r0) (p:=pl) (xs:=ys) (fun i zs σ H2=>∃v0 v1 v2 v3:Option V,σ =[v0,v1,v2,v3]/\Zk H H2/\H2 pl=some (.lst zs)/\QL H2 zs (qs.take i))
  ⟨none,none,none,none,rfl,Zk.new hpl,Zc,.nil⟩ ?_ ?_ ?_⟩
 ·rintro i zs σ H2 _ ⟨v0,v1,v2,v3,_,sm,hp2,_⟩;exact⟨sm.seq hR,hp2⟩
 ·rintro i zs x σ H2 hi hx ⟨v0,v1,v2,v3,rfl,sm,hp2,hz⟩;obtain⟨p,q1,e1,rfl,e2⟩:=hql.get i x hx;refine⟨p,_,rfl,SqT.of (sm _ _ e2),rfl,_,_,rfl,_,_,rfl,_,_,rfl,_,_,rfl,rfl,?_⟩;refine⟨_,rfl,_,rfl,_,rfl,_,rfl,by show(4:Nat)<=sizeLine;decide,fun t ht=>?_⟩;have s2:Zk H2 (upd H2 t (tq q1)):=Zk.new ht;refine⟨s2 _ _ hp2,ZW (by rw[hz.length,List.length_take];lia),CW.next hi ⟨_,_,_,_,rfl,(sm.trans s2).upd_new hpl,Zc,?_⟩⟩
  obtain⟨hil,hie⟩:=List.getElem?_eq_some_iff.mp e1;rw[List.take_succ_eq_append_getElem hil,hie];have hz2:QL (upd H2 t (tq q1)) (zs ++ [.ref t]) (qs.take i ++ [q1]):=QL.snoc Zc (hz.keep fun b xs e=>s2 _ _ e);exact hz2.keep (ZaD (s2 _ _ hp2))
 ·rintro zs σ H2 ⟨v0,v1,v2,v3,rfl,sm,hp2,hz⟩;rw[hyl,List.take_length] at hz;refine .inl ⟨pl,zs,qs,rfl,SqL.of hp2,(by rw[hz.length];exact hqn),hz,fun r3 z3 m3 hr3 hrise hmem hQ3=>?_⟩;have s3:Zk H2 (upd H2 r3 (.lst z3)):=Zk.new hr3;have e3:(upd H2 r3 (.lst z3)) r3=some (.lst z3):=Zc;have hQ3':=hQ3.keep (H':=upd H2 r3 (.lst z3)) fun b xs e=>s3 _ _ e;generalize upd H2 r3 (.lst z3)=H3 at s3 e3 hQ3' ⊢;have s03:=sm.trans s3;refine⟨_,rfl,_,_,rfl,rfl,_,rfl,Zdn (fun c=>?_) (fun c=>?_)⟩
  ·have c:n > 64:=of_decide_eq_true c;have l0:(Str.empty:Str).length=0:=rfl;have l1:(Str.ofString "a form of ").length=10:=by decide
   have l2:(Str.ofString " kinds").length=6:=by decide
   refine⟨_,rfl,?_,_,rfl,.inr ⟨_,rfl,by lia,_,rfl,?_,_,rfl,?_,?_,?_⟩⟩
   ·rw[strLen_append,sizeLine_eq];lia
   ·rw[strLen_append,strLen_append,sizeLine_eq];lia
   ·rw[strLen_append,strLen_append,strLen_append,sizeLine_eq];lia
   ·rw[strLen_append,strLen_append,strLen_append,sizeLine_eq];lia
   exact⟨(by show 1<=1000;decide),fun y hy=>qe m3 hrise hmem (.inl c) _ (s03.trans (Zk.new hy))⟩
  have hn:n<=64:=Int.not_lt.mp fun z=>c (decide_eq_true z);refine⟨_,rfl,r3,_,rfl,.inl (SqL.of e3),_,_,rfl,rfl,_,rfl,Zdn (fun c=>?_) (fun c=>?_)⟩
  ·have c:=of_decide_eq_true c;rw[hQ3.length] at c;exact⟨(by show 1<=1000;decide),fun y hy=>qe m3 hrise hmem (.inr (by lia)) _ (s03.trans (Zk.new hy))⟩
  have hm3:m3.length<=400:=by
   refine Nat.not_lt.mp fun z=>c (decide_eq_true ?_);rw[hQ3.length];lia
  refine⟨_,rfl,_,rfl,.inr ⟨s0,hs,rfl,s03.seq hS,hsl,fun r1 m1 hr1 hri1 hme1=>⟨r1,_,rfl,.inl ⟨SqL.of Zc,fun u1 hu1=>?_⟩⟩⟩⟩;have s4:Zk H3 (upd (upd H3 r1 (.lst (m1.map V.int))) u1 (.tup (m1.map V.int))):=(Zk.new hr1).trans (Zk.new hu1);have e4:(upd (upd H3 r1 (.lst (m1.map V.int))) u1 (.tup (m1.map V.int))) u1=some (.tup (m1.map V.int)):=Zc;generalize upd (upd H3 r1 (.lst (m1.map V.int))) u1 (.tup (m1.map V.int))=H4 at s4 e4 ⊢;have s04:=s03.trans s4;refine⟨_,rfl,.inr ⟨e0,ts,rfl,s04.seq hT,htl,fun r2 m2 hr2 hri2 hme2=>⟨r2,_,rfl,.inl ⟨SqL.of Zc,fun u2 hu2=>?_⟩⟩⟩⟩;have s5:Zk H4 (upd (upd H4 r2 (.lst (m2.map V.int))) u2 (.tup (m2.map V.int))):=(Zk.new hr2).trans (Zk.new hu2);have e5:(upd (upd H4 r2 (.lst (m2.map V.int))) u2 (.tup (m2.map V.int))) u2=some (.tup (m2.map V.int)):=Zc;generalize upd (upd H4 r2 (.lst (m2.map V.int))) u2 (.tup (m2.map V.int))=H5 at s5 e5 ⊢;have s05:=s04.trans s5;refine⟨_,rfl,r3,_,rfl,.inl ⟨SqL.of (s5 _ _ (s4 _ _ e3)),fun u3 hu3=>?_⟩⟩;have s6:Zk H5 (upd H5 u3 (.tup z3)):=Zk.new hu3;have e6:(upd H5 u3 (.tup z3)) u3=some (.tup z3):=Zc;generalize upd H5 u3 (.tup z3)=H6 at s6 e6 ⊢;refine⟨by show(4:Nat)<=sizeLine;decide,fun a ha=>?_⟩;have s7:Zk H6 (upd H6 a (.tup [.int n,.ref u1,.ref u2,.ref u3])):=Zk.new ha;have s36:=((s4.trans s5).trans s6).trans s7;exact q m3 hrise hmem hn hm3 a ⟨n,m1,m2,m3⟩ _ (s03.trans s36) ⟨u1,u2,u3,z3,Zc,s7 _ _ (s6 _ _ (s5 _ _ e4)),s7 _ _ (s6 _ _ e5),s7 _ _ e6,hQ3'.keep fun b xs e=>s36 _ _ e⟩ ⟨rfl,hri1,hri2,hrise,hme1,hme2,hmem⟩
set_option maxHeartbeats 1000000 in
theorem Zid(B:∀x∈Zca,mg x=none)(F:Fun K "raised" "raised" Zbt f fd):FnOk P w K mg base CX0 1 f fd ["kinds","by"] Zb4:=by
 refine F.ok Zh6 (fun vs H Q E h=>?_) (fun cdv A outer s H vs Q E hr h=>?_)
 ·obtain⟨a,b,xs,rfl,_⟩:=h;rfl
 obtain⟨a,b,xs,rfl,ha,hl,q⟩:=h;refine⟨_,(Zi (ZX (ZaQ (cl:=_) ["kind"] [("by",1)] (Za8 (pv 0)) (fun _ _ _ _=>(Zt (i:=0) (show List.Nodup (["kind","by"]:List Str) by decide) rfl (Or.inl rfl))) (fun _ _ _ _=>(Zg ZJ (pv 0) (pv 1))) rfl rfl (by decide) rfl (by decide) (Za1 (by(repeat' first|exact List.forall_mem_nil _|refine List.forall_mem_cons.mpr ⟨?_,?_⟩) <;> rfl)) (ZaE (by(repeat' first|exact List.forall_mem_nil _|refine List.forall_mem_cons.mpr ⟨?_,?_⟩) <;> first|(intro h;exact⟨_,rfl⟩)|(intro h;exact absurd h (by decide)))) (fun _=>by(repeat' first|exact List.forall_mem_nil _|refine List.forall_mem_cons.mpr ⟨?_,?_⟩) <;> exact⟨rfl,rfl,Or.inl rfl⟩) (fun _=>rfl)))),?_⟩
 refine⟨_,rfl,a,rfl,⟨_,SqT.of ha⟩,fun pl hpl=>ZbT (K:=K) (a:=a) (p:=pl) (xs:=xs.map V.int) (fun j zs σ H3=>∃v0:Option V,σ =[v0,some (.int b)]/\Zk H H3/\H3 pl=some (.lst zs)/\zs=((xs.take j).map (· + b)).map V.int)
  ⟨none,rfl,Zk.new hpl,Zc,rfl⟩ ?_ ?_ ?_⟩
 ·rintro j zs σ H3 _ ⟨v0,_,sm3,h,_⟩;exact⟨SqT.of (sm3 _ _ ha),h⟩
 ·rintro j zs y σ H3 hj hy ⟨v0,rfl,sm3,h,rfl⟩;rw[List.getElem?_map] at hy;obtain⟨y0,hy0,rfl⟩:=Option.map_eq_some_iff.mp hy;refine⟨_,rfl,_,rfl,_,_,rfl,rfl,h,ZW (by rw[List.length_map,List.length_map,List.length_take];lia),CW.next hj ⟨_,rfl,sm3.upd_new hpl,Zc,?_⟩⟩
  rw[ZK hy0,List.map_append,List.map_append];rfl
 ·rintro zs σ H3 ⟨v0,rfl,sm3,h,rfl⟩;rw[List.length_map,List.take_length] at h;exact q pl H3 sm3 hpl h
set_option maxHeartbeats 1000000 in
theorem Zc6(B:∀x∈Zca,mg x=none)(F:Fun K "raised_rules" "raised_rules" Zao f fd):FnOk P w K mg base CX0 1 f fd ["rules","by","inner_by"] Zbk:=by
 refine F.ok Zdb (fun vs H Q E h=>?_) (fun cdv A outer s H vs Q E hr h=>?_)
 ·obtain⟨a,b,i,zs,qs,rfl,_⟩:=h;rfl
 obtain⟨a,b,c,ys,qs,rfl,ha,hql,hqn,q⟩:=h;have hyl:=hql.length;refine⟨_,(Zi (ZX (ZaQ (cl:=_) ["kind","tag","inner","rest"] [("by",1),("inner_by",2)] (Za8 (pv 0)) (fun _ _ _ _=>(ZcR (K:=K) (n:=4) rfl rfl (ZC (Zt (i:=0) (show List.Nodup (["kind","tag","inner","rest","by","inner_by"]:List Str) by decide) rfl (Or.inl rfl)) (ZC (Zt (i:=1) (show List.Nodup (["kind","tag","inner","rest","by","inner_by"]:List Str) by decide) rfl (Or.inl rfl)) (ZC (Zt (i:=2) (show List.Nodup (["kind","tag","inner","rest","by","inner_by"]:List Str) by decide) rfl (Or.inl rfl)) (ZC (Zt (i:=3) (show List.Nodup (["kind","tag","inner","rest","by","inner_by"]:List Str) by decide) rfl (Or.inl rfl)) Zbl)))))) (fun _ _ _ _=>(Zad (Za (Zg ZJ (pv 0) (pv 4)) (Za (pv 1) (Za (Zg ZJ (pv 2) (pv 5)) (Za (Zg ZJ (pv 3) (pv 4)) Zd)))))) rfl rfl (by decide) rfl (by decide) (Za1 (by(repeat' first|exact List.forall_mem_nil _|refine List.forall_mem_cons.mpr ⟨?_,?_⟩) <;> rfl)) (ZaE (by(repeat' first|exact List.forall_mem_nil _|refine List.forall_mem_cons.mpr ⟨?_,?_⟩) <;> first|(intro h;exact⟨_,rfl⟩)|(intro h;exact absurd h (by decide)))) (fun _=>by(repeat' first|exact List.forall_mem_nil _|refine List.forall_mem_cons.mpr ⟨?_,?_⟩) <;> exact⟨rfl,rfl,Or.inl rfl⟩) (fun _=>rfl)))),?_⟩
 refine⟨_,rfl,a,rfl,⟨ys,SqT.of ha⟩,fun pl hpl=>ZbT (K:=K) (a:=a) (p:=pl) (xs:=ys) (fun i zs σ H2=>∃v0 v1 v2 v3:Option V,σ =[v0,v1,v2,v3,some (.int b),some (.int c)]/\Zk H H2/\H2 pl=some (.lst zs)/\QL H2 zs ((qs.take i).map (upQ b c)))
  ⟨none,none,none,none,rfl,Zk.new hpl,Zc,.nil⟩ ?_ ?_ ?_⟩
 ·rintro i zs σ H2 _ ⟨v0,v1,v2,v3,_,sm,hp2,_⟩;exact⟨SqT.of (sm _ _ ha),hp2⟩
 ·rintro i zs x σ H2 hi hx ⟨v0,v1,v2,v3,rfl,sm,hp2,hz⟩;obtain⟨p,q1,e1,rfl,e2⟩:=hql.get i x hx;refine⟨p,_,rfl,SqT.of (sm _ _ e2),rfl,_,_,rfl,_,_,rfl,_,_,rfl,_,_,rfl,rfl,?_⟩;refine⟨_,rfl,_,rfl,_,_,rfl,rfl,_,rfl,_,rfl,_,rfl,_,_,rfl,rfl,_,rfl,_,rfl,_,_,rfl,rfl,by show(4:Nat)<=sizeLine;decide,fun t ht=>?_⟩;have s2:Zk H2 (upd H2 t (tq (upQ b c q1))):=Zk.new ht;refine⟨s2 _ _ hp2,ZW (by rw[hz.length,List.length_map,List.length_take];lia),CW.next hi ⟨_,_,_,_,rfl,(sm.trans s2).upd_new hpl,Zc,?_⟩⟩
  rw[ZK e1,List.map_append];have hz2:QL (upd H2 t (tq (upQ b c q1))) (zs ++ [.ref t]) ((qs.take i).map (upQ b c) ++ [upQ b c q1]):=QL.snoc Zc (hz.keep fun b xs e=>s2 _ _ e);exact hz2.keep (ZaD (s2 _ _ hp2))
 ·rintro zs σ H2 ⟨v0,v1,v2,v3,rfl,sm,hp2,hz⟩;rw[hyl,List.take_length] at hz;exact q pl zs H2 sm hpl hp2 hz
set_option maxHeartbeats 1000000 in
theorem ZcJ(B:∀x∈Zca,mg x=none)(F:Fun K "started_rules" "started_rules" Zaa f fd):FnOk P w K mg base CX0 1 f fd ["form"] Zb0:=by
 refine F.ok ZcF (fun vs H Q E h=>?_) (fun cdv A outer s H vs Q E hr h=>?_)
 ·obtain⟨a,fm,rfl,_⟩:=h;rfl
 obtain⟨a,fm,rfl,⟨f1,f2,f3,ys,a1,a2,a3,a4,hql⟩,ok,q⟩:=h;have hyl:=hql.length;have hqn:=ok.ql;refine⟨_,(Zi (ZX (Zcb (cl:=_) ["kind","tag","inner","rest"] [("form",0)] (Za8 (ZG Zy (pv 0) Zb (fun _ _=>rfl))) (fun _ _ _ _=>(ZcR (K:=K) (n:=4) rfl rfl (ZC (Zt (i:=0) (show List.Nodup (["kind","tag","inner","rest","form"]:List Str) by decide) rfl (Or.inl rfl)) (ZC (Zt (i:=1) (show List.Nodup (["kind","tag","inner","rest","form"]:List Str) by decide) rfl (Or.inl rfl)) (ZC (Zt (i:=2) (show List.Nodup (["kind","tag","inner","rest","form"]:List Str) by decide) rfl (Or.inl rfl)) (ZC (Zt (i:=3) (show List.Nodup (["kind","tag","inner","rest","form"]:List Str) by decide) rfl (Or.inl rfl)) Zbl)))))) (fun _ _ _ _=>(Z0 (ZdE (K:=K) rfl) (pv 0) (ZG (Zd1 (K:=K) rfl) (pv 4) Zb (fun _ _=>rfl)) (by with_unfolding_all rfl))) (fun _ _ _ _=>(Zad (Za (pv 1) (Za (pv 2) (Za (pv 3) Zd))))) rfl rfl (by decide) rfl (by decide) (Za1 (by(repeat' first|exact List.forall_mem_nil _|refine List.forall_mem_cons.mpr ⟨?_,?_⟩) <;> rfl)) (ZaE (by(repeat' first|exact List.forall_mem_nil _|refine List.forall_mem_cons.mpr ⟨?_,?_⟩) <;> first|(intro h;exact⟨_,rfl⟩)|(intro h;exact absurd h (by decide)))) (fun _=>by(repeat' first|exact List.forall_mem_nil _|refine List.forall_mem_cons.mpr ⟨?_,?_⟩) <;> exact⟨rfl,rfl,Or.inl rfl⟩) (fun _=>rfl)))),?_⟩
 refine⟨_,rfl,a,_,3,_,rfl,rfl,SqT.of a1,rfl,f3,rfl,⟨ys,SqT.of a4⟩,fun pl hpl=>Zc2 (K:=K) (a:=f3) (p:=pl) (xs:=ys) (fun i zs σ H2=>∃v0 v1 v2 v3:Option V,σ =[v0,v1,v2,v3,some (.ref a)]/\Zk H H2/\H2 pl=some (.lst zs)/\TL H2 zs (((fm.qs.take i).filter fun q=>decide (q.1∈fm.hs)).map tr))
  ⟨none,none,none,none,rfl,Zk.new hpl,Zc,.nil⟩ ?_ ?_ ?_⟩
 ·rintro i zs σ H2 _ ⟨v0,v1,v2,v3,_,sm,hp2,_⟩;exact⟨SqT.of (sm _ _ a4),hp2⟩
 ·rintro i zs x σ H2 hi hx ⟨v0,v1,v2,v3,rfl,sm,hp2,hz⟩;obtain⟨p,q1,e1,rfl,e2⟩:=hql.get i x hx;refine⟨p,_,rfl,SqT.of (sm _ _ e2),rfl,_,_,rfl,_,_,rfl,_,_,rfl,_,_,rfl,rfl,?_⟩;refine⟨_,rfl,_,rfl,a,_,1,_,rfl,rfl,SqT.of (sm _ _ a1),rfl,f1,_,rfl,.inr (SqT.of (sm _ _ a2)),rfl,Zey _,?_⟩;rw[if_neg (by decide),Zgb];refine⟨_,rfl,?_⟩;refine Zdn (fun c=>?_) (fun c=>?_)
  ·refine⟨_,rfl,_,rfl,_,rfl,by show(3:Nat)<=sizeLine;decide,fun t ht=>?_⟩;have s2:Zk H2 (upd H2 t (.tup [.str (tr q1).1,.int (tr q1).2.1,.int (tr q1).2.2])):=Zk.new ht;have hlz:zs.length<=1000:=by
    rw[hz.length,List.length_map];have:=List.length_filter_le (fun q:Srd.Qd=>decide (q.1∈fm.hs)) (fm.qs.take i);rw[List.length_take] at this;lia
   refine⟨s2 _ _ hp2,ZW (by lia),CW.next hi ⟨_,_,_,_,rfl,(sm.trans s2).upd_new hpl,Zc,?_⟩⟩
   rw[ZK e1,List.filter_append,List.map_append,show [q1].filter (fun q=>decide (q.1∈fm.hs))=[q1] from by rw[List.filter_cons,if_pos c];rfl];have hz2:TL (upd H2 t (.tup [.str (tr q1).1,.int (tr q1).2.1,.int (tr q1).2.2])) (zs ++ [.ref t]) (((fm.qs.take i).filter fun q=>decide (q.1∈fm.hs)).map tr ++ [tr q1]):=TL.snoc Zc (hz.keep fun b xs e=>s2 _ _ e);exact hz2.keep (ZaD (s2 _ _ hp2))
  ·refine CW.next hi ⟨_,_,_,_,rfl,sm,hp2,?_⟩
   rw[ZK e1,List.filter_append,List.map_append,show [q1].filter (fun q=>decide (q.1∈fm.hs))=[] from by rw[List.filter_cons,if_neg c];rfl,List.map_nil,List.append_nil];exact hz
 ·rintro zs σ H2 ⟨v0,v1,v2,v3,rfl,sm,hp2,hz⟩;rw[hyl,List.take_length] at hz;exact q pl zs H2 sm hpl hp2 hz
set_option maxHeartbeats 1000000 in
theorem Zdq(B:∀x∈Zca,mg x=none)(g_raised_rules:Has P w K mg base "raised_rules" ["rules","by","inner_by"] 1 Zbk) (F:Fun K "outer_rules" "outer_rules" Zav f fd):FnOk P w K mg base CX0 2 f fd ["one"] Zd4:=by
 refine F.ok Zds (fun vs H Q E h=>?_) (fun cdv A outer s H vs Q E hr h=>?_)
 ·obtain⟨a,fm,rfl,_⟩:=h;rfl
 obtain⟨a,fm,rfl,⟨f1,f2,f3,ys,a1,a2,a3,a4,hql⟩,ok,q⟩:=h;have hyl:=hql.length;have hqn:=ok.ql;refine⟨_,(Zi (ZX (Zg ZaL (ZL Z2 rfl (B "list" (by decide)) ZaS (Za (ZG Zy (pv 0) Zb (fun _ _=>rfl)) Zd)) (Zr g_raised_rules hr rfl (Za (ZG Zy (pv 0) Zb (fun _ _=>rfl)) (Za (ZG Zy (pv 0) Zb (fun _ _=>rfl)) (Za Zb Zd))))))),?_⟩;refine⟨_,rfl,a,_,3,_,rfl,rfl,SqT.of a1,rfl,f3,_,rfl,.inr (SqT.of a4),fun l1 hl1=>?_⟩;have s1:Zk H (upd H l1 (.lst ys)):=Zk.new hl1;have e1:(upd H l1 (.lst ys)) l1=some (.lst ys):=Zc;generalize upd H l1 (.lst ys)=H1 at s1 e1 ⊢;refine⟨_,rfl,a,_,3,_,rfl,rfl,SqT.of (s1 _ _ a1),rfl,_,rfl,a,_,0,_,rfl,rfl,SqT.of (s1 _ _ a1),rfl,f3,fm.n,0,ys,fm.qs,rfl,s1 _ _ a4,hql.keep fun b xs e=>s1 _ _ e,by lia,fun r y2 H2 s2 hr2 e2 hQ2=>?_⟩;have hl2:=hQ2.length;rw[List.length_map] at hl2;refine⟨l1,r,_,_,rfl,rfl,s2 _ _ e1,e2,ZZ (by lia),fun pn hpn=>?_⟩;have s3:Zk H2 (upd H2 pn (.lst (ys++y2))):=Zk.new hpn;refine q pn _ _ ((s1.trans s2).trans s3) ((s1.trans s2).free hpn) Zc ?_;exact QL.app (hQ2.keep fun b xs e=>s3 _ _ e) (hql.keep fun b xs e=>s3 _ _ (s2 _ _ (s1 _ _ e)))
set_option maxHeartbeats 1000000 in
theorem ZjM(B:∀x∈Zca,mg x=none)(g_raised:Has P w K mg base "raised" ["kinds","by"] 1 Zb4) (g_sorted_form:HasX P w K mg base "sorted_form" ["many","starts","ends","rules"] 1 (Zbn K X_TooMany)) (g_raised_rules:Has P w K mg base "raised_rules" ["rules","by","inner_by"] 1 Zbk)
  (F:Fun K "join" "join" ZdG f fd):FnOk P w K mg base (CXE P w) 2 f fd ["one","other"] (Zfo X_TooMany):=by
 refine F.okX Zel (fun vs H Q E h=>?_) (fun cdv A outer s H vs Q E hr h=>?_)
 ·obtain⟨a,b,fm,gm,rfl,_⟩:=h;rfl
 obtain⟨a,b,fm,gm,rfl,hF,hG,okF,okG,hl,qe,q⟩:=h;obtain⟨f1,f2,f3,zf,a1,a2,a3,a4,a5⟩:=id hF;obtain⟨g1,g2,g3,zg,b1,b2,b3,b4,b5⟩:=id hG;have n0:=okF.n0;have m0:=okG.n0;have n8:=okF.n8;have m8:=okG.n8;have fhl:=okF.hl;have ftl:=okF.tl;have fql:=okF.ql;have ghl:=okG.hl;have gtl:=okG.tl;have gql:=okG.ql;have zfl:=a5.length;refine⟨_,(Ze (Zm (i:=2) Zel.nd rfl (Or.inl rfl) (ZG Zy (pv 0) Zb (fun _ _=>rfl)))
  (Ze (Zm (i:=3) Zel.nd rfl (Or.inl rfl) (Zg ZaL (ZL Z2 rfl (B "list" (by decide)) ZaS (Za (ZG Zy (pv 0) Zb (fun _ _=>rfl)) Zd)) (Zr g_raised hr rfl (Za (ZG Zy (pv 1) Zb (fun _ _=>rfl)) (Za (pv 2) Zd)))))
  (Ze (Zm (i:=4) Zel.nd rfl (Or.inl rfl) (Zg ZaL (ZL Z2 rfl (B "list" (by decide)) ZaS (Za (ZG Zy (pv 0) Zb (fun _ _=>rfl)) Zd)) (Zr g_raised hr rfl (Za (ZG Zy (pv 1) Zb (fun _ _=>rfl)) (Za (pv 2) Zd)))))
  (Zi (ZX (ZaC g_sorted_form Zam hr rfl (Za (Zg ZJ (pv 2) (ZG Zy (pv 1) Zb (fun _ _=>rfl))) (Za (pv 3) (Za (pv 4) (Za (Zg ZaL (ZL Z2 rfl (B "list" (by decide)) ZaS (Za (ZG Zy (pv 0) Zb (fun _ _=>rfl)) Zd)) (Zr g_raised_rules hr rfl (Za (ZG Zy (pv 1) Zb (fun _ _=>rfl)) (Za (pv 2) (Za (pv 2) Zd))))) Zd)))))))))),?_⟩
 refine⟨_,rfl,a,_,0,_,rfl,rfl,SqT.of a1,rfl,?_⟩;refine⟨_,rfl,a,_,1,_,rfl,rfl,SqT.of a1,rfl,f1,_,rfl,.inr (SqT.of a2),fun l1 hl1=>?_⟩;have s1:Zk H (upd H l1 (.lst (fm.hs.map V.int))):=Zk.new hl1;have e1:(upd H l1 (.lst (fm.hs.map V.int))) l1=some (.lst (fm.hs.map V.int)):=Zc;generalize upd H l1 (.lst (fm.hs.map V.int))=H1 at s1 e1 ⊢;refine⟨_,rfl,b,_,1,_,rfl,rfl,SqT.of (s1 _ _ b1),rfl,_,rfl,g1,fm.n,gm.hs,rfl,s1 _ _ b2,by lia,fun r2 H2 s2 hr2 e2=>?_⟩;refine⟨l1,r2,_,_,rfl,rfl,s2 _ _ e1,e2,ZZ (by rw[List.length_map,List.length_map,List.length_map];lia),fun pe hpe=>?_⟩;have s3:Zk H (upd H2 pe (.lst (fm.hs.map V.int++(gm.hs.map (· + fm.n)).map V.int))):=(s1.trans s2).trans (Zk.new hpe);have e3:(upd H2 pe (.lst (fm.hs.map V.int++(gm.hs.map (· + fm.n)).map V.int))) pe=some (.lst ((ZhI fm gm).map V.int)):=by rw[Zc,ZhI,List.map_append]
 generalize upd H2 pe (.lst (fm.hs.map V.int++(gm.hs.map (· + fm.n)).map V.int))=H3 at s3 e3 ⊢;refine⟨_,rfl,a,_,2,_,rfl,rfl,SqT.of (s3 _ _ a1),rfl,f2,_,rfl,.inr (SqT.of (s3 _ _ a3)),fun l4 hl4=>?_⟩;have s4:Zk H3 (upd H3 l4 (.lst (fm.ts.map V.int))):=Zk.new hl4;have e4:(upd H3 l4 (.lst (fm.ts.map V.int))) l4=some (.lst (fm.ts.map V.int)):=Zc;generalize upd H3 l4 (.lst (fm.ts.map V.int))=H4 at s4 e4 ⊢;have s34:=s3.trans s4;refine⟨_,rfl,b,_,2,_,rfl,rfl,SqT.of (s34 _ _ b1),rfl,_,rfl,g2,fm.n,gm.ts,rfl,s34 _ _ b3,by lia,fun r5 H5 s5 hr5 e5=>?_⟩;refine⟨l4,r5,_,_,rfl,rfl,s5 _ _ e4,e5,ZZ (by rw[List.length_map,List.length_map,List.length_map];lia),fun pt hpt=>?_⟩;have s6:Zk H3 (upd H5 pt (.lst (fm.ts.map V.int++(gm.ts.map (· + fm.n)).map V.int))):=(s4.trans s5).trans (Zk.new hpt);have e6:(upd H5 pt (.lst (fm.ts.map V.int++(gm.ts.map (· + fm.n)).map V.int))) pt=some (.lst ((ZhL fm gm).map V.int)):=by rw[Zc,ZhL,List.map_append]
 generalize upd H5 pt (.lst (fm.ts.map V.int++(gm.ts.map (· + fm.n)).map V.int))=H6 at s6 e6 ⊢;have s06:=s3.trans s6;refine⟨_,rfl,_,rfl,b,_,0,_,rfl,rfl,SqT.of (s06 _ _ b1),rfl,_,_,rfl,rfl,_,rfl,_,rfl,?_⟩;refine⟨_,rfl,a,_,3,_,rfl,rfl,SqT.of (s06 _ _ a1),rfl,f3,_,rfl,.inr (SqT.of (s06 _ _ a4)),fun l7 hl7=>?_⟩;have s7:Zk H6 (upd H6 l7 (.lst zf)):=Zk.new hl7;have e7:(upd H6 l7 (.lst zf)) l7=some (.lst zf):=Zc;generalize upd H6 l7 (.lst zf)=H7 at s7 e7 ⊢;have s07:=s06.trans s7;refine⟨_,rfl,b,_,3,_,rfl,rfl,SqT.of (s07 _ _ b1),rfl,_,rfl,_,rfl,g3,fm.n,fm.n,zg,gm.qs,rfl,s07 _ _ b4,b5.keep fun b xs e=>s07 _ _ e,by lia,fun r8 y8 H8 s8 hr8 e8 Q8=>?_⟩;have y8l:=Q8.length;rw[List.length_map] at y8l;refine⟨l7,r8,_,_,rfl,rfl,s8 _ _ e7,e8,ZZ (by lia),fun pr hpr=>?_⟩;have s9:Zk H8 (upd H8 pr (.lst (zf++y8))):=Zk.new hpr;have e9:(upd H8 pr (.lst (zf++y8))) pr=some (.lst (zf++y8)):=Zc;generalize upd H8 pr (.lst (zf++y8))=H9 at s9 e9 ⊢;have s69:=(s7.trans s8).trans s9;have s09:=s06.trans s69;refine⟨fm.n+gm.n,pe,pt,pr,ZhI fm gm,ZhL fm gm,_,Zc5 fm gm,rfl,Zkb (by lia) (by lia),SqL.of (s69 _ _ (s6 _ _ e3)),?_,SqL.of (s69 _ _ e6),?_,SqL.of e9,QL.app (Q8.keep fun b xs e=>s9 _ _ e) (a5.keep fun b xs e=>s09 _ _ e),hl,fun ms h1 h2 h3 H' s'=>qe ms h1 h2 h3 _ (s09.trans s'),fun ms h1 h2 h3 h4 r h H' s' hf hI=>q ms h1 h2 h3 h4 r h H' (s09.trans s') hf hI⟩
 ·rw[ZhI,List.length_append,List.length_map];lia
 ·rw[ZhL,List.length_append,List.length_map];lia
set_option maxHeartbeats 4000000 in
theorem Zj1(B:∀x∈Zca,mg x=none)(g_raised:Has P w K mg base "raised" ["kinds","by"] 1 Zb4) (g_outer_rules:Has P w K mg base "outer_rules" ["one"] 2 Zd4) (g_raised_rules:Has P w K mg base "raised_rules" ["rules","by","inner_by"] 1 Zbk) (g_started_rules:Has P w K mg base "started_rules" ["form"] 1 Zb0) (g_sorted_form:HasX P w K mg base "sorted_form" ["many","starts","ends","rules"] 1 (Zbn K X_TooMany))
  (F:Fun K "then" "then" Zdt f fd):FnOk P w K mg base (CXE P w) 3 f fd ["one","other"] (Zfi X_TooMany):=by
 refine F.okX Zbm (fun vs H Q E h=>?_) (fun cdv A outer s H vs Q E hr h=>?_)
 ·obtain⟨a,b,fm,gm,rfl,_⟩:=h;rfl
 obtain⟨a,b,fm,gm,rfl,hF,hG,okF,okG,hTL,qe,q⟩:=h;obtain⟨f1,f2,f3,zf,a1,a2,a3,a4,a5⟩:=id hF;obtain⟨g1,g2,g3,zg,b1,b2,b3,b4,b5⟩:=id hG;have n0:=okF.n0;have n8:=okF.n8;have m0:=okG.n0;have m8:=okG.n8;have ftl:=okF.tl;have fhl:=okF.hl;have gtl:=okG.tl;have fql:=okF.ql;have gql:=okG.ql;have hmul:Zka 2 fm.n:=.inl ⟨by decide,by decide⟩;refine cut 5 (fun σ' H'=>∃(pe pr:Addr)(v5 v6 v7 v8:Option V)(ys:List V),σ'=[some (.ref a),some (.ref b),some (.int fm.n),some (.ref pe),some (.ref pr),v5,v6,v7,v8]/\Zk H H'/\H' pe=some (.lst ((Zgl fm gm).map V.int))/\H' pr=some (.lst ys)/\QL H' ys (ZcH fm gm))
  ?_ (fun u hu5 hR=>⟨_,(Ze (Zm (i:=2) Zbm.nd rfl (Or.inl rfl) (ZG Zy (pv 0) Zb (fun _ _=>rfl)))
  (Ze (Zm (i:=3) Zbm.nd rfl (Or.inl rfl) (Zg ZaL (ZL Z2 rfl (B "list" (by decide)) ZaS (Za (ZG Zy (pv 0) Zb (fun _ _=>rfl)) Zd)) (Zr g_raised hr rfl (Za (ZG Zy (pv 1) Zb (fun _ _=>rfl)) (Za (Zg Z7 Zb (pv 2)) Zd)))))
  (Ze (Zm (i:=4) Zbm.nd rfl (Or.inl rfl) (Zg ZaL (Zr g_outer_rules hr rfl (Za (pv 0) Zd)) (Zr g_raised_rules hr rfl (Za (ZG Zy (pv 1) Zb (fun _ _=>rfl)) (Za (Zg Z7 Zb (pv 2)) (Za (Zg Z7 Zb (pv 2)) Zd))))))
  (Ze (ZbX PassesOwn.leaving rfl (Za8 (ZG Zy (pv 0) Zb (fun _ _=>rfl))) (Zt (i:=5) Zbm.nd rfl (Or.inl rfl))
   (Zi (ZbX PassesOwn.leaving rfl (Zcr (Zr g_started_rules hr rfl (Za (pv 1) Zd))) (Zf9 rfl (ZC (Zt (i:=6) Zbm.nd rfl (Or.inl rfl)) (ZC (Zt (i:=7) Zbm.nd rfl (Or.inl rfl)) (ZC (Zt (i:=8) Zbm.nd rfl (Or.inl rfl)) Zbl))))
     (Zi (Zba (Ze2 PySem.F.plainAttrs_list PySem.F.slot_list_append PySem.F.type_list_append Zbf (pv 4) (Za (Zad (Za (Zg ZJ (pv 2) (pv 5)) (Za (pv 6) (Za (Zg ZJ (Zg Z7 Zb (pv 2)) (pv 7)) (Za (Zg ZJ (Zg Z7 Zb (pv 2)) (pv 8)) Zd))))) Zd)))))))
  (Ze (ZaN (Za7 (ZV (ZiA rfl) rfl (B "any" (by decide)) Zk2 (Za (ZaQ (cl:=_) ["start"] [("other",1)] (Za8 (ZG Zy (pv 1) Zb (fun _ _=>rfl))) (fun _ _ _ _=>(Zt (i:=0) (show List.Nodup (["start","other"]:List Str) by decide) rfl (Or.inl rfl))) (fun _ _ _ _=>(ZbH (ZdE (K:=K) rfl) (pv 0) (ZG (Zd1 (K:=K) rfl) (pv 1) Zb (fun _ _=>rfl)) (by with_unfolding_all rfl))) rfl rfl (by decide) rfl (by decide) (Za1 (by(repeat' first|exact List.forall_mem_nil _|refine List.forall_mem_cons.mpr ⟨?_,?_⟩) <;> rfl)) (ZaE (by(repeat' first|exact List.forall_mem_nil _|refine List.forall_mem_cons.mpr ⟨?_,?_⟩) <;> first|(intro h;exact⟨_,rfl⟩)|(intro h;exact absurd h (by decide)))) (fun _=>by(repeat' first|exact List.forall_mem_nil _|refine List.forall_mem_cons.mpr ⟨?_,?_⟩) <;> exact⟨rfl,rfl,Or.inl rfl⟩) (fun _=>rfl)) Zd)) (fun _=>rfl))
   (Zi (Zba (Ze2 PySem.F.plainAttrs_list PySem.F.slot_list_extend PySem.F.type_list_extend ZcV (pv 3) (Za (Zr g_raised hr rfl (Za (ZG Zy (pv 0) Zb (fun _ _=>rfl)) (Za (pv 2) Zd))) Zd))))
   Zak)
  hu5))))),?_⟩)
 rotate_left
 ·refine⟨_,rfl,a,_,0,_,rfl,rfl,SqT.of a1,rfl,?_⟩;refine⟨_,rfl,a,_,2,_,rfl,rfl,SqT.of a1,rfl,f2,_,rfl,.inr (SqT.of a3),fun l1 hl1=>?_⟩;have s1:Zk H (upd H l1 (.lst (fm.ts.map V.int))):=Zk.new hl1;have e1:(upd H l1 (.lst (fm.ts.map V.int))) l1=some (.lst (fm.ts.map V.int)):=Zc;generalize upd H l1 (.lst (fm.ts.map V.int))=H1 at s1 e1 ⊢;refine⟨_,rfl,b,_,2,_,rfl,rfl,SqT.of (s1 _ _ b1),rfl,_,rfl,_,_,rfl,rfl,hmul,g2,2*fm.n,gm.ts,rfl,s1 _ _ b3,by lia,fun r2 H2 s2 hr2 e2=>?_⟩;refine⟨l1,r2,_,_,rfl,rfl,s2 _ _ e1,e2,ZZ (by rw[List.length_map,List.length_map,List.length_map];lia),fun pe hpe=>?_⟩;have s3:Zk H (upd H2 pe (.lst (fm.ts.map V.int++(gm.ts.map (· + 2*fm.n)).map V.int))):=(s1.trans s2).trans (Zk.new hpe);have hpe0:=(s1.trans s2).free hpe;have e3:(upd H2 pe (.lst (fm.ts.map V.int++(gm.ts.map (· + 2*fm.n)).map V.int))) pe=some (.lst ((fm.ts++gm.ts.map (· + 2*fm.n)).map V.int)):=by rw[Zc,List.map_append]
  generalize upd H2 pe (.lst (fm.ts.map V.int++(gm.ts.map (· + 2*fm.n)).map V.int))=H3 at s3 e3 ⊢;refine⟨_,rfl,a,fm,rfl,hF.same s3,okF,fun r3 y3 H4 s4 hr3 e4 Q3=>?_⟩;have s04:=s3.trans s4;refine⟨_,rfl,b,_,3,_,rfl,rfl,SqT.of (s04 _ _ b1),rfl,_,rfl,_,_,rfl,rfl,hmul,_,rfl,_,_,rfl,rfl,hmul,g3,2*fm.n,2*fm.n,zg,gm.qs,rfl,s04 _ _ b4,b5.keep fun b xs e=>s04 _ _ e,by lia,fun r4 y4 H5 s5 hr4 e5 Q4=>?_⟩;have ly3:=Q3.length;have ly4:=Q4.length;rw[Zd8] at ly3;rw[List.length_map] at ly4;refine⟨r3,r4,_,_,rfl,rfl,s5 _ _ e4,e5,ZZ (by lia),fun pr hpr=>?_⟩;have hpr0:=(s04.trans s5).free hpr;have s6:Zk H5 (upd H5 pr (.lst (y3++y4))):=Zk.new hpr;have e6:(upd H5 pr (.lst (y3++y4))) pr=some (.lst (y3++y4)):=Zc;have np:pe≠pr:=Zx (s5 _ _ (s4 _ _ e3)) hpr;have Q6:QL (upd H5 pr (.lst (y3++y4))) (y3++y4) (Zeo fm++gm.qs.map (upQ (2*fm.n) (2*fm.n))):=QL.app (Q4.keep fun b xs e=>s6 _ _ e) (Q3.keep fun b xs e=>s6 _ _ (s5 _ _ e));generalize upd H5 pr (.lst (y3++y4))=H6 at s6 e6 Q6 ⊢;have s06:=(s04.trans s5).trans s6;have d6:=s6 _ _ (s5 _ _ (s4 _ _ e3));refine⟨_,rfl,a,_,2,_,rfl,rfl,SqT.of (s06 _ _ a1),rfl,f2,rfl,⟨_,SqT.of (s06 _ _ a3)⟩,Zen (K:=K) (a:=f2) (xs:=fm.ts.map V.int) (fun i σ H2=>∃v5 v6 v7 v8:Option V,∃ys:List V,σ =[some (.ref a),some (.ref b),some (.int fm.n),some (.ref pe),some (.ref pr),v5,v6,v7,v8]/\Zk H H2/\H2 pe=some (.lst ((fm.ts++gm.ts.map (· + 2*fm.n)).map V.int))/\H2 pr=some (.lst ys)/\QL H2 ys ((Zeo fm++gm.qs.map (upQ (2*fm.n) (2*fm.n)))++(fm.ts.take i).flatMap fun e=>(Zaf gm).map (mkT fm.n e)))
   ⟨none,none,none,none,y3++y4,rfl,s06,d6,e6,by rw[List.take_zero,List.flatMap_nil,List.append_nil];exact Q6⟩ ?_ ?_ ?_⟩
  ·rintro i σ H2 _ ⟨_,_,_,_,_,_,sm,_⟩;exact SqT.of (sm _ _ a3)
  ·rintro i x σ H2 hx ⟨v5,v6,v7,v8,ys,rfl,sm,k1,k2,hQ⟩;rw[List.getElem?_map] at hx;obtain⟨x0,hx0,rfl⟩:=Option.map_eq_some_iff.mp hx;have hil:=(List.getElem?_eq_some_iff.mp hx0).1;refine⟨_,rfl,b,gm,rfl,hG.same sm,okG,fun rs yt H3 s3 hrs ers T3=>⟨rs,rfl,⟨_,SqL.of ers⟩,?_⟩⟩;have nrs:rs≠pr:=fun z=>by rw[z,k2] at hrs;cases hrs
   have nrp:rs≠pe:=fun z=>by rw[z,k1] at hrs;cases hrs
   have tll:=T3.length;have stl:=Zbr gm;refine ZdU (K:=K) (a:=rs) (xs:=yt) (fun j σ H4=>∃v6 v7 v8:Option V,∃ys:List V,σ =[some (.ref a),some (.ref b),some (.int fm.n),some (.ref pe),some (.ref pr),some (.int x0),v6,v7,v8]/\Zk H H4/\H4 pe=some (.lst ((fm.ts++gm.ts.map (· + 2*fm.n)).map V.int))/\H4 rs=some (.lst yt)/\TL H4 yt (Zaf gm)/\H4 pr=some (.lst ys)/\QL H4 ys (((Zeo fm++gm.qs.map (upQ (2*fm.n) (2*fm.n)))++(fm.ts.take i).flatMap fun e=>(Zaf gm).map (mkT fm.n e))++((Zaf gm).take j).map (mkT fm.n x0)))
    ⟨v6,v7,v8,ys,rfl,sm.trans s3,s3 _ _ k1,ers,T3,s3 _ _ k2,by rw[List.take_zero,List.map_nil,List.append_nil];exact hQ.keep fun b xs e=>s3 _ _ e⟩ ?_ ?_ ?_
   ·rintro j σ H4 _ ⟨_,_,_,_,_,_,_,h,_⟩;exact SqL.of h
   ·rintro j y σ H4 hy ⟨v6,v7,v8,ys,rfl,sm,k1,k3,T4,k2,hQ⟩;obtain⟨p,t,e1,rfl,e2⟩:=T4.get j y hy;have hjl:=(List.getElem?_eq_some_iff.mp e1).1;refine⟨p,_,rfl,SqT.of e2,rfl,_,_,rfl,_,_,rfl,_,_,rfl,rfl,?_⟩;refine⟨_,rfl,.inl ⟨rfl,_,SqL.of k2⟩,_,rfl,_,rfl,_,_,rfl,rfl,_,rfl,_,rfl,_,_,rfl,rfl,hmul,_,rfl,_,_,rfl,rfl,_,rfl,_,_,rfl,rfl,hmul,_,rfl,_,_,rfl,rfl,by show(4:Nat)<=sizeLine;decide,fun tt htt=>?_⟩;have t4:Zk H4 (upd H4 tt (tq (mkT fm.n x0 t))):=Zk.new htt;have e7:(upd H4 tt (tq (mkT fm.n x0 t))) tt=some (tq (mkT fm.n x0 t)):=Zc;have hyl:ys.length<=40000:=by
     rw[hQ.length,List.length_append,List.length_append,List.length_append,Zd8,List.length_map,List.length_map,List.length_take];have h1:=ZdT (F:=fun e=>(Zaf gm).map (mkT fm.n e)) (k:=450) (fun e=>by rw[List.length_map];exact Nat.le_trans (Zbr gm) gql) (fm.ts.take i);rw[List.length_take] at h1;have h5:min i fm.ts.length*450<=64*450:=Nat.mul_le_mul (by lia) (Nat.le_refl _);lia
    refine⟨pr,_,_,rfl,rfl,t4 _ _ k2,ZW (by lia),?_⟩;refine⟨_,_,_,_,rfl,(sm.trans t4).upd_new hpr0,?_,?_,?_,Zc,?_⟩
    ·rw[ZR np];exact t4 _ _ k1
    ·rw[ZR nrs];exact t4 _ _ k3
    ·exact(T4.keep fun b xs e=>t4 _ _ e).keep (ZaD (t4 _ _ k2))
    ·rw[ZK e1,List.map_append,<- List.append_assoc];exact(QL.snoc e7 (hQ.keep fun b xs e=>t4 _ _ e)).keep (ZaD (t4 _ _ k2))
   ·rintro σ H4 ⟨v6,v7,v8,ys,rfl,sm,k1,k3,T4,k2,hQ⟩;refine⟨_,_,_,_,ys,rfl,sm,k1,k2,?_⟩;rw[tll,List.take_length] at hQ;rw[ZK hx0,Zer,<- List.append_assoc];exact hQ
  ·rintro σ H2 ⟨v5,v6,v7,v8,ys,rfl,sm,k1,k2,hQ⟩;rw[List.length_map,List.take_length] at hQ;refine⟨_,rfl,b,_,1,_,rfl,rfl,SqT.of (sm _ _ b1),rfl,g1,rfl,⟨_,SqT.of (sm _ _ b2)⟩,fun pc hpc=>ZbT (K:=K) (a:=g1) (p:=pc) (xs:=gm.hs.map V.int) (fun j zs σ H3=>∃v0:Option V,σ =[v0,some (.ref b)]/\Zk H2 H3/\H3 pc=some (.lst zs)/\zs=((gm.hs.take j).map fun x=>decide (x∈gm.ts)).map V.bl)
    ⟨none,rfl,Zk.new hpc,Zc,rfl⟩ ?_ ?_ ?_⟩
   ·rintro j zs σ H3 _ ⟨v0,_,sm3,h,_⟩;exact⟨SqT.of (sm3 _ _ (sm _ _ b2)),h⟩
   ·rintro j zs y σ H3 hj hy ⟨v0,rfl,sm3,h,rfl⟩;rw[List.getElem?_map] at hy;obtain⟨y0,hy0,rfl⟩:=Option.map_eq_some_iff.mp hy;have hjl:=(List.getElem?_eq_some_iff.mp hy0).1;have hhl:=okG.hl;refine⟨_,rfl,_,rfl,b,_,2,_,rfl,rfl,SqT.of (sm3 _ _ (sm _ _ b1)),rfl,g2,_,rfl,.inr (SqT.of (sm3 _ _ (sm _ _ b3))),rfl,Zey _,h,ZW (by rw[List.length_map,List.length_map,List.length_take];lia),CW.next hj ⟨_,rfl,sm3.upd_new hpc,Zc,?_⟩⟩
    rw[if_neg (by decide),Zgb,ZK hy0,List.map_append,List.map_append];rfl
   ·rintro zs σ H3 ⟨v0,rfl,sm3,h,rfl⟩;rw[List.length_map,List.take_length] at h;refine⟨pc,_,rfl,SqL.of h,_,rfl,?_⟩;have sm03:=sm.trans sm3;have k1':=sm3 _ _ k1;have k2':=sm3 _ _ k2;have hQ':=hQ.keep (H':=H3) fun b xs e=>sm3 _ _ e;refine Zdn (fun c=>?_) (fun c=>?_)
    ·refine⟨_,rfl,.inl ⟨rfl,_,SqL.of k1'⟩,_,rfl,a,_,2,_,rfl,rfl,SqT.of (sm03 _ _ a1),rfl,_,rfl,f2,fm.n,fm.ts,rfl,sm03 _ _ a3,by lia,fun r5 H6 s6 hr5 e5=>⟨pe,r5,_,_,rfl,rfl,s6 _ _ k1',e5,ZZ (by rw[List.length_map,List.length_map,List.length_map,List.length_append,List.length_map];lia),?_⟩⟩;refine hR _ _ ⟨pe,pr,_,_,_,_,ys,rfl,(sm03.trans s6).upd_new hpe0,?_,?_,(hQ'.keep fun b xs e=>s6 _ _ e).keep (ZaD (s6 _ _ k1'))⟩
     ·rw[Zc];unfold Zgl Zlj;rw[if_pos c,List.map_append (l₂ := fm.ts.map (· + fm.n))]
     ·rw[ZR np.symm];exact s6 _ _ k2'
    ·refine hR _ _ ⟨pe,pr,_,_,_,_,ys,rfl,sm03,?_,k2',hQ'⟩;unfold Zgl Zlj;rw[if_neg c,List.append_nil];exact k1'
 refine⟨_,(Zi (ZX (ZaC g_sorted_form Zam hr rfl (Za (Zg ZJ (Zg Z7 Zb (pv 2)) (ZG Zy (pv 1) Zb (fun _ _=>rfl))) (Za (Zr g_raised hr rfl (Za (ZG Zy (pv 0) Zb (fun _ _=>rfl)) (Za (pv 2) Zd))) (Za (pv 3) (Za (pv 4) Zd))))))),?_⟩;rintro σ0 H0 ⟨pe,pr,v5,v6,v7,v8,ys,rfl,sm,k1,k2,hQ⟩;refine⟨_,rfl,_,_,rfl,rfl,hmul,_,rfl,b,_,0,_,rfl,rfl,SqT.of (sm _ _ b1),rfl,_,_,rfl,rfl,?_⟩;refine⟨_,rfl,a,_,1,_,rfl,rfl,SqT.of (sm _ _ a1),rfl,_,rfl,f1,fm.n,fm.hs,rfl,sm _ _ a2,by lia,fun r1 H1 s1 hr1 e1=>?_⟩;refine⟨_,rfl,_,rfl,2*fm.n+gm.n,r1,pe,pr,_,_,ys,ZcH fm gm,rfl,Zkb (by lia) (by lia),SqL.of e1,by rw[List.length_map];lia,SqL.of (s1 _ _ k1),Zff okF okG,SqL.of (s1 _ _ k2),hQ.keep fun b xs e=>s1 _ _ e,hTL,fun ms h1 h2 h3 H' s'=>qe ms h1 h2 h3 _ ((sm.trans s1).trans s'),fun ms h1 h2 h3 h4 r h H' s' hf hI=>q ms h1 h2 h3 h4 r h H' ((sm.trans s1).trans s') hf hI⟩
set_option maxHeartbeats 4000000 in
theorem Ziz(B:∀x∈Zca,mg x=none)(g_outer_rules:Has P w K mg base "outer_rules" ["one"] 2 Zd4) (g_raised:Has P w K mg base "raised" ["kinds","by"] 1 Zb4) (g_started_rules:Has P w K mg base "started_rules" ["form"] 1 Zb0) (g_sorted_form:HasX P w K mg base "sorted_form" ["many","starts","ends","rules"] 1 (Zbn K X_TooMany))
  (F:Fun K "again" "again" s_again f fd):FnOk P w K mg base (CXE P w) 3 f fd ["one"] (ZdK X_TooMany):=by
 refine F.okX ZbR (fun vs H Q E h=>?_) (fun cdv A outer s H vs Q E hr h=>?_)
 ·obtain⟨a,fm,rfl,_⟩:=h;rfl
 obtain⟨a,fm,rfl,hF,okF,hAL,qe,q⟩:=h;obtain⟨f1,f2,f3,zf,a1,a2,a3,a4,a5⟩:=id hF;have n0:=okF.n0;have n8:=okF.n8;have ftl:=okF.tl;have fql:=okF.ql;have hkl:=Ze8 okF;have hmul:Zka 2 fm.n:=.inl ⟨by decide,by decide⟩;refine⟨_,(Ze (Zm (i:=1) ZbR.nd rfl (Or.inr rfl) (ZG Zy (pv 0) Zb (fun _ _=>rfl)))
  (Ze (Zm (i:=2) ZbR.nd rfl (Or.inl rfl) (Zr g_outer_rules hr rfl (Za (pv 0) Zd)))
  (Ze (ZbX PassesOwn.leaving rfl (Zcr (Zg ZaL (Zas (Za (Zg Z7 Zb (pv 1)) Zd)) (Zr g_raised hr rfl (Za (ZG Zy (pv 0) Zb (fun _ _=>rfl)) (Za (pv 1) Zd))))) (Zt (i:=3) ZbR.nd rfl (Or.inr rfl))
   (Zi (Zba (Ze2 PySem.F.plainAttrs_list PySem.F.slot_list_extend PySem.F.type_list_extend ZcV (pv 2) (Za (ZaQ (cl:=_) ["tag","inner","rest"] [("many",1),("kind",3)] (Zcr (Zr g_started_rules hr rfl (Za (pv 0) Zd))) (fun _ _ _ _=>(ZcR (K:=K) (n:=3) rfl rfl (ZC (Zt (i:=0) (show List.Nodup (["tag","inner","rest","many","kind"]:List Str) by decide) rfl (Or.inl rfl)) (ZC (Zt (i:=1) (show List.Nodup (["tag","inner","rest","many","kind"]:List Str) by decide) rfl (Or.inl rfl)) (ZC (Zt (i:=2) (show List.Nodup (["tag","inner","rest","many","kind"]:List Str) by decide) rfl (Or.inl rfl)) Zbl))))) (fun _ _ _ _=>(Zad (Za (pv 4) (Za (pv 0) (Za (pv 1) (Za (Zg ZJ (pv 3) (pv 2)) Zd)))))) rfl rfl (by decide) rfl (by decide) (Za1 (by(repeat' first|exact List.forall_mem_nil _|refine List.forall_mem_cons.mpr ⟨?_,?_⟩) <;> rfl)) (ZaE (by(repeat' first|exact List.forall_mem_nil _|refine List.forall_mem_cons.mpr ⟨?_,?_⟩) <;> first|(intro h;exact⟨_,rfl⟩)|(intro h;exact absurd h (by decide)))) (fun _=>by(repeat' first|exact List.forall_mem_nil _|refine List.forall_mem_cons.mpr ⟨?_,?_⟩) <;> exact⟨rfl,rfl,Or.inl rfl⟩) (fun _=>rfl)) Zd)))))
  (Ze (Zm (i:=4) ZbR.nd rfl (Or.inl rfl) (Zg ZaL (Zg ZaL (ZL Z2 rfl (B "list" (by decide)) ZaS (Za (ZG Zy (pv 0) Zb (fun _ _=>rfl)) Zd)) (Zr g_raised hr rfl (Za (ZG Zy (pv 0) Zb (fun _ _=>rfl)) (Za (pv 1) Zd)))) (Zas (Za (Zg Z7 Zb (pv 1)) Zd))))
  (Zi (ZX (ZaC g_sorted_form Zam hr rfl (Za (Zg ZJ (Zg Z7 Zb (pv 1)) Zb) (Za (Zas (Za (Zg Z7 Zb (pv 1)) Zd)) (Za (pv 4) (Za (pv 2) Zd))))))))))),?_⟩
 refine⟨_,rfl,a,_,0,_,rfl,rfl,SqT.of a1,rfl,?_⟩;refine⟨_,rfl,a,fm,rfl,hF,okF,fun pr y0 H1 s1 hpr e1 Q1=>?_⟩;refine⟨_,rfl,_,_,rfl,rfl,hmul,(by show(1:Nat)<=sizeLine;decide),fun l1 hl1=>?_⟩;have s2:Zk H1 (upd H1 l1 (.lst [.int (2*fm.n)])):=Zk.new hl1;have e2:(upd H1 l1 (.lst [.int (2*fm.n)])) l1=some (.lst [.int (2*fm.n)]):=Zc;generalize upd H1 l1 (.lst [.int (2*fm.n)])=H2 at s2 e2 ⊢;have s02:=s1.trans s2;refine⟨_,rfl,a,_,2,_,rfl,rfl,SqT.of (s02 _ _ a1),rfl,_,rfl,f2,fm.n,fm.ts,rfl,s02 _ _ a3,by lia,fun r2 H3 s3 hr2 e3=>?_⟩;refine⟨l1,r2,_,_,rfl,rfl,s3 _ _ e2,e3,ZZ (by rw[List.length_map,List.length_map];show 1+_<=_;lia),fun pn hpn=>?_⟩;have s4:Zk H3 (upd H3 pn (.lst ((Za0 fm).map V.int))):=Zk.new hpn;have e4:(upd H3 pn (.lst ((Za0 fm).map V.int))) pn=some (.lst ((Za0 fm).map V.int)):=Zc;have d1:=s3 _ _ (s2 _ _ e1);have npn:pn≠pr:=fun z=>by rw[z,d1] at hpn;cases hpn
 have s04:=(s02.trans s3).trans s4;refine⟨pn,rfl,⟨_,SqL.of e4⟩,?_⟩;refine ZdU (K:=K) (a:=pn) (xs:=(Za0 fm).map V.int) (fun i σ H2=>∃v3:Option V,∃ys:List V,σ =[some (.ref a),some (.int fm.n),some (.ref pr),v3,none]/\Zk H H2/\H2 pn=some (.lst ((Za0 fm).map V.int))/\H2 pr=some (.lst ys)/\QL H2 ys (Zeo fm++((Za0 fm).take i).flatMap fun k=>(Zaf fm).map (mkA fm.n k)))
  ⟨none,y0,rfl,s04,e4,s4 _ _ d1,by rw[List.take_zero,List.flatMap_nil,List.append_nil];exact Q1.keep fun b xs e=>s4 _ _ (s3 _ _ (s2 _ _ e))⟩ ?_ ?_ ?_
 ·rintro i σ H2 _ ⟨_,_,_,_,h,_⟩;exact SqL.of h
 ·rintro i x σ H5 hx ⟨v3,ys,rfl,sm,k1,k2,hQ⟩;rw[List.getElem?_map] at hx;obtain⟨x0,hx0,rfl⟩:=Option.map_eq_some_iff.mp hx;refine⟨_,rfl,.inl ⟨rfl,_,SqL.of k2⟩,?_⟩;refine⟨_,rfl,a,fm,rfl,hF.same sm,okF,fun rs yt H6 s6 hrs ers T6=>⟨rs,rfl,⟨_,SqL.of ers⟩,fun pc hpc=>?_⟩⟩;have tll:=T6.length;have stl:=Zbr fm;refine Zc8 (K:=K) (a:=rs) (p:=pc) (xs:=yt) (fun j zs σ H7=>∃v0 v1 v2:Option V,σ =[v0,v1,v2,some (.int fm.n),some (.int x0)]/\Zk H6 H7/\H7 pc=some (.lst zs)/\QL H7 zs (((Zaf fm).take j).map (mkA fm.n x0)))
   ⟨none,none,none,rfl,Zk.new hpc,Zc,.nil⟩ ?_ ?_ ?_
  ·rintro j zs σ H7 _ ⟨v0,v1,v2,_,sm7,h,_⟩;exact⟨SqL.of (sm7 _ _ ers),h⟩
  ·rintro j zs y σ H7 hj hy ⟨v0,v1,v2,rfl,sm7,h,hz⟩;obtain⟨p,t,e1,rfl,e2⟩:=T6.get j y hy;refine⟨p,_,rfl,SqT.of (sm7 _ _ e2),rfl,_,_,rfl,_,_,rfl,_,_,rfl,rfl,?_⟩;refine⟨_,rfl,_,rfl,_,rfl,_,rfl,_,rfl,_,_,rfl,rfl,by show(4:Nat)<=sizeLine;decide,fun tt htt=>?_⟩;have t8:Zk H7 (upd H7 tt (tq (mkA fm.n x0 t))):=Zk.new htt;refine⟨t8 _ _ h,ZW (by rw[hz.length,List.length_map,List.length_take];lia),CW.next hj ⟨_,_,_,rfl,(sm7.trans t8).upd_new hpc,Zc,?_⟩⟩
   rw[ZK e1,List.map_append];have hz2:QL (upd H7 tt (tq (mkA fm.n x0 t))) (zs ++ [.ref tt]) (((Zaf fm).take j).map (mkA fm.n x0) ++ [mkA fm.n x0 t]):=QL.snoc Zc (hz.keep fun b xs e=>t8 _ _ e);exact hz2.keep (ZaD (t8 _ _ h))
  ·rintro zs σ H7 ⟨v0,v1,v2,rfl,sm7,h,hz⟩;rw[tll,List.take_length] at hz;have hQ7:=hQ.keep (H':=H7) fun b xs e=>sm7 _ _ (s6 _ _ e);have k2':=sm7 _ _ (s6 _ _ k2);have ly:=hQ7.length;have lz:=hz.length;rw[List.length_map] at lz;have lb:=ZbO okF ((Za0 fm).take i) (by rw[List.length_take];lia);refine⟨pr,pc,_,_,rfl,rfl,k2',h,ZZ (by lia),?_⟩;refine⟨_,ys++zs,rfl,((sm.trans s6).trans sm7).upd_new hpr,?_,Zc,?_⟩
   ·rw[ZR npn];exact sm7 _ _ (s6 _ _ k1)
   ·rw[ZK hx0,Zer,<- List.append_assoc];exact(QL.app hz hQ7).keep (ZaD k2')
 ·rintro σ H5 ⟨v3,ys,rfl,sm,k1,k2,hQ⟩;rw[List.length_map,List.take_length] at hQ;have lb:=ZbO okF (Za0 fm) hkl;refine⟨_,rfl,a,_,2,_,rfl,rfl,SqT.of (sm _ _ a1),rfl,f2,_,rfl,.inr (SqT.of (sm _ _ a3)),fun l5 hl5=>?_⟩;have s6:Zk H5 (upd H5 l5 (.lst (fm.ts.map V.int))):=Zk.new hl5;have e6:(upd H5 l5 (.lst (fm.ts.map V.int))) l5=some (.lst (fm.ts.map V.int)):=Zc;generalize upd H5 l5 (.lst (fm.ts.map V.int))=H6 at s6 e6 ⊢;have s06:=sm.trans s6;refine⟨_,rfl,a,_,2,_,rfl,rfl,SqT.of (s06 _ _ a1),rfl,_,rfl,f2,fm.n,fm.ts,rfl,s06 _ _ a3,by lia,fun r7 H7 s7 hr7 e7=>?_⟩;refine⟨l5,r7,_,_,rfl,rfl,s7 _ _ e6,e7,ZZ (by rw[List.length_map,List.length_map,List.length_map];lia),fun p8 hp8=>?_⟩;have s8:Zk H7 (upd H7 p8 (.lst (fm.ts.map V.int++(fm.ts.map (· + fm.n)).map V.int))):=Zk.new hp8;have e8:(upd H7 p8 (.lst (fm.ts.map V.int++(fm.ts.map (· + fm.n)).map V.int))) p8=some (.lst ((fm.ts++fm.ts.map (· + fm.n)).map V.int)):=by rw[Zc,List.map_append]
  generalize upd H7 p8 (.lst (fm.ts.map V.int++(fm.ts.map (· + fm.n)).map V.int))=H8 at s8 e8 ⊢;refine⟨_,rfl,_,_,rfl,rfl,hmul,(by show(1:Nat)<=sizeLine;decide),fun l9 hl9=>?_⟩;have s9:Zk H8 (upd H8 l9 (.lst [.int (2*fm.n)])):=Zk.new hl9;have e9:(upd H8 l9 (.lst [.int (2*fm.n)])) l9=some (.lst [.int (2*fm.n)]):=Zc;generalize upd H8 l9 (.lst [.int (2*fm.n)])=H9 at s9 e9 ⊢;refine⟨p8,l9,_,_,rfl,rfl,s9 _ _ e8,e9,ZZ (by rw[List.length_map,List.length_append,List.length_map];show _+1<=_;lia),fun pe hpe=>?_⟩;have s10:Zk H9 (upd H9 pe (.lst ((fm.ts++fm.ts.map (· + fm.n)).map V.int ++ [.int (2*fm.n)]))):=Zk.new hpe;have e10:(upd H9 pe (.lst ((fm.ts++fm.ts.map (· + fm.n)).map V.int ++ [.int (2*fm.n)]))) pe=some (.lst ((Ze6 fm).map V.int)):=by
   rw[Zc];unfold Ze6;rw[List.map_append (l₂ :=[2*fm.n])];rfl
  generalize upd H9 pe (.lst ((fm.ts++fm.ts.map (· + fm.n)).map V.int ++ [.int (2*fm.n)]))=H10 at s10 e10 ⊢;have s510:=(((s6.trans s7).trans s8).trans s9).trans s10;refine⟨_,rfl,_,_,rfl,rfl,hmul,_,_,rfl,rfl,?_⟩;refine⟨_,rfl,_,_,rfl,rfl,hmul,(by show(1:Nat)<=sizeLine;decide),fun l11 hl11=>?_⟩;have s11:Zk H10 (upd H10 l11 (.lst ([2*fm.n].map V.int))):=Zk.new hl11;have e11:(upd H10 l11 (.lst ([2*fm.n].map V.int))) l11=some (.lst ([2*fm.n].map V.int)):=Zc;have s511:=s510.trans s11;have hte:(Ze6 fm).length<=900:=by
   unfold Ze6;rw[List.length_append,List.length_append,List.length_map];show _+1<=_;lia
  refine⟨_,rfl,_,rfl,2*fm.n+1,l11,pe,pr,[2*fm.n],_,ys,Zbo fm,rfl,Zkb (by lia) (by lia),SqL.of e11,(by show(1:Nat)<=900;decide),SqL.of (s11 _ _ e10),hte,SqL.of (s511 _ _ k2),hQ.keep fun b xs e=>s511 _ _ e,hAL,fun ms h1 h2 h3 H' s'=>qe ms h1 h2 h3 _ ((sm.trans s511).trans s'),fun ms h1 h2 h3 h4 r h H' s' hf hI=>q ms h1 h2 h3 h4 r h H' ((sm.trans s511).trans s') hf hI⟩
theorem Zcj(B:∀x∈Zca,mg x=none)(xc:XC K mg X_GroveError X_BadForm X_TooMany X_TooBig)(g_is_tag:Has P w K mg base "is_tag" ["text"] 1 Zfp) (F:Fun K "refuse_bad_tag" "refuse_bad_tag" Z6 f fd):FnOk P w K mg base (CXE P w) 2 f fd ["tag"] (Zem X_BadForm):=by
 refine F.okX Zcs (fun vs H Q E h=>?_) (fun cdv A outer s H vs Q E hr h=>?_)
 ·obtain⟨t,rfl,_⟩:=h;rfl
 obtain⟨t,rfl,b3,q,qe⟩:=h;have lr:=PySem.StrLaws.reprText_len t b3.2;have b4:=b3.1;refine⟨_,(Zi (ZaN (ZdF (Za7 (Zr g_is_tag hr rfl (Za (pv 0) Zd)) (fun _=>rfl)))
   (Zi (Zb5 xc.top_BadForm xc.ini_BadForm xc.n_BadForm Zam hr rfl (Za (ZeH (Zda (Zk0 (pv 0)) (Zda Zal Zja))) Zd)))
   Zak)),?_⟩
 refine⟨_,rfl,t,rfl,by lia,fun H3 s3=>?_⟩;refine⟨_,rfl,?_⟩;cases c:ZcW t with
 | true=>exact ZbF (q c _ s3)
 | false =>
  refine Zi3 ?_;have l1:(Str.ofString " is no tag").length=10:=by decide
  have l0:(Str.empty:Str).length=0:=rfl;refine⟨_,rfl,t,rfl,by rw[sizeLine_eq];lia,_,rfl,?_,_,rfl,?_,?_,?_⟩
  ·rw[strLen_append,sizeLine_eq];lia
  ·rw[strLen_append,strLen_append,sizeLine_eq];lia
  ·rw[strLen_append,strLen_append,sizeLine_eq];lia
  exact⟨(by show 1<=1000;decide),fun y hy=>qe c _ (s3.trans (Zk.new hy))⟩
set_option maxHeartbeats 1000000 in
theorem Zij(B:∀x∈Zca,mg x=none)(g_refuse_bad_tag:HasX P w K mg base "refuse_bad_tag" ["tag"] 2 (Zem X_BadForm)) (g_sorted_form:HasX P w K mg base "sorted_form" ["many","starts","ends","rules"] 1 (Zbn K X_TooMany)) (F:Fun K "inside" "inside" Zbw f fd):FnOk P w K mg base (CXE P w) 3 f fd ["tag","one"] (Zdd X_TooMany X_BadForm):=by
 refine F.okX ZcZ (fun vs H Q E h=>?_) (fun cdv A outer s H vs Q E hr h=>?_)
 ·obtain⟨t,a,fm,rfl,_⟩:=h;rfl
 obtain⟨t,a,fm,rfl,hsb,hF,okF,hl,qb,qq⟩:=h;obtain⟨f1,f2,f3,zf,a1,a2,a3,a4,a5⟩:=id hF;have n0:=okF.n0;have n8:=okF.n8;have fhl:=okF.hl;have ftl:=okF.tl;have fql:=okF.ql;have zfl:=a5.length;refine⟨_,(Ze (Zba (ZaC g_refuse_bad_tag Zam hr rfl (Za (pv 0) Zd)))
  (Ze (Zm (i:=2) ZcZ.nd rfl (Or.inr rfl) (ZG Zy (pv 1) Zb (fun _ _=>rfl)))
  (Ze (Zm (i:=3) ZcZ.nd rfl (Or.inl rfl) (Zg ZaL (ZL Z2 rfl (B "list" (by decide)) ZaS (Za (ZG Zy (pv 1) Zb (fun _ _=>rfl)) Zd)) (ZaQ (cl:=_) ["start"] [("tag",0),("many",2)] (Za8 (ZG Zy (pv 1) Zb (fun _ _=>rfl))) (fun _ _ _ _=>(Zt (i:=0) (show List.Nodup (["start","tag","many"]:List Str) by decide) rfl (Or.inl rfl))) (fun _ _ _ _=>(Zad (Za (pv 2) (Za (pv 1) (Za (pv 0) (Za (Zg ZJ (pv 2) Zb) Zd)))))) rfl rfl (by decide) rfl (by decide) (Za1 (by(repeat' first|exact List.forall_mem_nil _|refine List.forall_mem_cons.mpr ⟨?_,?_⟩) <;> rfl)) (ZaE (by(repeat' first|exact List.forall_mem_nil _|refine List.forall_mem_cons.mpr ⟨?_,?_⟩) <;> first|(intro h;exact⟨_,rfl⟩)|(intro h;exact absurd h (by decide)))) (fun _=>by(repeat' first|exact List.forall_mem_nil _|refine List.forall_mem_cons.mpr ⟨?_,?_⟩) <;> exact⟨rfl,rfl,Or.inl rfl⟩) (fun _=>rfl))))
  (Zi (ZX (ZaC g_sorted_form Zam hr rfl (Za (Zg ZJ (pv 2) Zb) (Za (Zas (Za (pv 2) Zd)) (Za (Zg ZaL (ZL Z2 rfl (B "list" (by decide)) ZaS (Za (ZG Zy (pv 1) Zb (fun _ _=>rfl)) Zd)) (Zas (Za (Zg ZJ (pv 2) Zb) Zd))) (Za (pv 3) Zd)))))))))),?_⟩
 refine⟨_,rfl,t,rfl,hsb,fun ct H1 s1=>?_,fun ct H1 s1=>qb ct H1 s1⟩;obtain⟨qe,q⟩:=qq ct;refine⟨_,rfl,a,_,0,_,rfl,rfl,SqT.of (s1 _ _ a1),rfl,?_⟩;refine⟨_,rfl,a,_,3,_,rfl,rfl,SqT.of (s1 _ _ a1),rfl,f3,_,rfl,.inr (SqT.of (s1 _ _ a4)),fun l2 hl2=>?_⟩;have s2:Zk H (upd H1 l2 (.lst zf)):=s1.trans (Zk.new hl2);have e2:(upd H1 l2 (.lst zf)) l2=some (.lst zf):=Zc;generalize upd H1 l2 (.lst zf)=H2 at s2 e2 ⊢;refine⟨_,rfl,a,_,1,_,rfl,rfl,SqT.of (s2 _ _ a1),rfl,f1,rfl,⟨_,SqT.of (s2 _ _ a2)⟩,fun pl hpl=>ZbT (K:=K) (a:=f1) (p:=pl) (xs:=fm.hs.map V.int) (fun i zs σ H3=>∃v0:Option V,σ =[v0,some (.str t),some (.int fm.n)]/\Zk H2 H3/\H3 pl=some (.lst zs)/\QL H3 zs ((fm.hs.take i).map fun s=>((fm.n,t,s,fm.n+1):Srd.Qd)))
  ⟨none,rfl,Zk.new hpl,Zc,.nil⟩ ?_ ?_ ?_⟩
 ·rintro i zs σ H3 _ ⟨v0,_,sm,hp2,_⟩;exact⟨SqT.of (sm _ _ (s2 _ _ a2)),hp2⟩
 ·rintro i zs x σ H3 hi hx ⟨v0,rfl,sm,hp2,hz⟩;rw[List.getElem?_map] at hx;obtain⟨y0,hy0,rfl⟩:=Option.map_eq_some_iff.mp hx;refine⟨_,rfl,_,rfl,_,rfl,_,rfl,_,_,rfl,rfl,by show(4:Nat)<=sizeLine;decide,fun u hu=>?_⟩;have s4:Zk H3 (upd H3 u (tq (fm.n,t,y0,fm.n+1))):=Zk.new hu;refine⟨s4 _ _ hp2,ZW (by rw[hz.length,List.length_map,List.length_take];lia),CW.next hi ⟨_,rfl,(sm.trans s4).upd_new hpl,Zc,?_⟩⟩
  rw[ZK hy0,List.map_append];have hz2:QL (upd H3 u (tq (fm.n,t,y0,fm.n+1))) (zs ++ [.ref u]) (((fm.hs.take i).map fun s=>((fm.n,t,s,fm.n+1):Srd.Qd)) ++ [(fm.n,t,y0,fm.n+1)]):=QL.snoc Zc (hz.keep fun b xs e=>s4 _ _ e);exact hz2.keep (ZaD (s4 _ _ hp2))
 rintro zs σ H3 ⟨v0,rfl,sm,hp2,hz⟩;rw[List.length_map,List.take_length] at hz;have hzl:=hz.length;rw[List.length_map] at hzl;refine⟨l2,pl,_,_,rfl,rfl,sm _ _ e2,hp2,ZZ (by lia),fun pr hpr=>?_⟩;have s4:Zk H3 (upd H3 pr (.lst (zf++zs))):=Zk.new hpr;have e4:(upd H3 pr (.lst (zf++zs))) pr=some (.lst (zf++zs)):=Zc;have Q4:QL (upd H3 pr (.lst (zf++zs))) (zf++zs) (Zfu fm t):=QL.app (hz.keep fun b xs e=>s4 _ _ e) (a5.keep fun b xs e=>s4 _ _ (sm _ _ (s2 _ _ e)));generalize upd H3 pr (.lst (zf++zs))=H4 at s4 e4 Q4 ⊢;have s04:=(s2.trans sm).trans s4;refine⟨_,rfl,_,_,rfl,rfl,?_⟩;refine⟨_,rfl,by show(1:Nat)<=sizeLine;decide,fun u1 hu1=>?_⟩;have s5:Zk H4 (upd H4 u1 (.lst ([fm.n].map V.int))):=Zk.new hu1;have e5:(upd H4 u1 (.lst ([fm.n].map V.int))) u1=some (.lst ([fm.n].map V.int)):=Zc;generalize hH5:upd H4 u1 (.lst ([fm.n].map V.int))=H5 at s5 e5;have hH5':upd H4 u1 (.lst [V.int fm.n])=H5:=hH5;rw[hH5'];have s05:=s04.trans s5;refine⟨_,rfl,a,_,2,_,rfl,rfl,SqT.of (s05 _ _ a1),rfl,f2,_,rfl,.inr (SqT.of (s05 _ _ a3)),fun l6 hl6=>?_⟩;have s6:Zk H5 (upd H5 l6 (.lst (fm.ts.map V.int))):=Zk.new hl6;have e6:(upd H5 l6 (.lst (fm.ts.map V.int))) l6=some (.lst (fm.ts.map V.int)):=Zc;generalize upd H5 l6 (.lst (fm.ts.map V.int))=H6 at s6 e6 ⊢;refine⟨_,rfl,_,_,rfl,rfl,by show(1:Nat)<=sizeLine;decide,fun u7 hu7=>?_⟩;have s7:Zk H6 (upd H6 u7 (.lst [V.int (fm.n+1)])):=Zk.new hu7;have e7:(upd H6 u7 (.lst [V.int (fm.n+1)])) u7=some (.lst [V.int (fm.n+1)]):=Zc;generalize upd H6 u7 (.lst [V.int (fm.n+1)])=H7 at s7 e7 ⊢;refine⟨l6,u7,_,_,rfl,rfl,s7 _ _ e6,e7,ZZ (by rw[List.length_map];show _+1<=_;lia),fun l8 hl8=>?_⟩;have s8:Zk H7 (upd H7 l8 (.lst (fm.ts.map V.int ++ [V.int (fm.n+1)]))):=Zk.new hl8;have e8:(upd H7 l8 (.lst (fm.ts.map V.int ++ [V.int (fm.n+1)]))) l8=some (.lst ((Zkj fm).map V.int)):=by
  rw[Zc,Zkj,List.map_append];rfl
 generalize upd H7 l8 (.lst (fm.ts.map V.int ++ [V.int (fm.n+1)]))=H8 at s8 e8 ⊢;have s58:=(s6.trans s7).trans s8;refine⟨_,rfl,fm.n+2,u1,l8,pr,[fm.n],Zkj fm,_,Zfu fm t,rfl,Zkb (by lia) (by lia),SqL.of (s58 _ _ e5),by show(1:Nat)<=900;decide,SqL.of e8,?_,SqL.of (s58 _ _ (s5 _ _ e4)),Q4.keep fun b xs e=>s58 _ _ (s5 _ _ e),hl,fun ms h1 h2 h3 H' s'=>qe ms h1 h2 h3 _ ((s05.trans s58).trans s'),fun ms h1 h2 h3 h4 r h H' s' hf hI=>q ms h1 h2 h3 h4 r h H' ((s05.trans s58).trans s') hf hI⟩;rw[Zkj,List.length_append,List.length_singleton];lia
set_option maxHeartbeats 1000000 in
theorem Zec(B:∀x∈Zca,mg x=none)(g_refuse_bad_tag:HasX P w K mg base "refuse_bad_tag" ["tag"] 2 (Zem X_BadForm)) (g_sorted_form:HasX P w K mg base "sorted_form" ["many","starts","ends","rules"] 1 (Zbn K X_TooMany)) (F:Fun K "everything" "everything" Zaz f fd):FnOk P w K mg base (CXE P w) 3 f fd ["tags"] (ZdM K X_TooMany X_BadForm):=by
 refine F.okX ZbV (fun vs H Q E h=>?_) (fun cdv A outer s H vs Q E hr h=>?_)
 ·obtain⟨a,ts,rfl,_⟩:=h;rfl
 obtain⟨a,ts,rfl,hA,htl,hsb,qb,qq⟩:=h;refine⟨_,(Ze (ZbX PassesOwn.leaving rfl (Zcr (pv 0)) (Zt (i:=1) ZbV.nd rfl (Or.inl rfl))
   (Zi (Zba (ZaC g_refuse_bad_tag Zam hr rfl (Za (pv 1) Zd)))))
  (Zi (ZX (ZaC g_sorted_form Zam hr rfl (Za Zb (Za (Zas (Za Zb Zd)) (Za (Zas (Za Zb Zd)) (Za (ZaQ (cl:=[]) ["tag"] [] (Zcr (pv 0)) (fun _ _ _ _=>(Zt (i:=0) nd1 rfl (Or.inl rfl))) (fun _ _ _ _=>(Zad (Za Zb (Za (pv 0) (Za Zb (Za Zb Zd)))))) rfl rfl (by decide) rfl (by decide) (fun _ _ h=>nomatch h) (Zcy (by decide)) (fun _ _ h=>nomatch h) (fun _=>rfl)) Zd)))))))),?_⟩
 refine⟨_,rfl,a,rfl,⟨_,hA⟩,ZdU (K:=K) (a:=a) (xs:=ts.map V.str) (fun i σ H1=>∃v1:Option V,σ =[some (.ref a),v1]/\Zk H H1/\∀t∈ts.take i,ZcW t=true) ⟨none,rfl,Zk.refl _,fun _ h=>nomatch h⟩ ?_ ?_ ?_⟩
 ·rintro i σ H1 _ ⟨_,_,sm,_⟩;exact sm.seq hA
 ·rintro i x σ H1 hx ⟨v1,rfl,sm,hgd⟩;rw[List.getElem?_map] at hx;obtain⟨y,hy,rfl⟩:=Option.map_eq_some_iff.mp hx;have hm:=List.mem_of_getElem? hy;refine⟨_,rfl,y,rfl,hsb y hm,fun ct H2 s2=>⟨_,rfl,sm.trans s2,fun t ht=>?_⟩,fun ct H2 s2=>qb ⟨y,hm,ct⟩ _ (sm.trans s2)⟩;rw[ZK hy] at ht;rcases List.mem_append.mp ht with ht|ht
  ·exact hgd t ht
  ·rw[List.mem_singleton.mp ht];exact ct
 rintro σ H1 ⟨v1,rfl,s1,hgd⟩;rw[List.length_map,List.take_length] at hgd;obtain⟨qe,q⟩:=qq hgd;refine⟨by show(1:Nat)<=sizeLine;decide,fun u2 hu2=>?_⟩;have s2:Zk H1 (upd H1 u2 (.lst [V.int 0])):=Zk.new hu2;have e2:(upd H1 u2 (.lst [V.int 0])) u2=some (.lst [V.int 0]):=Zc;generalize upd H1 u2 (.lst [V.int 0])=H2 at s2 e2 ⊢;refine⟨by show(1:Nat)<=sizeLine;decide,fun u3 hu3=>?_⟩;have s3:Zk H2 (upd H2 u3 (.lst [V.int 0])):=Zk.new hu3;have e3:(upd H2 u3 (.lst [V.int 0])) u3=some (.lst [V.int 0]):=Zc;generalize upd H2 u3 (.lst [V.int 0])=H3 at s3 e3 ⊢;have s03:=(s1.trans s2).trans s3;refine⟨_,rfl,a,rfl,⟨_,s03.seq hA⟩,fun pl hpl=>Zc8 (K:=K) (a:=a) (p:=pl) (xs:=ts.map V.str) (fun i zs σ H4=>∃v0:Option V,σ =[v0]/\Zk H3 H4/\H4 pl=some (.lst zs)/\QL H4 zs (evQ (ts.take i)))
  ⟨none,rfl,Zk.new hpl,Zc,.nil⟩ ?_ ?_ ?_⟩
 ·rintro i zs σ H4 _ ⟨v0,_,sm,hp2,_⟩;exact⟨(s03.trans sm).seq hA,hp2⟩
 ·rintro i zs x σ H4 hi hx ⟨v0,rfl,sm,hp2,hz⟩;rw[List.getElem?_map] at hx;obtain⟨y,hy,rfl⟩:=Option.map_eq_some_iff.mp hx;refine⟨_,rfl,by show(4:Nat)<=sizeLine;decide,fun u hu=>?_⟩;have s5:Zk H4 (upd H4 u (tq (0,y,0,0))):=Zk.new hu;refine⟨s5 _ _ hp2,ZW (by rw[hz.length,evQ,List.length_map,List.length_take];lia),CW.next hi ⟨_,rfl,(sm.trans s5).upd_new hpl,Zc,?_⟩⟩
  rw[ZK hy,evQ,List.map_append];have hz2:QL (upd H4 u (tq (0,y,0,0))) (zs ++ [.ref u]) (evQ (ts.take i) ++ [(0,y,0,0)]):=QL.snoc Zc (hz.keep fun b xs e=>s5 _ _ e);exact hz2.keep (ZaD (s5 _ _ hp2))
 rintro zs σ H4 ⟨v0,rfl,sm,hp2,hz⟩;rw[List.length_map,List.take_length] at hz;have hl:(evQ ts).length<=900:=by
  rw[evQ,List.length_map];lia
 refine⟨1,u2,u3,pl,[0],[0],_,evQ ts,rfl,Zkb (by decide) (by decide),SqL.of (sm _ _ (s3 _ _ e2)),by show(1:Nat)<=900;decide,SqL.of (sm _ _ e3),by show(1:Nat)<=900;decide,SqL.of hp2,hz,hl,fun ms h1 h2 h3 H' s'=>qe ms h1 h2 h3 _ ((s03.trans sm).trans s'),fun ms h1 h2 h3 h4 r h H' s' hf hI=>q ms h1 h2 h3 h4 r h H' ((s03.trans sm).trans s') hf hI⟩
theorem ZiQ{K:PySem.W.Frag}{a b p:Addr}{xs ys:List V}{g:TG}{te:TE}{R:Hp->Prop}{σ0:St}{H0:Hp}(hlen:xs.length=ys.length)(Pv:Nat->List V->St->Hp->Prop)(h0:Pv 0 [] σ0 H0)
  (hl:∀i zs σ H,i<=xs.length->Pv i zs σ H->SqL K H a xs/\SqL K H b ys/\H p=some (.lst zs))
  (hs:∀i zs x y t σ H,i<xs.length->xs[i]?= some x->ys[i]?= some y->Pv i zs σ H->H t=none->g (.ref t) σ (upd H t (.tup [x,y])) fun σ3 H4=>te σ3 H4 fun v H5=>H5 p=some (.lst zs)/\zs.length<sizeLine/\∃m',m'<xs.length-i/\CW xs.length Pv (i+1) m' (zs ++ [v]) σ3 (upd H5 p (.lst (zs ++ [v]))))
  (hd:∀zs σ H,Pv xs.length zs σ H->R H) :
  ∃W:Nat->Nat->List V->St->Hp->Prop,(∃m,W 0 m [] σ0 H0)/\∀i m zs σc H2,W i m zs σc H2->H2 p=some (.lst zs)/\(((Itz K a b).stop i H2/\R H2)\/((Itz K a b).go i H2/\∀x H3,(Itz K a b).yld i H2 x H3->g x σc H3 fun σ3 H4=>te σ3 H4 fun v H5 =>
   H5 p=some (.lst zs)/\zs.length<sizeLine/\∃m',m'<m/\W (i+1) m' (zs ++ [v]) σ3 (upd H5 p (.lst (zs ++ [v]))))):=by
 refine⟨CW xs.length Pv,⟨_,rfl,Nat.zero_le _,h0⟩,?_⟩;rintro i m zs σ H ⟨rfl,hi,hp⟩;obtain⟨h1,h2,h3⟩:=hl i zs σ H hi hp;refine⟨h3,?_⟩;by_cases hlt:i<xs.length
 ·refine .inr ⟨⟨xs,xs[i],ys,ys[i]'(by lia),h1,List.getElem?_eq_getElem hlt,h2,List.getElem?_eq_getElem (by lia)⟩,?_⟩;rintro x H3 ⟨t,ht,rfl,hx⟩;obtain⟨x,y,e1,e2,rfl⟩:=hx xs ys h1 h2;exact hs i zs x y t σ H hlt e1 e2 hp ht
 ·have e:i=xs.length:=by lia
  subst e;exact .inl ⟨⟨xs,ys,h1,h2,Nat.le_refl _⟩,hd zs σ H hp⟩
def Zd6(K:PySem.W.Frag):Sp:=fun vs H Q _=>∃(a b:Addr)(n x1 x2 x3 y1 y2 y3:Int),vs=[.ref a,.ref b,.int n]/\0<=n/\n<=64/\H a=some (.lst [.int x1,.int x2,.int x3])/\H b=some (.lst [.int y1,.int y2,.int y3]) /\
 ∀(r:Addr)(H':Hp),Zk H H'->H r=none->H' r=some (.lst [.int (ZaT n x1 y1),.int (ZaT n x2 y2),.int (ZaT n x3 y3)])->Q (.ref r) H'
def ZbJ(K:PySem.W.Frag):Sp:=fun vs H Q _=>∃(a b:Addr)(n:Int)(xs ys:List Int),vs=[.ref a,.ref b,.int n]/\0<=n/\n<=64/\H a=some (.tup (xs.map V.int))/\H b=some (.tup (ys.map V.int))/\xs.length<=64/\ys.length<=64 /\
 ∀(r:Addr)(H':Hp),Zk H H'->H r=none->H' r=some (.lst ((ZcS n xs ys).map V.int))->Q (.ref r) H'
theorem Zgp(n:Int)(xs:List Int)(x:Int)(ys:List Int):ZcS n (xs ++ [x]) ys=ZcS n xs ys++ys.map (ZaT n x):=by
 unfold ZcS;rw[List.flatMap_append];simp
theorem Zc0(n:Int)(ys:List Int):∀xs:List Int,(ZcS n xs ys).length=xs.length*ys.length
 | []=>by simp[ZcS]
 | x::xs=>by
  have:=Zc0 n ys xs;unfold ZcS at *;rw[List.flatMap_cons,List.length_append,this,List.length_map,List.length_cons,Nat.succ_mul,Nat.add_comm]
set_option maxHeartbeats 1000000 in
theorem Zhj(B:∀x∈Zca,mg x=none)(F:Fun K "paired" "paired" Zbq f fd):FnOk P w K mg base CX0 1 f fd ["kinds","mates","many"] (Zd6 K):=by
 refine F.ok Zip (fun vs H Q E h=>?_) (fun cdv A outer s H vs Q E hr h=>?_)
 ·obtain⟨a,b,n,x1,x2,x3,y1,y2,y3,rfl,_⟩:=h;rfl
 obtain⟨a,b,n,x1,x2,x3,y1,y2,y3,rfl,n0,n64,ha,hb,q⟩:=h;refine⟨_,(Zi (ZX (ZaQ (cl:=_) ["kind","mate"] [("many",2)] (ZkW rfl (B "zip" (by decide)) (Za (pv 0) (Za (pv 1) Zd))) (fun _ _ _ _=>(ZcR (K:=K) (n:=2) rfl rfl (ZC (Zt (i:=0) (show List.Nodup (["kind","mate","many"]:List Str) by decide) rfl (Or.inl rfl)) (ZC (Zt (i:=1) (show List.Nodup (["kind","mate","many"]:List Str) by decide) rfl (Or.inl rfl)) Zbl)))) (fun _ _ _ _=>(Zg ZJ (Zg Z7 (pv 0) (pv 2)) (pv 1))) rfl rfl (by decide) rfl (by decide) (Za1 (by(repeat' first|exact List.forall_mem_nil _|refine List.forall_mem_cons.mpr ⟨?_,?_⟩) <;> rfl)) (ZaE (by(repeat' first|exact List.forall_mem_nil _|refine List.forall_mem_cons.mpr ⟨?_,?_⟩) <;> first|(intro h;exact⟨_,rfl⟩)|(intro h;exact absurd h (by decide)))) (fun _=>by(repeat' first|exact List.forall_mem_nil _|refine List.forall_mem_cons.mpr ⟨?_,?_⟩) <;> exact⟨rfl,rfl,Or.inl rfl⟩) (fun _=>rfl)))),?_⟩
 refine⟨_,rfl,_,rfl,a,b,_,_,rfl,SqL.of ha,SqL.of hb,fun pl hpl=>ZiQ (K:=K) (a:=a) (b:=b) (p:=pl) (xs:=[.int x1,.int x2,.int x3]) (ys:=[.int y1,.int y2,.int y3]) rfl (fun i zs σ H2=>∃v0 v1:Option V,σ =[v0,v1,some (.int n)]/\Zk H H2/\H2 pl=some (.lst zs)/\zs=[V.int (ZaT n x1 y1),.int (ZaT n x2 y2),.int (ZaT n x3 y3)].take i)
  ⟨none,none,rfl,Zk.new hpl,Zc,rfl⟩ ?_ ?_ ?_⟩
 ·rintro i zs σ H2 _ ⟨v0,v1,_,sm,hp2,_⟩;exact⟨SqL.of (sm _ _ ha),SqL.of (sm _ _ hb),hp2⟩
 ·rintro i zs x y t σ H2 hi hx hy ⟨v0,v1,rfl,sm,hp2,rfl⟩ ht;have s2:Zk H2 (upd H2 t (.tup [x,y])):=Zk.new ht;obtain⟨x0,y0,rfl,rfl,e⟩:∃x0 y0:Int,x=.int x0/\y=.int y0 /\ [V.int (ZaT n x1 y1),.int (ZaT n x2 y2),.int (ZaT n x3 y3)].take (i+1)=[V.int (ZaT n x1 y1),.int (ZaT n x2 y2),.int (ZaT n x3 y3)].take i ++ [V.int (ZaT n x0 y0)]:=by
   match i,hi with
   | 0,_=>injection hx with hx;injection hy with hy;exact⟨_,_,hx.symm,hy.symm,rfl⟩
   | 1,_=>injection hx with hx;injection hy with hy;exact⟨_,_,hx.symm,hy.symm,rfl⟩
   | 2,_=>injection hx with hx;injection hy with hy;exact⟨_,_,hx.symm,hy.symm,rfl⟩
  refine⟨t,_,rfl,SqT.of Zc,rfl,_,_,rfl,_,_,rfl,rfl,?_⟩;refine⟨_,rfl,_,rfl,_,_,rfl,rfl,.inr ⟨by lia,by lia⟩,_,rfl,_,_,rfl,rfl,s2 _ _ hp2,ZW (by rw[List.length_take];show min i 3<=_;lia),CW.next hi ⟨_,_,rfl,(sm.trans s2).upd_new hpl,Zc,?_⟩⟩
  rw[e];rfl
 ·rintro zs σ H2 ⟨v0,v1,rfl,sm,hp2,rfl⟩;exact q pl H2 sm hpl hp2
set_option maxHeartbeats 1000000 in
theorem ZdJ(B:∀x∈Zca,mg x=none)(F:Fun K "all_paired" "all_paired" ZaB f fd):FnOk P w K mg base CX0 1 f fd ["kinds","mates","many"] (ZbJ K):=by
 refine F.ok Za5 (fun vs H Q E h=>?_) (fun cdv A outer s H vs Q E hr h=>?_)
 ·obtain⟨a,b,n,xs,ys,rfl,_⟩:=h;rfl
 obtain⟨a,b,n,xs,ys,rfl,n0,n64,ha,hb,hlx,hly,q⟩:=h;refine⟨_,(Ze (Zm (i:=3) Za5.nd rfl (Or.inl rfl) (Zas Zd))
  (Ze (ZbX PassesOwn.never rfl (Za8 (pv 0)) (Zt (i:=4) Za5.nd rfl (Or.inr rfl))
   (Zi (Zba (Ze2 PySem.F.plainAttrs_list PySem.F.slot_list_extend PySem.F.type_list_extend ZcV (pv 3) (Za (ZaQ (cl:=_) ["mate"] [("many",2),("kind",4)] (Za8 (pv 1)) (fun _ _ _ _=>(Zt (i:=0) (show List.Nodup (["mate","many","kind"]:List Str) by decide) rfl (Or.inl rfl))) (fun _ _ _ _=>(Zg ZJ (Zg Z7 (pv 2) (pv 1)) (pv 0))) rfl rfl (by decide) rfl (by decide) (Za1 (by(repeat' first|exact List.forall_mem_nil _|refine List.forall_mem_cons.mpr ⟨?_,?_⟩) <;> rfl)) (ZaE (by(repeat' first|exact List.forall_mem_nil _|refine List.forall_mem_cons.mpr ⟨?_,?_⟩) <;> first|(intro h;exact⟨_,rfl⟩)|(intro h;exact absurd h (by decide)))) (fun _=>by(repeat' first|exact List.forall_mem_nil _|refine List.forall_mem_cons.mpr ⟨?_,?_⟩) <;> exact⟨rfl,rfl,Or.inl rfl⟩) (fun _=>rfl)) Zd)))))
  (Zi (ZX (pv 3))))),?_⟩
 refine⟨by decide,fun pl hpl=>?_⟩;have s1:Zk H (upd H pl (.lst [])):=Zk.new hpl;refine⟨_,rfl,a,rfl,⟨_,SqT.of (s1 _ _ ha)⟩,Zen (K:=K) (a:=a) (xs:=xs.map V.int) (fun i σ H2=>∃v4:Option V,σ =[some (.ref a),some (.ref b),some (.int n),some (.ref pl),v4]/\Zk H H2/\H2 pl=some (.lst ((ZcS n (xs.take i) ys).map V.int)))
  ⟨none,rfl,s1,Zc⟩ ?_ ?_ ?_⟩
 ·rintro i σ H2 _ ⟨v4,_,sm,_⟩;exact SqT.of (sm _ _ ha)
 ·rintro i x σ H2 hx ⟨v4,rfl,sm,hp2⟩;rw[List.getElem?_map] at hx;obtain⟨x0,hx0,rfl⟩:=Option.map_eq_some_iff.mp hx;refine⟨_,rfl,.inl ⟨rfl,_,SqL.of hp2⟩,?_⟩;refine⟨_,rfl,b,rfl,⟨_,SqT.of (sm _ _ hb)⟩,fun pc hpc=>ZbT (K:=K) (a:=b) (p:=pc) (xs:=ys.map V.int) (fun j zs σ H3=>∃v0:Option V,σ =[v0,some (.int n),some (.int x0)]/\Zk H2 H3/\H3 pc=some (.lst zs)/\zs=((ys.take j).map (ZaT n x0)).map V.int)
   ⟨none,rfl,Zk.new hpc,Zc,rfl⟩ ?_ ?_ ?_⟩
  ·rintro j zs σ H3 _ ⟨v0,_,sm3,h,_⟩;exact⟨SqT.of (sm3 _ _ (sm _ _ hb)),h⟩
  ·rintro j zs y σ H3 hj hy ⟨v0,rfl,sm3,h,rfl⟩;rw[List.getElem?_map] at hy;obtain⟨y0,hy0,rfl⟩:=Option.map_eq_some_iff.mp hy;refine⟨_,rfl,_,rfl,_,_,rfl,rfl,.inr ⟨by lia,by lia⟩,_,rfl,_,_,rfl,rfl,h,ZW (by rw[List.length_map,List.length_map,List.length_take];lia),CW.next hj ⟨_,rfl,sm3.upd_new hpc,Zc,?_⟩⟩
   rw[ZK hy0,List.map_append,List.map_append];rfl
  ·rintro zs σ H3 ⟨v0,rfl,sm3,h,rfl⟩;rw[List.length_map,List.take_length] at h;refine⟨pl,pc,_,_,rfl,rfl,sm3 _ _ hp2,h,?_,?_⟩
   ·rw[List.length_map,List.length_map,List.length_map,Zc0,List.length_take];have:min i xs.length*ys.length<=64*64:=Nat.mul_le_mul (by lia) hly;exact ZZ (by lia)
   ·refine⟨_,rfl,(sm.trans sm3).upd_new hpl,?_⟩;rw[Zc,ZK hx0,Zgp,List.map_append]
 ·rintro σ H2 ⟨v4,rfl,sm,hp2⟩;rw[List.length_map,List.take_length] at hp2;exact⟨_,rfl,q pl H2 sm hpl hp2⟩
theorem ZcT(n:Int)(ys:List Srd.Qd):∀xs:List Srd.Qd,(Zay n xs ys).length<=xs.length*ys.length
 | []=>by simp[Zay]
 | x::xs=>by
  have:=ZcT n ys xs;have h2:=List.length_filter_le (fun b:Srd.Qd=>decide (x.2.1=b.2.1)) ys;unfold Zay at *;rw[List.flatMap_cons,List.length_append,List.length_map,List.length_cons,Nat.succ_mul];lia
theorem Zgo(n:Int)(xs:List Srd.Qd)(x:Srd.Qd)(ys:List Srd.Qd):Zay n (xs ++ [x]) ys=Zay n xs ys++Zay n [x] ys:=by
 unfold Zay;rw[List.flatMap_append]
theorem ZeZ(n:Int)(x:Srd.Qd)(ys:List Srd.Qd)(y:Srd.Qd):Zay n [x] (ys ++ [y])=Zay n [x] ys++if x.2.1=y.2.1 then [ZdW n x y] else []:=by
 unfold Zay;simp only[List.flatMap_cons,List.flatMap_nil,List.append_nil,List.filter_append,List.map_append];by_cases e:x.2.1=y.2.1
 ·rw[if_pos e];simp[e]
 ·rw[if_neg e];simp[e]
set_option maxHeartbeats 2000000 in
theorem ZhP(B:∀x∈Zca,mg x=none)(Cc1:∃t:Tok,mg "MOST_KINDS" = some (.int 64 t)) (xc:XC K mg X_GroveError X_BadForm X_TooMany X_TooBig) (g_paired:Has P w K mg base "paired" ["kinds","mates","many"] 1 (Zd6 K)) (g_sorted_form:HasX P w K mg base "sorted_form" ["many","starts","ends","rules"] 1 (Zbn K X_TooMany)) (g_all_paired:Has P w K mg base "all_paired" ["kinds","mates","many"] 1 (ZbJ K))
  (F:Fun K "common" "common" Zbx f fd):FnOk P w K mg base (CXE P w) 2 f fd ["one","other"] (Zdi X_TooMany):=by
 refine F.okX Zat (fun vs H Q E h=>?_) (fun cdv A outer s H vs Q E hr h=>?_)
 ·obtain⟨a,b,fm,gm,rfl,_⟩:=h;rfl
 obtain⟨a,b,fm,gm,rfl,hF,hG,okF,okG,hPL,hPM,qe,q⟩:=h;obtain⟨t1,c_MOST_KINDS⟩:=Cc1;obtain⟨f1,f2,f3,zf,a1,a2,a3,a4,a5⟩:=hF;obtain⟨g1,g2,g3,zg,b1,b2,b3,b4,b5⟩:=hG;have n0:=okF.n0;have n8:=okF.n8;have m0:=okG.n0;have m8:=okG.n8;have hmul:Zka fm.n gm.n:=.inl ⟨by lia,by lia⟩;refine⟨_,(Ze (ZaN (Z0 ZhZ (Zg Z7 (ZG Zy (pv 0) Zb (fun _ _=>rfl)) (ZG Zy (pv 1) Zb (fun _ _=>rfl))) (Zbg (v:=.int 64) rfl c_MOST_KINDS ⟨_,rfl⟩) (Z4 _))
   (Zi (Zb5 xc.top_TooMany xc.ini_TooMany xc.n_TooMany Zam hr rfl (Za Zal Zd)))
   Zak)
  (Ze (Zm (i:=2) Zat.nd rfl (Or.inl rfl) (Zas Zd))
  (Ze (ZbX PassesOwn.leaving rfl (Za8 (ZG Zy (pv 0) Zb (fun _ _=>rfl))) (Zf9 rfl (ZC (Zt (i:=3) Zat.nd rfl (Or.inl rfl)) (ZC (Zt (i:=4) Zat.nd rfl (Or.inl rfl)) (ZC (Zt (i:=5) Zat.nd rfl (Or.inl rfl)) (ZC (Zt (i:=6) Zat.nd rfl (Or.inl rfl)) Zbl)))))
   (Zi (ZbX PassesOwn.leaving rfl (Za8 (ZG Zy (pv 1) Zb (fun _ _=>rfl))) (Zf9 rfl (ZC (Zt (i:=7) Zat.nd rfl (Or.inl rfl)) (ZC (Zt (i:=8) Zat.nd rfl (Or.inl rfl)) (ZC (Zt (i:=9) Zat.nd rfl (Or.inl rfl)) (ZC (Zt (i:=10) Zat.nd rfl (Or.inl rfl)) Zbl)))))
     (Zi (ZaN (Z0 Zbi (pv 4) (pv 8) (Z4 _))
       (Ze (Zm (i:=11) Zat.nd rfl (Or.inl rfl) (Zr g_paired hr rfl (Za (Zas (Za (pv 3) (Za (pv 5) (Za (pv 6) Zd)))) (Za (Zas (Za (pv 7) (Za (pv 9) (Za (pv 10) Zd)))) (Za (ZG Zy (pv 1) Zb (fun _ _=>rfl)) Zd)))))
        (Zi (Zba (Ze2 PySem.F.plainAttrs_list PySem.F.slot_list_append PySem.F.type_list_append Zbf (pv 2) (Za (Zad (Za (ZG ZaK (pv 11) Zb (fun _ _=>rfl)) (Za (pv 4) (Za (ZG ZaK (pv 11) Zb (fun _ _=>rfl)) (Za (ZG ZaK (pv 11) Zb (fun _ _=>rfl)) Zd))))) Zd)))))
       Zak)))))
  (Zi (ZX (ZaC g_sorted_form Zam hr rfl (Za (Zg Z7 (ZG Zy (pv 0) Zb (fun _ _=>rfl)) (ZG Zy (pv 1) Zb (fun _ _=>rfl))) (Za (Zr g_all_paired hr rfl (Za (ZG Zy (pv 0) Zb (fun _ _=>rfl)) (Za (ZG Zy (pv 1) Zb (fun _ _=>rfl)) (Za (ZG Zy (pv 1) Zb (fun _ _=>rfl)) Zd)))) (Za (Zr g_all_paired hr rfl (Za (ZG Zy (pv 0) Zb (fun _ _=>rfl)) (Za (ZG Zy (pv 1) Zb (fun _ _=>rfl)) (Za (ZG Zy (pv 1) Zb (fun _ _=>rfl)) Zd)))) (Za (pv 2) Zd)))))))))),?_⟩
 refine⟨_,rfl,a,_,0,_,rfl,rfl,SqT.of a1,rfl,_,rfl,b,_,0,_,rfl,rfl,SqT.of b1,rfl,_,_,rfl,rfl,hmul,_,_,rfl,rfl,_,rfl,Zdn (fun c=>?_) (fun c=>?_)⟩
 ·have c:=of_decide_eq_true c;obtain⟨ms,m1,m2⟩:=ZfU (Zay gm.n fm.qs gm.qs);exact⟨(by show 1<=1000;decide),fun y hy=>qe ms m1 m2 (.inl c) _ (Zk.new hy)⟩
 have h64:fm.n*gm.n<=64:=Int.not_lt.mp fun z=>c (decide_eq_true z);refine⟨by decide,fun pl hpl=>?_⟩;have s1:Zk H (upd H pl (.lst [])):=Zk.new hpl;have hfl:=a5.length;have hgl:=b5.length;have hql:=okF.ql;have hql2:=okG.ql;have big:∀i,(Zay gm.n (fm.qs.take i) gm.qs).length<=90000:=fun i=>by
  have h1:=ZcT gm.n gm.qs (fm.qs.take i);have h2:(fm.qs.take i).length*gm.qs.length<=fm.qs.length*gm.qs.length:=Nat.mul_le_mul (by rw[List.length_take];lia) (Nat.le_refl _);lia
 refine⟨_,rfl,a,_,3,_,rfl,rfl,SqT.of (s1 _ _ a1),rfl,f3,rfl,⟨_,SqT.of (s1 _ _ a4)⟩,Zen (K:=K) (a:=f3) (xs:=zf) (fun i σ H2=>∃v3 v4 v5 v6 v7 v8 v9 v10 v11:Option V,∃ys:List V,σ =[some (.ref a),some (.ref b),some (.ref pl),v3,v4,v5,v6,v7,v8,v9,v10,v11]/\Zk H H2/\H2 pl=some (.lst ys)/\QL H2 ys (Zay gm.n (fm.qs.take i) gm.qs))
  ⟨none,none,none,none,none,none,none,none,none,[],rfl,s1,Zc,.nil⟩ ?_ ?_ ?_⟩
 ·rintro i σ H2 _ ⟨_,_,_,_,_,_,_,_,_,_,_,sm,_⟩;exact SqT.of (sm _ _ a4)
 ·rintro i x σ H2 hx ⟨v3,v4,v5,v6,v7,v8,v9,v10,v11,ys,rfl,sm,hp2,hQ⟩;obtain⟨p,q1,e1,rfl,e2⟩:=a5.get i x hx;refine⟨p,_,rfl,SqT.of (sm _ _ e2),rfl,_,_,rfl,_,_,rfl,_,_,rfl,_,_,rfl,rfl,?_⟩;refine⟨_,rfl,b,_,3,_,rfl,rfl,SqT.of (sm _ _ b1),rfl,g3,rfl,⟨_,SqT.of (sm _ _ b4)⟩,Zen (K:=K) (a:=g3) (xs:=zg) (fun j σ H3=>∃v7 v8 v9 v10 v11:Option V,∃ys:List V,σ =[some (.ref a),some (.ref b),some (.ref pl),some (.int q1.1),some (.str q1.2.1),some (.int q1.2.2.1),some (.int q1.2.2.2),v7,v8,v9,v10,v11]/\Zk H H3/\H3 pl=some (.lst ys)/\QL H3 ys (Zay gm.n (fm.qs.take i) gm.qs++Zay gm.n [q1] (gm.qs.take j)))
   ⟨v7,v8,v9,v10,v11,ys,rfl,sm,hp2,?_⟩ ?_ ?_ ?_⟩
  ·have:Zay gm.n [q1] (gm.qs.take 0)=[]:=rfl;rw[this,List.append_nil];exact hQ
  ·rintro j σ H3 _ ⟨_,_,_,_,_,_,_,sm,_⟩;exact SqT.of (sm _ _ b4)
  ·rintro j y σ H3 hy ⟨v7,v8,v9,v10,v11,ys,rfl,sm,hp3,hQ3⟩;obtain⟨p',q2,e1',rfl,e2'⟩:=b5.get j y hy;have hlen3:ys.length<=95000:=by
    rw[hQ3.length,List.length_append];have h1:=big i;have h2:=ZcT gm.n (gm.qs.take j) [q1];rw[List.length_take] at h2;simp only[List.length_cons,List.length_nil] at h2;lia
   refine⟨p',_,rfl,SqT.of (sm _ _ e2'),rfl,_,_,rfl,_,_,rfl,_,_,rfl,_,_,rfl,rfl,?_⟩;refine⟨_,rfl,_,rfl,rfl,_,rfl,?_⟩;refine Zdn (fun c=>?_) (fun c=>?_)
   ·have ct:q1.2.1=q2.2.1:=by
     have:=of_decide_eq_true c;injection this
    refine⟨_,rfl,_,rfl,_,rfl,by show(3:Nat)<=sizeLine;decide,fun l1 hl1=>?_⟩;have t1:Zk H3 (upd H3 l1 (.lst [.int q1.1,.int q1.2.2.1,.int q1.2.2.2])):=Zk.new hl1;have d1:(upd H3 l1 (.lst [.int q1.1,.int q1.2.2.1,.int q1.2.2.2])) l1=some (.lst [.int q1.1,.int q1.2.2.1,.int q1.2.2.2]):=Zc;generalize upd H3 l1 (.lst [.int q1.1,.int q1.2.2.1,.int q1.2.2.2])=H4 at t1 d1 ⊢;refine⟨_,rfl,_,rfl,_,rfl,by show(3:Nat)<=sizeLine;decide,fun l2 hl2=>?_⟩;have t2:Zk H4 (upd H4 l2 (.lst [.int q2.1,.int q2.2.2.1,.int q2.2.2.2])):=Zk.new hl2;have d2:(upd H4 l2 (.lst [.int q2.1,.int q2.2.2.1,.int q2.2.2.2])) l2=some (.lst [.int q2.1,.int q2.2.2.1,.int q2.2.2.2]):=Zc;generalize upd H4 l2 (.lst [.int q2.1,.int q2.2.2.1,.int q2.2.2.2])=H5 at t2 d2 ⊢;have t12:=t1.trans t2;refine⟨_,rfl,b,_,0,_,rfl,rfl,SqT.of (t12 _ _ (sm _ _ b1)),rfl,l1,l2,gm.n,_,_,_,_,_,_,rfl,m0,by lia,t2 _ _ d1,d2,fun r H6 t3 hr0 er=>?_⟩;have t13:=t12.trans t3;refine⟨_,rfl,.inl ⟨rfl,_,SqL.of (t13 _ _ hp3)⟩,?_⟩;refine⟨_,rfl,r,_,0,_,rfl,rfl,SqL.of er,rfl,_,rfl,_,rfl,r,_,1,_,rfl,rfl,SqL.of er,rfl,_,rfl,r,_,2,_,rfl,rfl,SqL.of er,rfl,by show(4:Nat)<=sizeLine;decide,fun tt htt=>?_⟩;have t4:Zk H6 (upd H6 tt (tq (ZdW gm.n q1 q2))):=Zk.new htt;have t14:=t13.trans t4;have e7:(upd H6 tt (tq (ZdW gm.n q1 q2))) tt=some (tq (ZdW gm.n q1 q2)):=Zc;refine⟨pl,_,_,rfl,rfl,t14 _ _ hp3,ZW (by lia),?_⟩;refine⟨_,_,_,_,_,_,rfl,(sm.trans t14).upd_new hpl,Zc,?_⟩;rw[ZK e1',ZeZ,if_pos ct,<- List.append_assoc];exact(QL.snoc e7 (hQ3.keep fun b xs e=>t14 _ _ e)).keep (ZaD (t14 _ _ hp3))
   ·have ct : ¬ q1.2.1=q2.2.1:=fun z=>c (decide_eq_true (congrArg V.str z));refine⟨_,_,_,_,_,ys,rfl,sm,hp3,?_⟩;rw[ZK e1',ZeZ,if_neg ct,List.append_nil];exact hQ3
  ·rintro σ H3 ⟨v7,v8,v9,v10,v11,ys,rfl,sm,hp3,hQ3⟩;refine⟨_,_,_,_,_,_,_,_,_,ys,rfl,sm,hp3,?_⟩;rw[hgl,List.take_length] at hQ3;rw[ZK e1,Zgo];exact hQ3
 ·rintro σ H2 ⟨v3,v4,v5,v6,v7,v8,v9,v10,v11,ys,rfl,sm,hp2,hQ⟩;rw[hfl,List.take_length] at hQ;refine⟨_,rfl,a,_,0,_,rfl,rfl,SqT.of (sm _ _ a1),rfl,_,rfl,b,_,0,_,rfl,rfl,SqT.of (sm _ _ b1),rfl,_,_,rfl,rfl,hmul,?_⟩;refine⟨_,rfl,a,_,1,_,rfl,rfl,SqT.of (sm _ _ a1),rfl,_,rfl,b,_,1,_,rfl,rfl,SqT.of (sm _ _ b1),rfl,_,rfl,b,_,0,_,rfl,rfl,SqT.of (sm _ _ b1),rfl,f1,g1,gm.n,_,_,rfl,m0,by lia,sm _ _ a2,sm _ _ b2,(by have:=okF.hl;lia),(by have:=okG.hl;lia),fun r1 H3 s3 hr1 e3=>?_⟩;have s03:=sm.trans s3;refine⟨_,rfl,a,_,2,_,rfl,rfl,SqT.of (s03 _ _ a1),rfl,_,rfl,b,_,2,_,rfl,rfl,SqT.of (s03 _ _ b1),rfl,_,rfl,b,_,0,_,rfl,rfl,SqT.of (s03 _ _ b1),rfl,f2,g2,gm.n,_,_,rfl,m0,by lia,s03 _ _ a3,s03 _ _ b3,(by have:=okF.tl;lia),(by have:=okG.tl;lia),fun r2 H4 s4 hr2 e4=>?_⟩;have s04:=s03.trans s4;have lI:∀{xs ys:List Int},(xs.length:Int)<=fm.n->(ys.length:Int)<=gm.n->(ZcS gm.n xs ys).length<=900:=fun{xs ys} h1 h2=>by
   rw[Zc0];have h3:(xs.length:Int)*ys.length<=fm.n*gm.n:=Int.mul_le_mul h1 h2 (by lia) n0;have h4:((xs.length*ys.length:Nat):Int)=(xs.length:Int)*ys.length:=Int.natCast_mul _ _;lia
  refine⟨_,rfl,fm.n*gm.n,r1,r2,pl,_,_,ys,Zay gm.n fm.qs gm.qs,rfl,Zkb (Int.mul_nonneg n0 m0) (by lia),SqL.of (s4 _ _ e3),lI okF.hn okG.hn,SqL.of e4,lI okF.tn okG.tn,SqL.of (s4 _ _ (s3 _ _ hp2)),hQ.keep fun b xs e=>s4 _ _ (s3 _ _ e),hPL,fun ms h1 h2 h3 H' s'=>qe ms h1 h2 h3 _ (s04.trans s'),fun ms h1 h2 h3 h4 r h H' s' hf hI=>q ms h1 h2 h3 h4 r h H' (s04.trans s') hf hI⟩
theorem Zik(B:∀x∈Zca,mg x=none)(F:Fun K "_law_cell" "_law_cell" Zbu f fd):FnOk P w K mg base CX0 1 f fd ["_law_script","_law_k"] (ZaV K):=by
 refine F.ok Zhd (fun vs H Q E h=>?_) (fun cdv A outer s H vs Q E hr h=>?_)
 ·obtain⟨a,ns,k,rfl,_⟩:=h;rfl
 obtain⟨a,ns,k,rfl,hS,h63,h0,hk,q⟩:=h;refine⟨_,(Ze (ZaN (Z0 ZlJ (pv 1) (ZV Zag rfl (B "len" (by decide)) PySem.boot_len (Za (pv 0) Zd)) (Z4 _))
   (Zi (ZX (Zg ZM (Zg ZJ (Zg Z7 (ZG ZaK (pv 0) (pv 1) (fun _ _=>rfl)) Zb) (Zg Z7 (Zg Z7 (pv 1) (pv 1)) Zb)) Zb)))
   Zak)
  (Zi (ZX (Zg ZM (Zg ZJ (Zg ZJ (Zg Z7 (Zg Z7 (pv 1) (pv 1)) Zb) (Zg Z7 (ZV Zag rfl (B "len" (by decide)) PySem.boot_len (Za (pv 0) Zd)) Zb)) Zb) Zb)))),?_⟩
 have hq:∀v:Int,Q (.int (v % 2147483647)) H:=fun v=>q _ (Int.emod_nonneg _ (by decide)) (Int.emod_lt_of_pos _ (by decide));refine⟨_,rfl,_,rfl,a,_,rfl,.inl hS,_,_,rfl,rfl,_,rfl,?_⟩;refine Zdn (fun c=>?_) (fun c=>?_)
 ·have c':=of_decide_eq_true c;rw[List.length_map] at c';obtain⟨v,hv⟩:=Zjw (ns:=ns) h0 c';exact⟨_,rfl,_,rfl,a,_,k,_,rfl,rfl,hS,hv,_,_,rfl,rfl,.inr ⟨by decide,by decide⟩,_,rfl,_,rfl,_,_,rfl,rfl,.inl ⟨by lia,by lia⟩,_,_,rfl,rfl,.inr ⟨by decide,by decide⟩,_,_,rfl,rfl,_,_,rfl,rfl,(by show(0:Int)<2147483647;decide),hq _⟩
 ·exact⟨_,rfl,_,rfl,_,_,rfl,rfl,.inl ⟨by lia,by lia⟩,_,_,rfl,rfl,.inr ⟨by decide,by decide⟩,_,rfl,a,_,rfl,.inl hS,_,_,rfl,rfl,.inr ⟨by decide,by decide⟩,_,_,rfl,rfl,_,_,rfl,rfl,_,_,rfl,rfl,(by show(0:Int)<2147483647;decide),hq _⟩
theorem Zj3:∀i j:_root_.Fin 26,ABC.cps.toList.getD i.val 0=ABC.cps.toList.getD j.val 0->i=j:=by decide
theorem Zh4{i:Int}(h0:0<=i)(h1:i<26):atI ABC.cps.toList i=some (ABC.cps.toList.getD i.toNat 0):=by
 have hj:i.toNat<ABC.cps.toList.length:=(ZhV ⟨i.toNat,by lia⟩).2.2;have e:(i.toNat:Int)=i:=Int.toNat_of_nonneg h0;have h:=Zd2 (xs:=ABC.cps.toList) (j:=i.toNat) (v:=ABC.cps.toList.getD i.toNat 0) (by rw[List.getD_eq_getElem?_getD,List.getElem?_eq_getElem hj];rfl);rw[e] at h;exact h
def ZcG(i:Int):Nat:=(atI ABC.cps.toList (i % 26)).getD 0
theorem Zcd(i:Int):atI ABC.cps.toList (i % 26)=some (ZcG i)/\97<=ZcG i/\ZcG i<=122:=by
 obtain⟨c,hc,c1,c2⟩:=ZkH (i:=i % 26) (Int.emod_nonneg _ (by decide)) (Int.emod_lt_of_pos _ (by decide));have e:ZcG i=c:=by unfold ZcG;rw[hc];rfl
 rw[e];exact⟨hc,c1,c2⟩
theorem ZfX{i j:Int}(h:ZcG i=ZcG j):i % 26=j % 26:=by
 unfold ZcG at h;have b0:=Int.emod_nonneg i (by decide:(26:Int)≠0);have b1:=Int.emod_lt_of_pos i (by decide:(0:Int)<26);have b2:=Int.emod_nonneg j (by decide:(26:Int)≠0);have b3:=Int.emod_lt_of_pos j (by decide:(0:Int)<26);rw[Zh4 b0 b1,Zh4 b2 b3] at h;have k:=Zj3 ⟨_,(show(i % 26).toNat<26 by lia)⟩ ⟨_,(show(j % 26).toNat<26 by lia)⟩ h;have k:=congrArg _root_.Fin.val k;dsimp only at k;clear h;lia
def tgW(sd:Int)(n:Nat):List Nat:=(List.range n).map fun j:Nat=>ZcG (sd / ((j:Int)+9))
def tgN(sd:Int):Nat:=(sd % 4).toNat
def tgA(sd:Int):Nat:=(sd / 7 % (sd % 4+1)).toNat
def tg7(sd v:Int):Str:=⟨((tgW sd (tgN sd)).take (tgA sd) ++ [ZcG (v / 26)] ++ [ZcG v]++(tgW sd (tgN sd)).drop (tgA sd)).toArray⟩
theorem Zg3{sd:Int}{n:Nat}{c:Nat}(h:c∈tgW sd n):97<=c/\c<=122:=by
 obtain⟨j,_,rfl⟩:=List.mem_map.mp h;exact(Zcd _).2
theorem ZfD(sd:Int)(n:Nat):(tgW sd n).length=n:=by unfold tgW;rw[List.length_map,List.length_range]
theorem Zii(sd v:Int):(tg7 sd v).length=tgN sd+2:=by
 have h:(tg7 sd v).cps.toList.length=(tg7 sd v).length:=Array.length_toList;rw[<- h];show((tgW sd (tgN sd)).take (tgA sd) ++ [ZcG (v / 26)] ++ [ZcG v]++(tgW sd (tgN sd)).drop (tgA sd)).length=_;have e:=congrArg List.length (List.take_append_drop (tgA sd) (tgW sd (tgN sd)));rw[List.length_append,ZfD] at e;rw[List.length_append,List.length_append,List.length_append];show _+1+1+_=_;lia
theorem Zif(sd v:Int):ZlY (tg7 sd v)/\(tg7 sd v).length<=8:=by
 refine⟨⟨fun z=>?_,fun c hc=>?_⟩,?_⟩
 ·have h:(tg7 sd v).cps.toList.length=(tg7 sd v).length:=Array.length_toList;rw[z,Zii] at h;have:(0:Nat)=tgN sd+2:=h;lia
 ·have hc:c∈(tgW sd (tgN sd)).take (tgA sd) ++ [ZcG (v / 26)] ++ [ZcG v]++(tgW sd (tgN sd)).drop (tgA sd):=hc;rw[List.mem_append,List.mem_append,List.mem_append] at hc;rcases hc with((hc|hc)|hc)|hc
  ·exact Zg3 (List.mem_of_mem_take hc)
  ·rw[List.mem_singleton.mp hc];exact(Zcd _).2
  ·rw[List.mem_singleton.mp hc];exact(Zcd _).2
  ·exact Zg3 (List.mem_of_mem_drop hc)
 ·rw[Zii];unfold tgN;lia
theorem Zfj(sd v:Int):ZcW (tg7 sd v)=true:=ZgH (Zif sd v).1 (Zif sd v).2
theorem ZkR{t:Str}(h:ZcW t=true):Zj2 t:=by
 unfold ZcW at h;rw[Bool.and_eq_true,Bool.and_eq_true] at h;refine⟨Nat.le_trans (of_decide_eq_true h.1.2) (by decide),fun c hc=>?_⟩;have hz:=List.all_eq_true.mp h.2 c hc;unfold azB at hz;rw[Bool.and_eq_true] at hz;have:=of_decide_eq_true hz.2;have h16:(16:Nat) ^ 8=4294967296:=by decide
 lia
theorem Zfw{sd v v':Int}(h0:0<=v)(h1:v<676)(h0':0<=v')(h1':v'<676)(h:tg7 sd v=tg7 sd v'):v=v':=by
 have h:(tgW sd (tgN sd)).take (tgA sd) ++ [ZcG (v / 26)] ++ [ZcG v]++(tgW sd (tgN sd)).drop (tgA sd)=(tgW sd (tgN sd)).take (tgA sd) ++ [ZcG (v' / 26)] ++ [ZcG v']++(tgW sd (tgN sd)).drop (tgA sd):=congrArg (fun z:Str=>z.cps.toList) h;have h:=List.append_cancel_right h;rw[List.append_assoc,List.append_assoc] at h;have h:=List.append_cancel_left h;injection h with a b;injection b with b;have:=ZfX a;have:=ZfX b;lia
def Za9(n:Int):List Int:=(List.range n.toNat).map fun k:Nat=>(k:Int)
def ruQ(n sd v:Int):Srd.Qd:=(v % n,tg7 sd v,v / n % n,v / 5 % n)
def ruL(n sd a:Int)(c:Nat):List Srd.Qd:=(List.range c).map fun i:Nat=>ruQ n sd (a+(i:Int))
def Zci:Sp:=fun vs H Q _=>∃sd v:Int,vs=[.int sd,.int v]/\Q (.str (tg7 sd v)) H
def Zf0:Sp:=fun vs H Q _=>∃n c:Int,vs=[.int n,.int c]/\0<=n/\n<=64/\0<=c/\∀(r:Addr)(f:FQ)(H':Hp),Zk H H'->FmQ H' r f->f.n=n->Ok47 f->f.qs=[]->f.hs.Nodup->Q (.ref r) H'
def Zc9:Sp:=fun vs H Q _=>∃n h t sd a c:Int,vs=[.int n,.int h,.int t,.int sd,.int a,.int c]/\1<=n/\n<=4/\0<=h/\h<=n/\0<=t/\t<=n/\0<=a/\0<=c/\c<=450/\a<=1000/\∀(r:Addr)(f:FQ)(H':Hp),Zk H H'->FmQ H' r f->Ok47 f->f.n=n->f.hs=Za9 h->f.ts=Za9 t->f.qs.Perm (ruL n sd a c.toNat)->Q (.ref r) H'
def ZbM:Sp:=fun vs H Q _=>∃(n:Int)(k:Nat),vs=[.int n,.int (k:Int)]/\(64<n\/400<k->Q (.str "many") H)/\(n<=64->k<=400->∀(r:Addr)(H':Hp),Zk H H'->H' r=some (.tup [.int n,.int (k:Int)])->Q (.ref r) H')
def ZjL(K:PySem.W.Frag):Sp:=fun vs H Q _=>∃(a:Addr)(ns:List Int),vs=[.ref a]/\SqL K H a (ns.map V.int)/\ns.length<=63/\∀H',Kp H H'->Q (.bl true) H'
def ZbZ(K:PySem.W.Frag):Sp:=fun vs H Q _=>∃(a:Addr)(ns:List Int)(x:Int),vs=[.ref a,.int x]/\SqL K H a (ns.map V.int)/\ns.length<=63/\398<=x/\x<=402/\∀H',Kp H H'->Q (.bl true) H'
def ZjV(K:PySem.W.Frag):Sp:=fun vs H Q _=>∃(a b:Addr)(ns:List Int)(ts:List Str),vs=[.ref a,.ref b]/\SqL K H a (ns.map V.int)/\ns.length<=63/\SqL K H b (ts.map V.str)/\ts.length<=445/\(∀t∈ts,ZcW t=true)/\∀H',Kp H H'->Q (.bl true) H'
theorem ZkN{z:Str}{n:Nat}(h:n<=z.length):cs (PySem.StrLaws.sliceText z none (some (n:Int)))=(cs z).take n:=by
 have hl:z.cps.toList.length=z.length:=Array.length_toList;rw[PySem.StrLaws.sliceText_to (x:=z) (j:=(n:Int)) ⟨by lia,by rw[hl];lia⟩];show(((z.cps.toList.drop 0).take ((n:Int)-0).toNat).toArray).toList=_;rw[List.toList_toArray,List.drop_zero,Int.sub_zero,Int.toNat_natCast];rfl
theorem Zkf{z:Str}{m:Nat}(hm:m<=z.length):cs (PySem.StrLaws.sliceText z (some (m:Int)) none)=(cs z).drop m:=by
 have hl:z.cps.toList.length=z.length:=Array.length_toList;rw[PySem.StrLaws.sliceText_from (x:=z) (i:=(m:Int)) ⟨by lia,by rw[hl];lia⟩];unfold cs;rw[List.toList_toArray,Int.toNat_natCast];apply List.take_of_length_le;rw[List.length_drop];lia
theorem Zdy(z:Str):(cs z).length=z.length:=Array.length_toList
theorem Zis(B:∀x∈Zca,mg x=none)
  (F:Fun K "_law_tag" "_law_tag" Zce f fd):FnOk P w K mg base CX0 1 f fd ["_law_seed","_law_v"] Zci:=by
 refine F.ok ZaU (fun vs H Q E h=>?_) (fun cdv A outer s H vs Q E hr h=>?_)
 ·obtain⟨sd,v,rfl,_⟩:=h;rfl
 obtain⟨sd,v,rfl,q⟩:=h;refine⟨_,(Ze (Zm (i:=2) ZaU.nd rfl (Or.inl rfl) Zal)
  (Ze (Zm (i:=3) ZaU.nd rfl (Or.inl rfl) (Zg ZM (pv 0) Zb))
  (Ze (Zm (i:=4) ZaU.nd rfl (Or.inl rfl) Zal)
  (Ze (ZbX PassesOwn.never rfl (ZaI rfl (B "range" (by decide)) (Za (pv 3) Zd)) (Zt (i:=5) ZaU.nd rfl (Or.inl rfl))
   (Ze (Zm (i:=6) ZaU.nd rfl (Or.inl rfl) (Zg Z3 (pv 0) (Zg ZJ (pv 5) Zb)))
    (Zi (Zm (i:=4) ZaU.nd rfl (Or.inl rfl) (Zg Zbs (pv 4) (ZG Zh0 (pv 2) (Zg ZM (pv 6) Zb) (fun _ _=>rfl)))))))
  (Ze (Zm (i:=7) ZaU.nd rfl (Or.inl rfl) (Zg ZM (Zg Z3 (pv 0) Zb) (Zg ZJ (pv 3) Zb)))
  (Zi (ZX (Zg Zbs (Zg Zbs (Zg Zbs (Zb7 Zi4 (pv 4) ZdL (Zck (pv 7))) (ZG Zh0 (pv 2) (Zg ZM (Zg Z3 (pv 1) Zb) Zb) (fun _ _=>rfl))) (ZG Zh0 (pv 2) (Zg ZM (pv 1) Zb) (fun _ _=>rfl))) (Zb7 Zi4 (pv 4) (Zck (pv 7)) ZdL))))))))),?_⟩
 have m1:=Int.emod_nonneg sd (by decide:(4:Int)≠0);have m2:=Int.emod_lt_of_pos sd (by decide:(0:Int)<4);refine⟨_,rfl,_,_,rfl,rfl,(by show(0:Int)<4;decide),?_⟩;refine⟨_,rfl,_,rfl,by lia,by lia,ZeG (lo:=0) (n:=(sd % 4).toNat) (fun i σ H1=>∃(t:Str)(v5 v6:Option V),σ =[some (.int sd),some (.int v),some (.str ABC),some (.int (sd % 4)),some (.str t),v5,v6,none]/\H1=H/\cs t=tgW sd i) ⟨Str.empty,none,none,rfl,rfl,rfl⟩ ?_ ?_⟩
 ·rintro i σ H1 hi ⟨t,v5,v6,rfl,rfl,hW⟩;have hl:t.length=i:=by rw[<- Zdy,hW,ZfD]
  have ej:(0+(i:Int))=(i:Int):=Int.zero_add _;refine⟨_,rfl,_,rfl,_,_,rfl,rfl,_,_,rfl,rfl,⟨by lia,by lia⟩,?_⟩;refine⟨_,rfl,_,rfl,_,rfl,_,_,rfl,rfl,(by show(0:Int)<26;decide),_,_,ZcG (sd / (0+(i:Int)+9)),rfl,rfl,(by decide),(Zcd _).1,_,_,rfl,rfl,?_,?_⟩
  ·show t.length+1<=sizeLine;exact ZZ (by lia)
  ·refine⟨t++⟨#[ZcG (sd / (0+(i:Int)+9))]⟩,_,_,rfl,rfl,?_⟩;unfold cs at hW ⊢;rw[Zed,hW,ej];unfold tgW;rw[List.range_succ,List.map_append];rfl
 ·rintro σ H1 ⟨t,v5,v6,rfl,rfl,hW⟩;have hl:t.length=tgN sd:=by rw[<- Zdy,hW,ZfD];rfl
  have a1:=Int.emod_nonneg (sd / 7) (by lia:sd % 4+1≠0);have a2:=Int.emod_lt_of_pos (sd / 7) (by lia:0<sd % 4+1);have ea:sd / 7 % (sd % 4+1)=(tgA sd:Int):=(Int.toNat_of_nonneg a1).symm;have hA:tgA sd<=t.length:=by rw[hl];unfold tgA tgN;lia
  have c1:=ZkN hA;have c2:=Zkf hA;have l1:(PySem.StrLaws.sliceText t none (some (tgA sd:Int))).length<=4:=by
   rw[<- Zdy,c1,List.length_take,Zdy];have:tgN sd<=4:=by unfold tgN;lia
   lia
  have l2:(PySem.StrLaws.sliceText t (some (tgA sd:Int)) none).length<=4:=by
   rw[<- Zdy,c2,List.length_drop,Zdy];have:tgN sd<=4:=by unfold tgN;lia
   lia
  have hn:t.length<=4:=by rw[hl];unfold tgN;lia
  refine⟨_,rfl,_,_,rfl,rfl,⟨by decide,by decide⟩,_,rfl,_,_,rfl,rfl,_,_,rfl,rfl,(by show(0:Int)<sd % 4+1;lia),?_⟩;refine⟨_,rfl,_,rfl,(tgA sd:Int),congrArg V.int ea,_,rfl,ZZ (by lia),?_⟩;refine⟨_,rfl,_,rfl,_,_,rfl,rfl,⟨by decide,by decide⟩,_,_,rfl,rfl,(by show(0:Int)<26;decide),_,_,ZcG (v / 26),rfl,rfl,(by decide),(Zcd _).1,_,_,rfl,rfl,?_,?_⟩
  ·show _+1<=sizeLine;exact ZZ (by lia)
  refine⟨_,rfl,_,rfl,_,_,rfl,rfl,(by show(0:Int)<26;decide),_,_,ZcG v,rfl,rfl,(by decide),(Zcd _).1,_,_,rfl,rfl,?_,?_⟩
  ·rw[ZfG];show _+1+1<=sizeLine;exact ZZ (by lia)
  refine⟨_,rfl,_,rfl,(tgA sd:Int),congrArg V.int ea,_,rfl,ZZ (by lia),_,_,rfl,rfl,?_,?_⟩
  ·rw[ZfG,ZfG];show _+1+1+_<=sizeLine;exact ZZ (by lia)
  have e:(((PySem.StrLaws.sliceText t none (some (tgA sd:Int))++⟨#[ZcG (v / 26)]⟩)++⟨#[ZcG v]⟩)++PySem.StrLaws.sliceText t (some (tgA sd:Int)) none)=tg7 sd v:=by
   apply Zks;have h1:(PySem.StrLaws.sliceText t none (some (tgA sd:Int))).cps.toList=(tgW sd (tgN sd)).take (tgA sd):=by
    have:=c1;rw[hW] at this;exact this
   have h2:(PySem.StrLaws.sliceText t (some (tgA sd:Int)) none).cps.toList=(tgW sd (tgN sd)).drop (tgA sd):=by
    have:=c2;rw[hW] at this;exact this
   unfold cs;rw[Zed,Zed,Zed,h1,h2];rfl
  have q':Q (.str _) H1:=q;rw[<- e] at q';exact q'
theorem ZiC(B:∀x∈Zca,mg x=none)
  (F:Fun K "_law_due" "_law_due" Zco f fd):FnOk P w K mg base CX0 1 f fd ["_law_many","_law_rules"] ZbM:=by
 refine F.ok Ziw (fun vs H Q E h=>?_) (fun cdv A outer s H vs Q E hr h=>?_)
 ·obtain⟨n,k,rfl,_⟩:=h;rfl
 obtain⟨n,k,rfl,q1,q2⟩:=h;refine⟨_,(Ze (ZaN (PW.pt (ZkZ (Z0 ZhZ (pv 0) Zb (Z4 _)) (Zjc (Z0 ZhZ (pv 1) Zb (Z4 _)))))
   (Zi (ZX Zal))
   Zak)
  (Zi (ZX (Zad (Za (pv 0) (Za (pv 1) Zd)))))),?_⟩
 refine⟨_,rfl,_,_,rfl,rfl,_,rfl,Zdn (fun c=>?_) (fun c=>?_)⟩
 ·exact q1 (.inl (of_decide_eq_true c))
 ·have c:n<=64:=Int.not_lt.mp fun z=>c (decide_eq_true z);refine⟨_,rfl,_,_,rfl,rfl,_,rfl,Zdn (fun c'=>?_) (fun c'=>?_)⟩
  ·have:=of_decide_eq_true c';exact q1 (.inr (by lia))
  ·have c' : ¬ (400:Int)<(k:Int):=fun z=>c' (decide_eq_true z);refine⟨_,rfl,_,rfl,(by show(2:Nat)<=sizeLine;decide),fun p hp=>?_⟩;exact q2 c (by lia) p _ (Zk.new hp) Zc
theorem Zho(B:∀x∈Zca,mg x=none)
  (F:Fun K "_law_bare" "_law_bare" Zbp f fd):FnOk P w K mg base CX0 1 f fd ["_law_many","_law_cell_here"] Zf0:=by
 refine F.ok Zdk (fun vs H Q E h=>?_) (fun cdv A outer s H vs Q E hr h=>?_)
 ·obtain⟨n,c,rfl,_⟩:=h;rfl
 obtain⟨n,c,rfl,n0,n64,c0,q⟩:=h;refine⟨_,(Ze (ZbB (cl:=_) (n0:=2) Zdk.nd rfl (Or.inl rfl) ["_law_kind"] [("_law_cell_here",1)] (ZaI rfl (B "range" (by decide)) (Za (pv 0) Zd)) (fun _ _ _ _=>(Zt (i:=0) (show List.Nodup (["_law_kind","_law_cell_here"]:List Str) by decide) rfl (Or.inl rfl))) (fun _ _ _ _=>(Z0 Zbi (Zg ZM (Zg Z3 (pv 1) (Zg ZJ (pv 0) Zb)) Zb) Zb (Z4 _))) (fun _ _ _ _=>(pv 0)) rfl rfl (by decide) rfl (by decide) (Za1 (by(repeat' first|exact List.forall_mem_nil _|refine List.forall_mem_cons.mpr ⟨?_,?_⟩) <;> rfl)) (ZaE (by(repeat' first|exact List.forall_mem_nil _|refine List.forall_mem_cons.mpr ⟨?_,?_⟩) <;> first|(intro h;exact⟨_,rfl⟩)|(intro h;exact absurd h (by decide)))) (fun _=>by(repeat' first|exact List.forall_mem_nil _|refine List.forall_mem_cons.mpr ⟨?_,?_⟩) <;> exact⟨rfl,rfl,Or.inl rfl⟩) (fun _=>rfl) rfl)
  (Ze (ZbB (cl:=_) (n0:=3) Zdk.nd rfl (Or.inl rfl) ["_law_kind"] [("_law_cell_here",1)] (ZaI rfl (B "range" (by decide)) (Za (pv 0) Zd)) (fun _ _ _ _=>(Zt (i:=0) (show List.Nodup (["_law_kind","_law_cell_here"]:List Str) by decide) rfl (Or.inl rfl))) (fun _ _ _ _=>(Z0 Zbi (Zg ZM (Zg Z3 (pv 1) (Zg ZJ (pv 0) Zb)) Zb) Zb (Z4 _))) (fun _ _ _ _=>(pv 0)) rfl rfl (by decide) rfl (by decide) (Za1 (by(repeat' first|exact List.forall_mem_nil _|refine List.forall_mem_cons.mpr ⟨?_,?_⟩) <;> rfl)) (ZaE (by(repeat' first|exact List.forall_mem_nil _|refine List.forall_mem_cons.mpr ⟨?_,?_⟩) <;> first|(intro h;exact⟨_,rfl⟩)|(intro h;exact absurd h (by decide)))) (fun _=>by(repeat' first|exact List.forall_mem_nil _|refine List.forall_mem_cons.mpr ⟨?_,?_⟩) <;> exact⟨rfl,rfl,Or.inl rfl⟩) (fun _=>rfl) rfl)
  (Zi (ZX (Zad (Za (pv 0) (Za (ZL Z1 rfl (B "tuple" (by decide)) ZaG (Za (pv 2) Zd)) (Za (ZL Z1 rfl (B "tuple" (by decide)) ZaG (Za (pv 3) Zd)) (Za (Zad Zd) Zd))))))))),?_⟩
 refine⟨_,rfl,n,rfl,by lia,by lia,fun pf hpf=>?_⟩;refine Zc3 (lo:=0) (n:=n.toNat) (p:=pf) (fun i ys σ H2=>∃(v0:Option V)(hs:List Int),σ =[v0,some (.int c)]/\Zk H H2/\H2 pf=some (.lst ys)/\ys=hs.map V.int/\hs.Nodup/\(∀x∈hs,x<(i:Int))/\hs.length<=i)
  ⟨none,[],rfl,Zk.new hpf,Zc,rfl,.nil,(fun _ h=>nomatch h),Nat.le_refl _⟩ ?_ ?_ ?_
 ·rintro i ys σ H2 _ ⟨v0,hs,_,_,h,_⟩;exact h
 ·rintro i ys σ H2 hi ⟨v0,hs,rfl,sm,hp,rfl,hn,hb,hl⟩;refine⟨_,rfl,_,rfl,_,_,rfl,rfl,_,_,rfl,rfl,⟨by lia,by lia⟩,_,_,rfl,rfl,(by show(0:Int)<3;decide),rfl,_,rfl,Zdn (fun _=>?_) (fun _=>?_)⟩
  ·refine⟨_,rfl,hp,ZW (by rw[List.length_map];lia),CW.next hi ⟨_,hs ++ [0+(i:Int)],rfl,sm.upd_new hpf,Zc,by rw[List.map_append];rfl,?_,fun x hx=>?_,by rw[List.length_append,List.length_singleton];lia⟩⟩
   ·refine List.nodup_append.mpr ⟨hn,List.pairwise_singleton ..,fun x hx y hy e=>?_⟩;rw[List.mem_singleton] at hy;have:=hb x hx;lia
   ·rcases List.mem_append.mp hx with hx|hx
    ·have:=hb x hx;lia
    ·rw[List.mem_singleton.mp hx];lia
  ·exact CW.next hi ⟨_,hs,rfl,sm,hp,rfl,hn,fun x hx=>by have:=hb x hx;lia,by lia⟩
 rintro ys σ H2 ⟨v0,hs,rfl,s2,hp2,rfl,hn,hb,hl⟩;refine⟨_,rfl,n,rfl,by lia,by lia,fun pb hpb=>?_⟩;refine Zc3 (lo:=0) (n:=n.toNat) (p:=pb) (fun i ys σ H3=>∃(v0:Option V)(ts:List Int),σ =[v0,some (.int c)]/\Zk H2 H3/\H3 pb=some (.lst ys)/\ys=ts.map V.int/\ts.length<=i)
  ⟨none,[],rfl,Zk.new hpb,Zc,rfl,Nat.le_refl _⟩ ?_ ?_ ?_
 ·rintro i ys σ H3 _ ⟨v0,hs,_,_,h,_⟩;exact h
 ·rintro i ys σ H3 hi ⟨v0,ts,rfl,sm,hp,rfl,hl⟩;refine⟨_,rfl,_,rfl,_,_,rfl,rfl,_,_,rfl,rfl,⟨by lia,by lia⟩,_,_,rfl,rfl,(by show(0:Int)<3;decide),rfl,_,rfl,Zdn (fun _=>?_) (fun _=>?_)⟩
  ·exact⟨_,rfl,hp,ZW (by rw[List.length_map];lia),CW.next hi ⟨_,ts ++ [0+(i:Int)],rfl,sm.upd_new hpb,Zc,by rw[List.map_append];rfl,by rw[List.length_append,List.length_singleton];lia⟩⟩
  ·exact CW.next hi ⟨_,ts,rfl,sm,hp,rfl,by lia⟩
 rintro ys σ H3 ⟨v0',ts,rfl,s3,hp3,rfl,hlt⟩;refine⟨_,rfl,_,rfl,pf,_,rfl,.inl ⟨SqL.of (s3 _ _ hp2),fun l1 h1=>?_⟩⟩;have s4:=Zk.new (o:=.tup (hs.map V.int)) h1;refine⟨_,rfl,pb,_,rfl,.inl ⟨SqL.of (s4 _ _ hp3),fun l2 h2=>?_⟩⟩;have s5:=Zk.new (o:=.tup (ts.map V.int)) h2;refine⟨by decide,fun l3 h3=>?_⟩;have s6:=Zk.new (o:=.tup []) h3;refine⟨(by show(4:Nat)<=sizeLine;decide),fun l4 h4=>?_⟩;have s7:=Zk.new (o:=.tup [.int n,.ref l1,.ref l2,.ref l3]) h4;refine q l4 ⟨n,hs,ts,[]⟩ _ ((s2.trans s3).trans (s4.trans (s5.trans (s6.trans s7)))) ⟨l1,l2,l3,[],Zc,(s5.trans (s6.trans s7)) _ _ Zc,(s6.trans s7) _ _ Zc,s7 _ _ Zc,.nil⟩ rfl ⟨n0,n64,?_,?_,?_,?_,Nat.zero_le _⟩ rfl hn
 ·show(hs.length:Int)<=n;lia
 ·show(ts.length:Int)<=n;lia
 ·show hs.length<=64;lia
 ·show ts.length<=64;lia
set_option maxHeartbeats 2000000 in
theorem Zgy(B:∀x∈Zca,mg x=none)(g_l_tag:Has P w K mg base "_law_tag" ["_law_seed","_law_v"] 1 Zci)
  (F:Fun K "_law_ruled" "_law_ruled" Za3 f fd):FnOk P w K mg base CX0 2 f fd ["_law_many","_law_heads","_law_tails","_law_seed","_law_first","_law_count"] Zc9:=by
 refine F.ok Zch (fun vs H Q E h=>?_) (fun cdv A outer s H vs Q E hr h=>?_)
 ·obtain⟨n,h,t,sd,a,c,rfl,_⟩:=h;rfl
 obtain⟨n,h,t,sd,a,c,rfl,n1,n4,h0,h1,t0,t1,a0,c0,c1,a9,q⟩:=h;refine⟨_,(Ze (Zm (i:=6) Zch.nd rfl (Or.inl rfl) (Zas Zd))
  (Ze (ZbX PassesOwn.never rfl (Zig rfl (B "range" (by decide)) (Za (pv 4) (Za (Zg ZJ (pv 4) (pv 5)) Zd))) (Zt (i:=7) Zch.nd rfl (Or.inl rfl))
   (Zi (Zba (Ze2 PySem.F.plainAttrs_list PySem.F.slot_list_append PySem.F.type_list_append Zbf (pv 6) (Za (Zad (Za (Zg ZM (pv 7) (pv 0)) (Za (Zr g_l_tag hr rfl (Za (pv 3) (Za (pv 7) Zd))) (Za (Zg ZM (Zg Z3 (pv 7) (pv 0)) (pv 0)) (Za (Zg ZM (Zg Z3 (pv 7) Zb) (pv 0)) Zd))))) Zd)))))
  (Zi (ZX (Zad (Za (pv 0) (Za (ZL Z1 rfl (B "tuple" (by decide)) ZaG (Za (ZaQ (cl:=[]) ["_law_k"] [] (ZaI rfl (B "range" (by decide)) (Za (pv 1) Zd)) (fun _ _ _ _=>(Zt (i:=0) nd1 rfl (Or.inl rfl))) (fun _ _ _ _=>(pv 0)) rfl rfl (by decide) rfl (by decide) (fun _ _ h=>nomatch h) (Zcy (by decide)) (fun _ _ h=>nomatch h) (fun _=>rfl)) Zd)) (Za (ZL Z1 rfl (B "tuple" (by decide)) ZaG (Za (ZaQ (cl:=[]) ["_law_k"] [] (ZaI rfl (B "range" (by decide)) (Za (pv 2) Zd)) (fun _ _ _ _=>(Zt (i:=0) nd1 rfl (Or.inl rfl))) (fun _ _ _ _=>(pv 0)) rfl rfl (by decide) rfl (by decide) (fun _ _ h=>nomatch h) (Zcy (by decide)) (fun _ _ h=>nomatch h) (fun _=>rfl)) Zd)) (Za (ZL Z1 rfl (B "tuple" (by decide)) ZaG (Za (ZV (Zbb rfl) rfl (B "sorted" (by decide)) ZcX (Za (pv 6) Zd)) Zd)) Zd))))))))),?_⟩
 refine⟨by decide,fun pr hpr=>?_⟩;have ec:((a+c)-a).toNat=c.toNat:=by lia
 refine⟨_,rfl,_,rfl,_,rfl,_,_,rfl,rfl,a,a+c,rfl,⟨by lia,by lia,by lia,by lia⟩,ZeG (lo:=a) (n:=((a+c)-a).toNat) (fun i σ H1=>∃(v7:Option V)(ys:List V),σ =[some (.int n),some (.int h),some (.int t),some (.int sd),some (.int a),some (.int c),some (.ref pr),v7]/\Zk H H1/\H1 pr=some (.lst ys)/\QL H1 ys (ruL n sd a i)) ⟨none,[],rfl,Zk.new hpr,Zc,.nil⟩ ?_ ?_⟩
 ·rintro i σ H1 hi ⟨v7,ys,rfl,sm,hp,hq⟩;have hyl:ys.length=i:=by rw[hq.length];unfold ruL;rw[List.length_map,List.length_range]
  refine⟨_,rfl,.inl ⟨rfl,_,SqL.of hp⟩,_,rfl,_,rfl,_,_,rfl,rfl,(by show(0:Int)<n;lia),?_⟩;refine⟨_,rfl,_,rfl,sd,_,rfl,?_⟩;refine⟨_,rfl,_,rfl,_,_,rfl,rfl,⟨by lia,by lia⟩,_,rfl,_,_,rfl,rfl,(by show(0:Int)<n;lia),?_⟩;refine⟨_,rfl,_,_,rfl,rfl,⟨by decide,by decide⟩,_,rfl,_,_,rfl,rfl,(by show(0:Int)<n;lia),?_⟩;refine⟨(by show(4:Nat)<=sizeLine;decide),fun u hu=>?_⟩;have s2:=Zk.new (o:=tq (ruQ n sd (a+(i:Int)))) hu;have e2:upd H1 u (tq (ruQ n sd (a+(i:Int)))) u=some (tq (ruQ n sd (a+(i:Int)))):=Zc;refine⟨pr,ys,_,rfl,rfl,s2 _ _ hp,ZW (by lia),?_⟩;refine⟨_,_,rfl,(sm.trans s2).upd_new hpr,Zc,?_⟩;have:ruL n sd a (i+1)=ruL n sd a i ++ [ruQ n sd (a+(i:Int))]:=by
   unfold ruL;rw[List.range_succ,List.map_append];rfl
  rw[this];exact(QL.snoc e2 (hq.keep fun b xs e=>s2 _ _ e)).keep (ZaD (s2 _ _ hp))
 ·rw[ec];rintro σ H1 ⟨v7,ys,rfl,sm,hp,hq⟩;have hyl:ys.length=c.toNat:=by rw[hq.length];unfold ruL;rw[List.length_map,List.length_range]
  refine⟨_,rfl,_,rfl,h,rfl,by lia,by lia,fun p1 hp1=>?_⟩;refine Za2 (lo:=0) (n:=h.toNat) (p:=p1) (fun i ys σ H2=>∃v0:Option V,σ =[v0]/\Zk H1 H2/\H2 p1=some (.lst ys)/\ys=(Za9 (i:Int)).map V.int)
   ⟨none,rfl,Zk.new hp1,Zc,rfl⟩ ?_ ?_ ?_
  ·rintro i ys σ H2 _ ⟨v0,_,_,h,_⟩;exact h
  ·rintro i ys σ H2 hi ⟨v0,rfl,sm,hp,rfl⟩;refine⟨_,rfl,hp,ZW (by unfold Za9;rw[List.length_map,List.length_map,List.length_range];lia),CW.next hi ⟨_,rfl,sm.upd_new hp1,Zc,?_⟩⟩
   unfold Za9;rw[Int.toNat_natCast,Int.toNat_natCast,List.range_succ,List.map_append,List.map_append,Int.zero_add];rfl
  rintro ys1 σ1 H2 ⟨v0,rfl,s2,hp2,rfl⟩;have eh:(Za9 (h.toNat:Int))=Za9 h:=by rw[Int.toNat_of_nonneg h0]
  rw[eh] at hp2;refine⟨p1,_,rfl,.inl ⟨SqL.of hp2,fun l1 g1=>?_⟩⟩;have s3:=Zk.new (o:=.tup ((Za9 h).map V.int)) g1;have e3:upd H2 l1 (.tup ((Za9 h).map V.int)) l1=some (.tup ((Za9 h).map V.int)):=Zc;generalize upd H2 l1 (.tup ((Za9 h).map V.int))=H3 at s3 e3;refine⟨_,rfl,t,rfl,by lia,by lia,fun p2 hp2=>?_⟩;refine Za2 (lo:=0) (n:=t.toNat) (p:=p2) (fun i ys σ H4=>∃v0:Option V,σ =[v0]/\Zk H3 H4/\H4 p2=some (.lst ys)/\ys=(Za9 (i:Int)).map V.int)
   ⟨none,rfl,Zk.new hp2,Zc,rfl⟩ ?_ ?_ ?_
  ·rintro i ys σ H2 _ ⟨v0,_,_,h,_⟩;exact h
  ·rintro i ys σ H2 hi ⟨v0,rfl,sm,hp,rfl⟩;refine⟨_,rfl,hp,ZW (by unfold Za9;rw[List.length_map,List.length_map,List.length_range];lia),CW.next hi ⟨_,rfl,sm.upd_new hp2,Zc,?_⟩⟩
   unfold Za9;rw[Int.toNat_natCast,Int.toNat_natCast,List.range_succ,List.map_append,List.map_append,Int.zero_add];rfl
  rintro ys2 σ2 H4 ⟨v1,rfl,s4,hp4,rfl⟩;have et:(Za9 (t.toNat:Int))=Za9 t:=by rw[Int.toNat_of_nonneg t0]
  rw[et] at hp4;refine⟨p2,_,rfl,.inl ⟨SqL.of hp4,fun l2 g2=>?_⟩⟩;have s5:=Zk.new (o:=.tup ((Za9 t).map V.int)) g2;have e5:upd H4 l2 (.tup ((Za9 t).map V.int)) l2=some (.tup ((Za9 t).map V.int)):=Zc;generalize upd H4 l2 (.tup ((Za9 t).map V.int))=H5 at s5 e5;have s15:=s2.trans (s3.trans (s4.trans s5));refine⟨_,rfl,.inl ⟨pr,ys,_,rfl,SqL.of (s15 _ _ hp),by lia,hq.keep fun b xs e=>s15 _ _ e,fun r zs ms hr _ hpm hqz=>?_⟩⟩;have s6:=Zk.new (o:=.lst zs) hr;refine⟨r,zs,rfl,.inl ⟨SqL.of Zc,fun l3 g3=>?_⟩⟩;have s7:=Zk.new (o:=.tup zs) g3;refine⟨(by show(4:Nat)<=sizeLine;decide),fun l4 g4=>?_⟩;have s8:=Zk.new (o:=.tup [.int n,.ref l1,.ref l2,.ref l3]) g4;have s68:=s6.trans (s7.trans s8);have hml:ms.length=c.toNat:=by rw[hpm.length_eq];unfold ruL;rw[List.length_map,List.length_range]
  have hrl:∀m:Int,(Za9 m).length=m.toNat:=fun m=>by unfold Za9;rw[List.length_map,List.length_range]
  refine q l4 ⟨n,Za9 h,Za9 t,ms⟩ _ (sm.trans (s15.trans s68)) ⟨l1,l2,l3,zs,Zc,s68 _ _ ((s4.trans s5) _ _ e3),s68 _ _ e5,s8 _ _ Zc,hqz.keep fun b xs e=>s68 _ _ e⟩ ⟨by show 0<=n;lia,by show n<=64;lia,?_,?_,?_,?_,?_⟩ rfl rfl rfl hpm
  ·show((Za9 h).length:Int)<=n;rw[hrl];lia
  ·show((Za9 t).length:Int)<=n;rw[hrl];lia
  ·show(Za9 h).length<=64;rw[hrl];lia
  ·show(Za9 t).length<=64;rw[hrl];lia
  ·show ms.length<=450;lia
theorem Zd0{m:Int}:(Za9 m).length=m.toNat:=by unfold Za9;rw[List.length_map,List.length_range]
theorem ZcP{m x:Int}:x∈Za9 m↔0<=x/\x<m:=by
 unfold Za9;rw[List.mem_map];constructor
 ·rintro⟨k,hk,rfl⟩;have:=List.mem_range.mp hk;lia
 ·rintro⟨h1,h2⟩;exact⟨x.toNat,List.mem_range.mpr (by lia),by lia⟩
theorem ZdB{m:Int}:(Za9 m).Nodup:=List.pairwise_map.mpr ((List.nodup_range (n:=m.toNat)).imp fun{a b} hab e=>hab (by lia))
def Bn(n:Int)(q:Srd.Qd):Prop:=(0<=q.1/\q.1<n)/\(0<=q.2.2.1/\q.2.2.1<n)/\0<=q.2.2.2/\q.2.2.2<n
structure Rf(f:FQ)(n h t:Int)(c:Nat):Prop where
 kn:f.n=n
 hs:f.hs=Za9 h
 ts:f.ts=Za9 t
 nd:f.qs.Nodup
 bd:∀q∈f.qs,Bn n q
 un:∀q∈f.qs,∀q'∈f.qs,q.2.1=q'.2.1->q=q'
 ln:f.qs.length=c
theorem Ze5{n sd a:Int}{c:Nat}{q:Srd.Qd}(h:q∈ruL n sd a c):∃i:Nat,i<c/\q=ruQ n sd (a+(i:Int)):=by
 obtain⟨i,hi,rfl⟩:=List.mem_map.mp h;exact⟨i,List.mem_range.mp hi,rfl⟩
theorem Zkx{n sd v:Int}(n1:1<=n):Bn n (ruQ n sd v) :=
 ⟨⟨Int.emod_nonneg _ (by lia),Int.emod_lt_of_pos _ (by lia)⟩,⟨Int.emod_nonneg _ (by lia),Int.emod_lt_of_pos _ (by lia)⟩,Int.emod_nonneg _ (by lia),Int.emod_lt_of_pos _ (by lia)⟩
theorem Zkz{n sd a:Int}{c:Nat}(a0:0<=a)(h:a+(c:Int)<=676){q q':Srd.Qd}(hq:q∈ruL n sd a c)(hq':q'∈ruL n sd a c)(e:q.2.1=q'.2.1):q=q':=by
 obtain⟨i,hi,rfl⟩:=Ze5 hq;obtain⟨j,hj,rfl⟩:=Ze5 hq';have:=Zfw (sd:=sd) (v:=a+(i:Int)) (v':=a+(j:Int)) (by lia) (by lia) (by lia) (by lia) e;rw[this]
theorem ZfL{n sd a:Int}{c:Nat}(a0:0<=a)(h:a+(c:Int)<=676):(ruL n sd a c).Nodup :=
 List.pairwise_map.mpr (List.Pairwise.imp_of_mem (fun{i j} hi hj hij e=>by
  have hi:=List.mem_range.mp hi;have hj:=List.mem_range.mp hj;have:=Zfw (sd:=sd) (v:=a+(i:Int)) (v':=a+(j:Int)) (by lia) (by lia) (by lia) (by lia) (congrArg (fun z:Srd.Qd=>z.2.1) e);lia) (List.nodup_range (n:=c)))
theorem ZhC{n sd a:Int}{c:Nat}:(ruL n sd a c).length=c:=by unfold ruL;rw[List.length_map,List.length_range]
theorem Rf.of{f:FQ}{n h t sd a:Int}{c:Nat}(n1:1<=n)(a0:0<=a)(ha:a+(c:Int)<=676)(e1:f.n=n)(e2:f.hs=Za9 h)(e3:f.ts=Za9 t)(p:f.qs.Perm (ruL n sd a c)):Rf f n h t c :=
 ⟨e1,e2,e3,p.nodup_iff.mpr (ZfL a0 ha),fun q hq=>by
  obtain⟨i,_,rfl⟩:=Ze5 (p.mem_iff.mp hq);exact Zkx n1,fun q hq q' hq' e=>Zkz a0 ha (p.mem_iff.mp hq) (p.mem_iff.mp hq') e,by rw[p.length_eq,ZhC]⟩
theorem ZjS{b i:Int}{x y:Srd.Qd}(e:upQ b i x=upQ b i y):x=y:=by
 obtain⟨a1,a2,a3,a4⟩:=x;obtain⟨b1,b2,b3,b4⟩:=y;simp only[upQ,Prod.mk.injEq] at e;obtain⟨e1,e2,e3,e4⟩:=e;rw[show a1=b1 by lia,e2,show a3=b3 by lia,show a4=b4 by lia]
theorem ZdV{b i:Int}{l:List Srd.Qd}(h:l.Nodup):(l.map (upQ b i)).Nodup:=List.pairwise_map.mpr (h.imp fun{x y} hab e=>hab (ZjS e))
theorem ZjQ{f g:FQ}{n m h t h' t':Int}{c d:Nat}(x:Rf f n h t c)(y:Rf g m h' t' d):Cn (Zc5 f g) (c+d)/\(Zc5 f g).length=c+d:=by
 have hl:(Zc5 f g).length=c+d:=by unfold Zc5;rw[List.length_append,List.length_map,x.ln,y.ln]
 refine⟨?_,hl⟩;rw[<- hl];refine Cn.nodup (List.nodup_append.mpr ⟨x.nd,ZdV y.nd,fun a ha b hb e=>?_⟩);obtain⟨q,hq,rfl⟩:=List.mem_map.mp hb;have h1:=(x.bd a ha).1;have h2:=(y.bd q hq).1;rw[e] at h1;have h1:q.1+f.n<n:=h1.2;rw[x.kn] at h1;lia
theorem Zk4{f:FQ}{n h t:Int}{c:Nat}{w:Str}(h0:0<=h)(x:Rf f n h t c):Cn (Zfu f w) (c+h.toNat)/\(Zfu f w).length=c+h.toNat:=by
 have hl:(Zfu f w).length=c+h.toNat:=by unfold Zfu;rw[List.length_append,List.length_map,x.ln,x.hs,Zd0]
 refine⟨?_,hl⟩;rw[<- hl];refine Cn.nodup (List.nodup_append.mpr ⟨x.nd,List.pairwise_map.mpr ?_,fun a ha b hb e=>?_⟩)
 ·rw[x.hs];exact ZdB.imp fun{a b} hab e=>hab (congrArg (fun z:Srd.Qd=>z.2.2.1) e)
 ·obtain⟨q,hq,rfl⟩:=List.mem_map.mp hb;have h1:=(x.bd a ha).1;rw[e] at h1;have h1:f.n<n:=h1.2;rw[x.kn] at h1;lia
def st0(f:FQ):Nat:=(f.qs.filter fun q=>decide (q.1=0)).length
theorem ZcQ{f:FQ}{n t:Int}{c:Nat}(x:Rf f n 1 t c):Zaf f=(f.qs.filter fun q=>decide (q.1=0)).map tr:=by
 unfold Zaf;rw[x.hs];refine congrArg (List.map tr) (List.filter_congr fun q _=>decide_eq_decide.mpr ?_);rw[ZcP];lia
theorem ZbG{f:FQ}{n t:Int}{c:Nat}(x:Rf f n 1 t c):(Zaf f).length=st0 f:=by rw[ZcQ x,List.length_map];rfl
theorem Zcz{f:FQ}{n t:Int}{c:Nat}(x:Rf f n 1 t c):(Zaf f).Nodup:=by
 rw[ZcQ x];refine List.pairwise_map.mpr (List.Pairwise.imp_of_mem (fun{a b} ha hb hab e=>?_) (x.nd.filter _));exact hab (x.un a (List.mem_filter.mp ha).1 b (List.mem_filter.mp hb).1 (congrArg (fun z:Tr=>z.1) e))
theorem Zcc{f:FQ}{n t:Int}{c:Nat}(x:Rf f n 1 t c){z:Tr}(h:z∈Zaf f):∃q∈f.qs,q.1=0/\z=tr q:=by
 rw[ZcQ x] at h;obtain⟨q,hq,rfl⟩:=List.mem_map.mp h;exact⟨q,(List.mem_filter.mp hq).1,of_decide_eq_true (List.mem_filter.mp hq).2,rfl⟩
theorem Zc4{es:List Int}{S:List Tr}{m:Int->Tr->Srd.Qd}(he:es.Nodup)(hS:S.Nodup)(inj:∀e e' t t',m e t=m e' t'->e=e'/\t=t'):(es.flatMap fun e=>S.map (m e)).Nodup:=by
 refine List.pairwise_flatMap.mpr ⟨fun x _=>List.pairwise_map.mpr (hS.imp fun{a b} hab e=>hab (inj _ _ _ _ e).2),he.imp fun{a b} hab u hu v hv e=>?_⟩;obtain⟨y,_,rfl⟩:=List.mem_map.mp hu;obtain⟨y',_,rfl⟩:=List.mem_map.mp hv;exact hab (inj _ _ _ _ e).1
theorem ZbW{S:List Tr}{m:Int->Tr->Srd.Qd}:∀es:List Int,(es.flatMap fun e=>S.map (m e)).length=es.length*S.length
 | []=>by show 0=0*_;rw[Nat.zero_mul]
 | e::es=>by rw[List.flatMap_cons,List.length_append,List.length_map,ZbW es,List.length_cons,Nat.succ_mul,Nat.add_comm]
theorem ZjK{n e e':Int}{t t':Tr}(h:mkT n e t=mkT n e' t'):e=e'/\t=t':=by
 obtain⟨a1,a2,a3⟩:=t;obtain⟨b1,b2,b3⟩:=t';simp only[mkT,Prod.mk.injEq] at h;obtain⟨e1,e2,e3,e4⟩:=h;exact⟨by lia,by rw[e2,show a2=b2 by lia,show a3=b3 by lia]⟩
theorem Zj7{n e e':Int}{t t':Tr}(h:mkA n e t=mkA n e' t'):e=e'/\t=t':=by
 obtain⟨a1,a2,a3⟩:=t;obtain⟨b1,b2,b3⟩:=t';simp only[mkA,Prod.mk.injEq] at h;obtain⟨e1,e2,e3,e4⟩:=h;exact⟨by lia,by rw[e2,e3,show a3=b3 by lia]⟩
theorem ZeT{f:FQ}{n h t:Int}{c:Nat}(x:Rf f n h t c):(Zeo f).Nodup:=by
 unfold Zeo;refine List.nodup_append.mpr ⟨x.nd,ZdV x.nd,fun a ha b hb e=>?_⟩;obtain⟨q,hq,rfl⟩:=List.mem_map.mp hb;have h1:=(x.bd a ha).1;have h2:=(x.bd q hq).1;rw[e] at h1;have h1:q.1+f.n<n:=h1.2;rw[x.kn] at h1;lia
theorem Zjs{f g:FQ}{n m h t t':Int}{c d:Nat}(t0:0<=t)(tn:t<=n)(x:Rf f n h t c)(y:Rf g m 1 t' d):Cn (ZcH f g) (2*c+d+t.toNat*st0 g)/\(ZcH f g).length=2*c+d+t.toNat*st0 g:=by
 have hl:(ZcH f g).length=2*c+d+t.toNat*st0 g:=by
  unfold ZcH Zeo;rw[List.length_append,List.length_append,List.length_append,List.length_map,List.length_map,x.ln,y.ln,ZbW,x.ts,Zd0,ZbG y];lia
 refine⟨?_,hl⟩;rw[<- hl];refine Cn.nodup (List.nodup_append.mpr ⟨List.nodup_append.mpr ⟨ZeT x,ZdV y.nd,fun a ha b hb e=>?_⟩,?_,fun a ha b hb e=>?_⟩)
 ·obtain⟨q,hq,rfl⟩:=List.mem_map.mp hb;have h2:=(y.bd q hq).1;have h1:a.1<2*n:=by
   rcases List.mem_append.mp ha with ha|ha
   ·have:=(x.bd a ha).1;lia
   ·obtain⟨r,hr,rfl⟩:=List.mem_map.mp ha;have:=(x.bd r hr).1;show r.1+f.n<_;rw[x.kn];lia
  rw[e] at h1;have h1:q.1+2*f.n<2*n:=h1;rw[x.kn] at h1;lia
 ·exact Zc4 (by rw[x.ts];exact ZdB) (Zcz y) fun e e' t t' h=>ZjK h
 ·obtain⟨k,hk,hb⟩:=List.mem_flatMap.mp hb;obtain⟨z,hz,rfl⟩:=List.mem_map.mp hb;obtain⟨q,hq,_,rfl⟩:=Zcc y hz;rw[x.ts,ZcP] at hk;have h2:=y.bd q hq;have b1:(mkT f.n k (tr q)).1=n+k:=by show f.n+k=_;rw[x.kn]
  have b2:(mkT f.n k (tr q)).2.2.2=2*n+q.2.2.2:=by show 2*f.n+q.2.2.2=_;rw[x.kn]
  have h3:=h2.2.2;rw[<- e] at b1 b2;rcases List.mem_append.mp ha with ha|ha
  ·rcases List.mem_append.mp ha with ha|ha
   ·have:=(x.bd a ha).1;lia
   ·obtain⟨r,hr,rfl⟩:=List.mem_map.mp ha;have h4:=(x.bd r hr).2.2;have b2:r.2.2.2+f.n=2*n+q.2.2.2:=b2;rw[x.kn] at b2;lia
  ·obtain⟨r,hr,rfl⟩:=List.mem_map.mp ha;have h4:=(y.bd r hr).1;have b1:r.1+2*f.n=n+k:=b1;rw[x.kn] at b1;lia
def ks7(n t:Int):List Int:=2*n::(List.range (t.toNat-1)).map fun j:Nat=>n+(j:Int)+1
theorem Zhn{n t:Int}(tn:t<=n):(ks7 n t).Nodup:=by
 refine List.nodup_cons.mpr ⟨fun h=>?_,List.pairwise_map.mpr ((List.nodup_range (n:=t.toNat-1)).imp fun{a b} hab e=>hab (by lia))⟩;obtain⟨j,hj,e⟩:=List.mem_map.mp h;have:=List.mem_range.mp hj;lia
theorem ZjI{n t k:Int}(h:k∈ks7 n t):k=2*n\/(n<k/\k<n+t):=by
 rcases List.mem_cons.mp h with h|h
 ·exact .inl h
 ·obtain⟨j,hj,rfl⟩:=List.mem_map.mp h;have:=List.mem_range.mp hj;exact .inr (by lia)
theorem ZiN{f:FQ}{n t:Int}{c:Nat}(n1:1<=n)(t0:0<=t)(tn:t<=n)(x:Rf f n 1 t c):Cn (Zbo f) (2*c+(1+(t.toNat-1))*st0 f)/\(Zbo f).length=2*c+(1+t.toNat)*st0 f:=by
 refine⟨?_,?_⟩;rotate_left
 ·unfold Zbo Zeo Za0;rw[List.length_append,List.length_append,List.length_map,x.ln,ZbW,List.length_cons,List.length_map,x.ts,Zd0,ZbG x,Nat.add_comm t.toNat 1];lia
 have hl:(Zeo f++(ks7 n t).flatMap fun k=>(Zaf f).map (mkA n k)).length=2*c+(1+(t.toNat-1))*st0 f:=by
  unfold Zeo ks7;rw[List.length_append,List.length_append,List.length_map,x.ln,ZbW,List.length_cons,List.length_map,List.length_range,ZbG x,Nat.add_comm (t.toNat-1) 1];lia
 have nd:(Zeo f++(ks7 n t).flatMap fun k=>(Zaf f).map (mkA n k)).Nodup:=by
  refine List.nodup_append.mpr ⟨ZeT x,Zc4 (Zhn tn) (Zcz x) fun e e' t t' h=>Zj7 h,fun a ha b hb e=>?_⟩;obtain⟨k,hk,hb⟩:=List.mem_flatMap.mp hb;obtain⟨z,hz,rfl⟩:=List.mem_map.mp hb;obtain⟨q,hq,q0,rfl⟩:=Zcc x hz;have hk:=ZjI hk;have b1:a.1=k:=by rw[e];rfl
  have b2:a.2.1=q.2.1:=by rw[e];rfl
  rcases List.mem_append.mp ha with ha|ha
  ·have:=(x.bd a ha).1;lia
  ·obtain⟨r,hr,rfl⟩:=List.mem_map.mp ha;have:=x.un r hr q hq b2;subst this;have b1:r.1+f.n=k:=b1;rw[x.kn] at b1;lia
 rw[<- hl];refine(Cn.nodup nd).of fun q=>?_;unfold Zbo Za0;rw[x.kn,List.mem_append,List.mem_append];constructor
 ·rintro(h|h)
  ·exact .inl h
  ·obtain⟨k,hk,hb⟩:=List.mem_flatMap.mp h;rcases List.mem_cons.mp hk with rfl|hk
   ·exact .inr (List.mem_flatMap.mpr ⟨_,List.mem_cons_self ..,hb⟩)
   ·obtain⟨e,he,rfl⟩:=List.mem_map.mp hk;rw[x.ts,ZcP] at he;by_cases c:e=0
    ·subst c;obtain⟨z,hz,rfl⟩:=List.mem_map.mp hb;obtain⟨r,hr,r0,rfl⟩:=Zcc x hz;refine .inl (List.mem_append.mpr (.inr (List.mem_map.mpr ⟨r,hr,?_⟩)));show(r.1+f.n,r.2.1,r.2.2.1+0,r.2.2.2+f.n)=(0+n,r.2.1,r.2.2.1,n+r.2.2.2);rw[r0,x.kn,Int.add_zero,Int.add_comm n]
    ·refine .inr (List.mem_flatMap.mpr ⟨e+n,List.mem_cons_of_mem _ (List.mem_map.mpr ⟨(e-1).toNat,List.mem_range.mpr (by lia),?_⟩),hb⟩);show n+(((e-1).toNat:Nat):Int)+1=e+n;lia
 ·rintro(h|h)
  ·exact .inl h
  ·obtain⟨k,hk,hb⟩:=List.mem_flatMap.mp h;rcases List.mem_cons.mp hk with rfl|hk
   ·exact .inr (List.mem_flatMap.mpr ⟨_,List.mem_cons_self ..,hb⟩)
   ·obtain⟨j,hj,rfl⟩:=List.mem_map.mp hk;have hj:=List.mem_range.mp hj;refine .inr (List.mem_flatMap.mpr ⟨n+(j:Int)+1,List.mem_cons_of_mem _ (List.mem_map.mpr ⟨(j:Int)+1,?_,by lia⟩),hb⟩);rw[x.ts,ZcP];lia
theorem ZhW{f:FQ}{l:List Srd.Qd}(p:f.qs.Perm l):st0 f=(l.filter fun q=>decide (q.1=0)).length:=(p.filter _).length_eq
theorem ZgT{n sd a:Int}{c:Nat}:ruL n sd a (c+1)=ruL n sd a c ++ [ruQ n sd (a+(c:Int))]:=by
 unfold ruL;rw[List.range_succ,List.map_append];rfl
theorem ZlX{sd:Int}:∀c:Nat,((ruL 4 sd 0 c).filter fun q=>decide (q.1=0)).length=(c+3) / 4
 | 0=>rfl
 | c+1=>by
  rw[ZgT,List.filter_append,List.length_append,ZlX c];by_cases h:(0+(c:Int)) % 4=0
  ·have e:([ruQ 4 sd (0+(c:Int))].filter fun q=>decide (q.1=0))=[ruQ 4 sd (0+(c:Int))]:=List.filter_cons_of_pos (decide_eq_true h);rw[e];show _+1=_;lia
  ·have e:([ruQ 4 sd (0+(c:Int))].filter fun q=>decide (q.1=0))=[]:=List.filter_cons_of_neg (fun z=>h (of_decide_eq_true z));rw[e];show _+0=_;lia
theorem ZlU{sd:Int}:∀c:Nat,((ruL 3 sd 99 c).filter fun q=>decide (q.1=0)).length=(c+2) / 3
 | 0=>rfl
 | c+1=>by
  rw[ZgT,List.filter_append,List.length_append,ZlU c];by_cases h:(99+(c:Int)) % 3=0
  ·have e:([ruQ 3 sd (99+(c:Int))].filter fun q=>decide (q.1=0))=[ruQ 3 sd (99+(c:Int))]:=List.filter_cons_of_pos (decide_eq_true h);rw[e];show _+1=_;lia
  ·have e:([ruQ 3 sd (99+(c:Int))].filter fun q=>decide (q.1=0))=[]:=List.filter_cons_of_neg (fun z=>h (of_decide_eq_true z));rw[e];show _+0=_;lia
theorem Zee{n x y x' y':Int}(h1:0<=y/\y<n)(h2:0<=y'/\y'<n)(h:ZaT n x y=ZaT n x' y'):x=x'/\y=y':=by
 unfold ZaT at h;have d1:(x*n+y) / n=x:=by
  rw[Int.add_comm,Int.add_mul_ediv_right _ _ (by lia:n≠0),Int.ediv_eq_zero_of_lt h1.1 h1.2,Int.zero_add]
 have d2:(x'*n+y') / n=x':=by
  rw[Int.add_comm,Int.add_mul_ediv_right _ _ (by lia:n≠0),Int.ediv_eq_zero_of_lt h2.1 h2.2,Int.zero_add]
 rw[h,d2] at d1;subst d1;exact⟨rfl,by lia⟩
theorem ZeU{n:Int}{a b a' b':Srd.Qd}(t:a.2.1=b.2.1)(t':a'.2.1=b'.2.1)(h:Bn n b)(h':Bn n b')(e:ZdW n a b=ZdW n a' b'):a=a'/\b=b':=by
 obtain⟨a1,a2,a3,a4⟩:=a;obtain⟨b1,b2,b3,b4⟩:=b;obtain⟨c1,c2,c3,c4⟩:=a';obtain⟨d1,d2,d3,d4⟩:=b';simp only[ZdW,Prod.mk.injEq] at e;unfold Bn at h h';dsimp only at t t' h h';obtain⟨e1,e2,e3,e4⟩:=e;obtain⟨p1,q1⟩:=Zee h.1 h'.1 e1;obtain⟨p2,q2⟩:=Zee h.2.1 h'.2.1 e3;obtain⟨p3,q3⟩:=Zee h.2.2 h'.2.2 e4;subst t t' e2 p1 q1 p2 q2 p3 q3;exact⟨rfl,rfl⟩
theorem Zev{n:Int}{xs ys:List Srd.Qd}(nx:xs.Nodup)(ny:ys.Nodup)(hb:∀b∈ys,Bn n b):(Zay n xs ys).Nodup:=by
 unfold Zay;refine List.pairwise_flatMap.mpr ⟨fun x _=>List.pairwise_map.mpr (List.Pairwise.imp_of_mem (fun{a b} ha hb' hab e=>?_) (ny.filter _)),nx.imp fun{a b} hab u hu v hv e=>?_⟩
 ·obtain⟨ha1,ha2⟩:=List.mem_filter.mp ha;obtain⟨hb1,hb2⟩:=List.mem_filter.mp hb';exact hab (ZeU (of_decide_eq_true ha2) (of_decide_eq_true hb2) (hb a ha1) (hb b hb1) e).2
 ·obtain⟨y,hy1,rfl⟩:=List.mem_map.mp hu;obtain⟨y',hy2,rfl⟩:=List.mem_map.mp hv;obtain⟨h1,h2⟩:=List.mem_filter.mp hy1;obtain⟨h3,h4⟩:=List.mem_filter.mp hy2;exact hab (ZeU (of_decide_eq_true h2) (of_decide_eq_true h4) (hb y h1) (hb y' h3) e).1
def lk7(ys:List Srd.Qd)(t:Str):Nat:=(ys.filter fun b=>decide (t=b.2.1)).length
theorem ZdC(n:Int)(ys:List Srd.Qd):∀xs:List Srd.Qd,(Zay n xs ys).length=(xs.map fun a=>lk7 ys a.2.1).sum
 | []=>rfl
 | x::xs=>by
  have h:=ZdC n ys xs;show(((ys.filter fun b=>decide (x.2.1=b.2.1)).map (ZdW n x))++Zay n xs ys).length=lk7 ys x.2.1+(xs.map fun a=>lk7 ys a.2.1).sum;rw[List.length_append,List.length_map,h];rfl
theorem ZfF{f:Srd.Qd->Nat}{k:Nat}:∀{xs:List Srd.Qd},(∀x∈xs,f x=k)->(xs.map f).sum=xs.length*k
 | [],_=>by show 0=0*_;rw[Nat.zero_mul]
 | x::xs,h=>by
  rw[List.map_cons,List.sum_cons,h x (List.mem_cons_self ..),ZfF fun y hy=>h y (List.mem_cons_of_mem _ hy),List.length_cons,Nat.succ_mul,Nat.add_comm]
theorem Zjx(xs ys:List Srd.Qd)(t:Str):lk7 (xs++ys) t=lk7 xs t+lk7 ys t:=by unfold lk7;rw[List.filter_append,List.length_append]
theorem ZfY{ys:List Srd.Qd}{t:Str}(h:∀y∈ys,t≠y.2.1):lk7 ys t=0:=by
 unfold lk7;rw[List.length_eq_zero_iff,List.filter_eq_nil_iff];intro y hy z;exact h y hy (of_decide_eq_true z)
theorem ZjO{ys:List Srd.Qd}{t:Str}(h:∀y∈ys,t=y.2.1):lk7 ys t=ys.length:=by
 unfold lk7;rw[List.filter_eq_self.mpr fun y hy=>decide_eq_true (h y hy)]
theorem Zj6{ys:List Srd.Qd}(nd:ys.Nodup)(un:∀q∈ys,∀q'∈ys,q.2.1=q'.2.1->q=q'){y:Srd.Qd}(hy:y∈ys):lk7 ys y.2.1=1:=by
 unfold lk7;have h1:(ys.filter fun b=>decide (y.2.1=b.2.1)).length <=[y].length:=ZaW (nd.filter _) fun x hx=>by
  obtain⟨a,b⟩:=List.mem_filter.mp hx;rw[un y hy x a (of_decide_eq_true b)];exact List.mem_singleton.mpr rfl
 have h2:0<(ys.filter fun b=>decide (y.2.1=b.2.1)).length:=List.length_pos_iff.mpr (List.ne_nil_of_mem (List.mem_filter.mpr ⟨hy,decide_eq_true rfl⟩));have h1:_<=1:=h1;lia
def onQ(w:Str)(j:Nat):Srd.Qd:=((j:Int) % 4,w,(j:Int) / 4 % 4,(j:Int) / 16)
def otQ(w:Str)(j:Nat):Srd.Qd:=((j:Int) / 16,w,(j:Int) / 4 % 4,(j:Int) % 4)
def onL(w:Str)(a:Nat):List Srd.Qd:=(List.range a).map (onQ w)
def otL(w:Str)(a:Nat):List Srd.Qd:=(List.range a).map (otQ w)
theorem ZhX(w:Str)(a:Nat):(onL w a).Nodup:=List.pairwise_map.mpr ((List.nodup_range (n:=a)).imp fun{i j} hij e=>by
 simp only[onQ,Prod.mk.injEq] at e;lia)
theorem Zhz(w:Str)(a:Nat):(otL w a).Nodup:=List.pairwise_map.mpr ((List.nodup_range (n:=a)).imp fun{i j} hij e=>by
 simp only[otQ,Prod.mk.injEq] at e;lia)
theorem Zhw{w:Str}{a:Nat}(h:a<=64){q:Srd.Qd}(hq:q∈onL w a):q.2.1=w/\Bn 4 q:=by
 obtain⟨j,hj,rfl⟩:=List.mem_map.mp hq;have hj:=List.mem_range.mp hj;refine⟨rfl,?_⟩;unfold Bn onQ;dsimp only;lia
theorem Zek{w:Str}{a:Nat}(h:a<=64){q:Srd.Qd}(hq:q∈otL w a):q.2.1=w/\Bn 4 q:=by
 obtain⟨j,hj,rfl⟩:=List.mem_map.mp hq;have hj:=List.mem_range.mp hj;refine⟨rfl,?_⟩;unfold Bn otQ;dsimp only;lia
theorem Zkd{sd u:Int}{c a b:Nat}{zs fs gs:List Srd.Qd}(u0:0<=u)(hu:u+(c:Int)<=600)(ha:a<=64)(hb:b<=64)(pz:zs.Perm (ruL 4 sd u c))(pf:fs.Perm (zs++onL (tg7 sd 600) a))(pg:gs.Perm (zs++otL (tg7 sd 600) b)):Cn (Zay 4 fs gs) (c+a*b)/\(Zay 4 fs gs).length=c+a*b:=by
 have ndz:=pz.nodup_iff.mpr (ZfL u0 (by lia));have bz:∀q∈zs,Bn 4 q:=fun q hq=>by
  obtain⟨i,_,rfl⟩:=Ze5 (pz.mem_iff.mp hq);exact Zkx (by decide)
 have uz:∀q∈zs,∀q'∈zs,q.2.1=q'.2.1->q=q':=fun q hq q' hq' e=>Zkz u0 (by lia) (pz.mem_iff.mp hq) (pz.mem_iff.mp hq') e;have wz:∀q∈zs,q.2.1≠tg7 sd 600:=fun q hq e=>by
  obtain⟨i,hi,rfl⟩:=Ze5 (pz.mem_iff.mp hq);have:=Zfw (sd:=sd) (v:=u+(i:Int)) (v':=600) (by lia) (by lia) (by decide) (by decide) e;lia
 have nf:fs.Nodup:=pf.nodup_iff.mpr (List.nodup_append.mpr ⟨ndz,ZhX ..,fun x hx y hy e=>wz x hx (by rw[e];exact(Zhw ha hy).1)⟩);have ng:gs.Nodup:=pg.nodup_iff.mpr (List.nodup_append.mpr ⟨ndz,Zhz ..,fun x hx y hy e=>wz x hx (by rw[e];exact(Zek hb hy).1)⟩);have bg:∀q∈gs,Bn 4 q:=fun q hq=>by
  rcases List.mem_append.mp (pg.mem_iff.mp hq) with h|h
  ·exact bz q h
  ·exact(Zek hb h).2
 have hl:(Zay 4 fs gs).length=c+a*b:=by
  have lg:∀t,lk7 gs t=lk7 zs t+lk7 (otL (tg7 sd 600) b) t:=fun t=>by
   rw[<- Zjx];exact(pg.filter _).length_eq
  rw[ZdC,(pf.map _).sum_nat,List.map_append,List.sum_append,ZfF (xs:=zs) (k:=1) fun x hx=>?_,ZfF (xs:=onL (tg7 sd 600) a) (k:=b) fun x hx=>?_]
  ·rw[pz.length_eq,ZhC,Nat.mul_one];unfold onL;rw[List.length_map,List.length_range]
  ·rw[lg,(Zhw ha hx).1,ZfY fun y hy=>(wz y hy).symm,ZjO fun y hy=>(Zek hb hy).1.symm,Nat.zero_add];unfold otL;rw[List.length_map,List.length_range]
  ·rw[lg,Zj6 ndz uz hx,ZfY fun y hy=>?_];rw[(Zek hb hy).1];exact wz x hx
 exact⟨hl ▸ Cn.nodup (Zev nf ng bg),hl⟩
theorem FmQ.kept{H H':Hp}{a:Addr}{f:FQ}(h:FmQ H a f)(k:Kp H H'):FmQ H' a f:=by
 obtain⟨h1,h2,h3,zs,a1,a2,a3,a4,a5⟩:=h;exact⟨h1,h2,h3,zs,k.tk _ _ a1,k.tk _ _ a2,k.tk _ _ a3,k.tk _ _ a4,a5.keep fun b xs e=>k.tk b xs e⟩
theorem ZdZ{x:Str}:decide (V.str x=V.str x)=true:=decide_eq_true rfl
theorem Zb1{K:PySem.W.Frag}{H:Hp}{Q:VK}{x:Str}(q:Q (.bl true) H):Zlr K (.str x) (.str x) H Q:=.inr ⟨rfl,by rw[ZdZ];exact q⟩
theorem ZdN{K:PySem.W.Frag}{H:Hp}{Q:VK}{x:Str}(q:Q (.bl false) H):ZlA K (.str x) (.str x) H Q:=.inr ⟨rfl,by rw[ZdZ];exact q⟩
theorem Zim{K:PySem.W.Frag}{H:Hp}{neg:Bool}{Q:VK}{a b:Addr}{n k:Int}(h1:H a=some (.tup [.int n,.int k]))(h2:H b=some (.tup [.int n,.int k]))(q:Q (.bl (!neg)) H):ZkC K neg (.ref a) (.ref b) H Q:=by
 refine⟨.tuple [.int n,.int k],.tuple [.int n,.int k],.tup (SqT.of h1) (.cons (.int _) (.cons (.int _) .nil)),.tup (SqT.of h2) (.cons (.int _) (.cons (.int _) .nil)),rfl,rfl,(by show(min _ _:Nat)<=200;simp[PyData.depth,PyData.depthAll]),?_⟩;rw[PySem.SeqAt.eqv_refl _ rfl];cases neg
 ·exact q
 ·exact q
theorem ZcU{K:PySem.W.Frag}{H:Hp}{Q:VK}{a b:Addr}{n k:Int}(h1:H a=some (.tup [.int n,.int k]))(h2:H b=some (.tup [.int n,.int k]))(q:Q (.bl true) H):Zlr K (.ref a) (.ref b) H Q:=.inl (Zim h1 h2 q)
theorem Zhs{K:PySem.W.Frag}{H:Hp}{Q:VK}{a b:Addr}{n k:Int}(h1:H a=some (.tup [.int n,.int k]))(h2:H b=some (.tup [.int n,.int k]))(q:Q (.bl false) H):ZlA K (.ref a) (.ref b) H Q:=.inl (Zim h1 h2 q)
def ZgP(w a b c d e:Int):Int:=if w=0 then a else if w=1 then b else if w=2 then c else if w=3 then d else e
theorem Zb3{w a b c d e:Int}{P:Int->Prop}(h0:w=0->P a)(h1:w=1->P b)(h2:w=2->P c)(h3:w=3->P d)(h4:w≠0->w≠1->w≠2->w≠3->P e):P (ZgP w a b c d e):=by
 unfold ZgP
 split
 ·exact h0 (by assumption)
 ·split
  ·exact h1 (by assumption)
  ·split
   ·exact h2 (by assumption)
   ·split
    ·exact h3 (by assumption)
    ·exact h4 (by assumption) (by assumption) (by assumption) (by assumption)
theorem Zh7{w:Int}(h0:0<=w)(h5:w<5)(a b c d e:Int):atI [V.int a,.int b,.int c,.int d,.int e] w=some (.int (ZgP w a b c d e)):=by
 have:w=0\/w=1\/w=2\/w=3\/w=4:=by lia
 rcases this with rfl|rfl|rfl|rfl|rfl <;> rfl
theorem Zmo{K:PySem.W.Frag}{H:Hp}{w m n:Int}{a b:Addr}{f g:FQ}(h0:0<=w)(h5:w<5)(hF:FmQ H a f)(hG:FmQ H b g)(okF:Ok47 f)(okG:Ok47 g)(ef:f.n=m)(eg:g.n=n)(qf:f.qs=[])(qg:g.qs=[])(nd:f.hs.Nodup) :
  Way K H w (.ref a) (.ref b) "tag" false (ZgP w (m+n) (2*m+n) (2*m+1) (m+2) (m*n)) (if w=3 then f.hs.length else 0):=by
 have c0:∀qs:List Srd.Qd,qs=[]->Cn qs 0:=fun qs e=>by rw[e];exact Cn.nodup .nil
 have l0:∀qs:List Srd.Qd,qs=[]->qs.length<=900:=fun qs e=>by rw[e];exact Nat.zero_le _
 have sf:Zaf f=[]:=by unfold Zaf;rw[qf];rfl
 have sg:Zaf g=[]:=by unfold Zaf;rw[qg];rfl
 have fl:∀(es:List Int)(k:Int->Tr->Srd.Qd),(es.flatMap fun e=>([]:List Tr).map (k e))=[]:=fun es k=>List.flatMap_eq_nil_iff.mpr fun _ _=>rfl;subst ef eg;have:w=0\/w=1\/w=2\/w=3\/w=4:=by lia
 rcases this with rfl|rfl|rfl|rfl|rfl
 ·have e:Zc5 f g=[]:=by unfold Zc5;rw[qf,qg];rfl
  exact .inl ⟨rfl,rfl,a,b,f,g,rfl,rfl,hF,hG,okF,okG,l0 _ e,rfl,c0 _ e⟩
 ·have e:ZcH f g=[]:=by unfold ZcH Zeo;rw[qf,qg,sg,fl];rfl
  exact .inr (.inl ⟨rfl,rfl,a,b,f,g,rfl,rfl,hF,hG,okF,okG,l0 _ e,rfl,c0 _ e⟩)
 ·have e:Zbo f=[]:=by unfold Zbo Zeo;rw[qf,sf,fl];rfl
  exact .inr (.inr (.inl ⟨rfl,rfl,a,f,rfl,hF,okF,l0 _ e,rfl,c0 _ e⟩))
 ·have e:(Zfu f "tag").length=f.hs.length:=by unfold Zfu;rw[qf,List.nil_append,List.length_map]
  have nq:(Zfu f "tag").Nodup:=by
   unfold Zfu;rw[qf,List.nil_append];exact List.pairwise_map.mpr (nd.imp fun{a b} hab e=>hab (congrArg (fun z:Srd.Qd=>z.2.2.1) e))
  refine .inr (.inr (.inr (.inl ⟨rfl,ZkR (by decide),by decide,a,f,rfl,hF,okF,?_,rfl,fun _=>?_⟩)))
  ·rw[e];have:=okF.hl;lia
  ·have:=Cn.nodup nq;rw[e] at this;exact this
 ·have e:Zay g.n f.qs g.qs=[]:=by unfold Zay;rw[qf];rfl
  exact .inr (.inr (.inr (.inr (.inl ⟨rfl,rfl,a,b,f,g,rfl,rfl,hF,hG,okF,okG,l0 _ e,by rw[qf,List.length_nil,Nat.zero_mul];exact Nat.zero_le _,rfl,c0 _ e⟩))))
set_option maxHeartbeats 4000000 in
theorem ZcD(B:∀x∈Zca,mg x=none)(g_l_cell:Has P w K mg base "_law_cell" ["_law_script","_law_k"] 1 (ZaV K)) (g_l_bare:Has P w K mg base "_law_bare" ["_law_many","_law_cell_here"] 1 Zf0) (g_l_said:Has P w K mg base "_law_said" ["_law_way","_law_one","_law_other","_law_tag_here"] 4 (Zcw K)) (g_l_due:Has P w K mg base "_law_due" ["_law_many","_law_rules"] 1 ZbM)
  (F:Fun K "_law_kinds_asked" "_law_kinds_asked" Zo f fd):FnOk P w K mg base CX0 5 f fd ["_law_script"] (ZjL K):=by
 refine F.ok Zv (fun vs H Q E h=>?_) (fun cdv A outer s H vs Q E hr h=>?_)
 ·obtain⟨a,ns,rfl,_⟩:=h;rfl
 obtain⟨a,ns,rfl,hS,h63,q⟩:=h;have hu:=ZbK hr;refine ZD ((Zf Zo).drop 11) (Zi (ZX (ZbH (Ze3 hu) (Zr g_l_said hr rfl (Za (pv 2) (Za (pv 7) (Za (pv 8) (Za Zal Zd))))) (Zr g_l_due hr rfl (Za (pv 9) (Za (pv 10) Zd))) (Z4 _)))) (fun u11 h11 e11=>?_);refine ZD ((Zf Zo).drop 10) (Ze (Zm (i:=10) Zv.nd rfl (Or.inl rfl) (ZG ZaK (Zas (Za Zb (Za Zb (Za Zb (Za (ZV Zag rfl (B "len" (by decide)) PySem.boot_len (Za (ZG Zy (pv 7) Zb (fun _ _=>rfl)) Zd)) (Za Zb Zd)))))) (pv 2) (fun _ _=>rfl))) h11) (fun u10 h10 e10=>?_);refine ZD ((Zf Zo).drop 9) (Ze (Zm (i:=9) Zv.nd rfl (Or.inl rfl) (ZG ZaK (Zas (Za (Zg ZJ (pv 5) (pv 6)) (Za (Zg ZJ (Zg Z7 Zb (pv 5)) (pv 6)) (Za (Zg ZJ (Zg Z7 Zb (pv 5)) Zb) (Za (Zg ZJ (pv 5) Zb) (Za (Zg Z7 (pv 5) (pv 6)) Zd)))))) (pv 2) (fun _ _=>rfl))) h10) (fun u9 h9 e9=>?_);refine ZD ((Zf Zo).drop 8) (Ze (Zm (i:=8) Zv.nd rfl (Or.inl rfl) (Zr g_l_bare hr rfl (Za (pv 6) (Za (Zr g_l_cell hr rfl (Za (pv 0) (Za Zb Zd))) Zd)))) h9) (fun u8 h8 e8=>?_);refine ZD ((Zf Zo).drop 7) (Ze (Zm (i:=7) Zv.nd rfl (Or.inl rfl) (Zr g_l_bare hr rfl (Za (pv 5) (Za (Zr g_l_cell hr rfl (Za (pv 0) (Za Zb Zd))) Zd)))) h8) (fun u7 h7 e7=>?_);refine ZD ((Zf Zo).drop 6) (Ze (ZaN (Z0 Zbi (Zg ZM (Zg Z3 (pv 4) Zb) Zb) Zb (Z4 _))
   (Zi (Zm (i:=6) Zv.nd rfl (Or.inl rfl) Zb))
   Zak) h7) (fun u6 h6 e6=>?_)
 refine ZD ((Zf Zo).drop 5) (Ze (Zm (i:=6) Zv.nd rfl (Or.inl rfl) (ZV (ZeM rfl) rfl (B "min" (by decide)) Zi7 (Za Zb (Za (ZG ZaK (Zas (Za (Zg ZbE (pv 3) (pv 5)) (Za (Zg ZbE (pv 3) (Zg Z7 Zb (pv 5))) (Za Zb (Za Zb (Za (Zg ZJ (Zg Z3 (pv 3) (ZV (ZeV rfl) rfl (B "max" (by decide)) Zjf (Za (pv 5) (Za Zb Zd)))) (Zg ZM (Zg Z3 (pv 4) Zb) Zb)) Zd)))))) (pv 2) (fun _ _=>rfl)) Zd)))) h6) (fun u5 h5 e5=>?_);refine ZD ((Zf Zo).drop 4) (Ze (Zm (i:=5) Zv.nd rfl (Or.inl rfl) (ZG ZaK (Zas (Za (Zg ZM (pv 4) Zb) (Za (Zg ZM (pv 4) Zb) (Za (Zg ZJ Zb (Zg ZM (pv 4) Zb)) (Za (Zg ZJ Zb (Zg ZM (pv 4) Zb)) (Za (Zg ZM (pv 4) Zb) Zd)))))) (pv 2) (fun _ _=>rfl))) h5) (fun u4 h4 e4=>?_);refine ZD ((Zf Zo).drop 3) (Ze (Zm (i:=4) Zv.nd rfl (Or.inl rfl) (Zr g_l_cell hr rfl (Za (pv 0) (Za Zb Zd)))) h4) (fun u3 h3 e3=>?_);refine ZD ((Zf Zo).drop 2) (Ze (Zm (i:=3) Zv.nd rfl (Or.inl rfl) (Zg ZJ Zb (Zg ZM (Zg Z3 (pv 1) Zb) Zb))) h3) (fun u2 h2 e2=>?_);refine ZD ((Zf Zo).drop 1) (Ze (Zm (i:=2) Zv.nd rfl (Or.inl rfl) (Zg ZM (pv 1) Zb)) h2) (fun u1 h1 e1=>?_);refine ZD ((Zf Zo).drop 0) (Ze (Zm (i:=1) Zv.nd rfl (Or.inl rfl) (Zr g_l_cell hr rfl (Za (pv 0) (Za Zb Zd)))) h1) (fun u0 h0 e0=>?_);refine⟨u0,h0,?_⟩;refine Zz e0 ?_;refine⟨_,rfl,a,ns,0,rfl,hS,h63,by decide,by decide,fun c c0 c1=>?_⟩;have w0:=Int.emod_nonneg c (by decide:(5:Int)≠0);have w5:=Int.emod_lt_of_pos c (by decide:(0:Int)<5);have x0:=Int.emod_nonneg (c / 5) (by decide:(6:Int)≠0);have x5:=Int.emod_lt_of_pos (c / 5) (by decide:(0:Int)<6);have rest:∀(s m n:Int)(H2:Hp),Zk H H2->0<=m->m<=64->0<=n->n<=64->u7 { nx:=fun _ H'=>Q .non H',rt:=Q } [some (.ref a),some (.int c),some (.int (c % 5)),some (.int (62+c / 5 % 6)),some (.int s),some (.int m),some (.int n),none,none,none,none] H2:=fun s m n H2 t2 m0 m64 n0 n64=>by
  refine Zz e7 ?_;refine⟨_,rfl,_,rfl,a,ns,2,rfl,t2.seq hS,h63,by decide,by decide,fun v v0 v1=>⟨m,v,rfl,m0,m64,v0,fun r1 f1 H3 t3 F1 ef okF qf nd=>?_⟩⟩;show u8 _ _ _;refine Zz e8 ?_;refine⟨_,rfl,_,rfl,a,ns,3,rfl,(t2.trans t3).seq hS,h63,by decide,by decide,fun v' v0' v1'=>⟨n,v',rfl,n0,n64,v0',fun r2 f2 H4 t4 F2 eg okG qg _=>?_⟩⟩;have t04:=(t2.trans t3).trans t4;have st11:∀(k:Nat)(H6:Hp),Zk H4 H6->k=(if c % 5=3 then f1.hs.length else 0)->u11 { nx:=fun _ H'=>Q .non H',rt:=Q } [some (.ref a),some (.int c),some (.int (c % 5)),some (.int (62+c / 5 % 6)),some (.int s),some (.int m),some (.int n),some (.ref r1),some (.ref r2),some (.int (ZgP (c % 5) (m+n) (2*m+n) (2*m+1) (m+2) (m*n))),some (.int (k:Int))] H6:=fun k H6 t6 hk=>by
   have t06:=t04.trans t6;have F1'':FmQ H6 r1 f1:=FmQ.kept F1 (Kp.same (t4.trans t6));have F2'':FmQ H6 r2 f2:=FmQ.kept F2 (Kp.same t6);have W:=Zmo (K:=K) w0 w5 F1'' F2'' okF okG ef eg qf qg nd;rw[<- hk] at W;refine Zz e11 ?_;refine⟨_,rfl,_,rfl,_,rfl,c % 5,_,_,_,false,_,k,rfl,W,(fun z=>nomatch z),fun _ hx H' kp=>?_,fun _ h1 h2 r H' kp hr=>?_⟩
   ·refine⟨_,rfl,_,rfl,_,k,rfl,fun _=>Zb1 (q _ ((Kp.same t06).trans kp)),fun y1 y2=>?_⟩;lia
   ·refine⟨_,rfl,_,rfl,_,k,rfl,fun y=>?_,fun _ _ r' H7 t7 hr'=>ZcU (t7 _ _ hr) hr' (q _ (((Kp.same t06).trans kp).trans (Kp.same t7)))⟩;lia
  have st10:∀(H5:Hp),Zk H4 H5->u10 { nx:=fun _ H'=>Q .non H',rt:=Q } [some (.ref a),some (.int c),some (.int (c % 5)),some (.int (62+c / 5 % 6)),some (.int s),some (.int m),some (.int n),some (.ref r1),some (.ref r2),some (.int (ZgP (c % 5) (m+n) (2*m+n) (2*m+1) (m+2) (m*n))),none] H5:=fun H5 t5=>by
   have F1':FmQ H5 r1 f1:=FmQ.kept F1 (Kp.same (t4.trans t5));obtain⟨z1,z2,z3,zs,b1,b2,b3,b4,b5⟩:=id F1';refine Zz e10 ?_;refine⟨_,rfl,r1,_,1,_,rfl,rfl,SqT.of b1,rfl,z1,_,rfl,.inr (SqT.of b2),(by show(5:Nat)<=sizeLine;decide),fun p4 hp4=>?_⟩;have hk:ZgP (c % 5) 0 0 0 (((f1.hs.map V.int).length:Nat):Int) 0=(((if c % 5=3 then f1.hs.length else 0):Nat):Int):=by
    rw[List.length_map];have:c % 5=0\/c % 5=1\/c % 5=2\/c % 5=3\/c % 5=4:=by lia
    rcases this with h|h|h|h|h <;> rw[h] <;> rfl
   refine⟨_,rfl,p4,_,c % 5,_,rfl,rfl,SqL.of Zc,(Zh7 w0 w5 ..).trans (congrArg (fun z=>some (V.int z)) hk),?_⟩;exact st11 _ _ (t5.trans (Zk.new hp4)) rfl
  show u9 _ _ _;refine Zz e9 ?_;refine⟨_,rfl,_,rfl,_,_,rfl,rfl,_,rfl,_,_,rfl,rfl,.inl ⟨by decide,by decide⟩,_,rfl,_,_,rfl,rfl,_,rfl,_,_,rfl,rfl,.inl ⟨by decide,by decide⟩,_,_,rfl,rfl,_,rfl,_,_,rfl,rfl,_,rfl,_,rfl,_,_,rfl,rfl,.inl ⟨by lia,by lia⟩,(by show(5:Nat)<=sizeLine;decide),fun p3 hp3=>?_⟩;refine⟨_,rfl,p3,_,c % 5,_,rfl,rfl,SqL.of Zc,Zh7 w0 w5 ..,?_⟩;exact st10 _ (Zk.new hp3)
 have rest5:∀(s m:Int)(H1:Hp),Zk H H1->0<=m->m<=64->(c % 5=0->m<=62)->(c % 5=1->m<=31)->u5 { nx:=fun _ H'=>Q .non H',rt:=Q } [some (.ref a),some (.int c),some (.int (c % 5)),some (.int (62+c / 5 % 6)),some (.int s),some (.int m),none,none,none,none,none] H1:=fun s m H1 t1 m0 m64 mm0 mm1=>by
  refine Zz e5 ?_;obtain⟨M,eM⟩:∃M:Int,(if(1:Int) > m then(1:Int) else m)=M:=⟨_,rfl⟩
  have M1:1<=M:=by subst eM;split <;> lia
  have M64:M<=64:=by subst eM;split <;> lia
  have dv:0<=(62+c / 5 % 6) / M:=Int.ediv_nonneg (by lia) (by lia);have sl0:0<=ZgP (c % 5) (62+c / 5 % 6-m) (62+c / 5 % 6-2*m) 1 1 ((62+c / 5 % 6) / M+s / 9 % 2) :=
   Zb3 (P:=fun z=>0<=z) (fun h=>by have:=mm0 h;lia) (fun h=>by have:=mm1 h;lia) (fun _=>by decide) (fun _=>by decide) fun _ _ _ _=>by lia
  refine⟨_,rfl,_,rfl,_,_,rfl,rfl,_,rfl,_,rfl,_,_,rfl,rfl,.inl ⟨by decide,by decide⟩,_,_,rfl,rfl,_,rfl,_,rfl,_,_,rfl,?_⟩;refine⟨62+c / 5 % 6,M,rfl,congrArg V.int eM,⟨by lia,by lia⟩,_,rfl,_,_,rfl,rfl,⟨by decide,by decide⟩,_,_,rfl,rfl,(by show(0:Int)<2;decide),_,_,rfl,rfl,(by show(5:Nat)<=sizeLine;decide),fun p2 hp2=>?_⟩;refine⟨_,rfl,p2,_,c % 5,_,rfl,rfl,SqL.of Zc,Zh7 w0 w5 ..,_,_,rfl,?_⟩;have st6:∀(n:Int)(H2:Hp),Zk H1 H2->0<=n->n<=64->u6 { nx:=fun _ H'=>Q .non H',rt:=Q } [some (.ref a),some (.int c),some (.int (c % 5)),some (.int (62+c / 5 % 6)),some (.int s),some (.int m),some (.int n),none,none,none,none] H2:=fun n H2 t2 n0 n64=>by
   refine Zz e6 ?_;refine⟨_,rfl,_,_,rfl,rfl,⟨by decide,by decide⟩,_,_,rfl,rfl,(by show(0:Int)<5;decide),rfl,_,rfl,Zdn (fun _=>?_) (fun _=>?_)⟩
   ·exact rest s m 64 H2 (t1.trans t2) m0 m64 (by decide) (by decide)
   ·exact rest s m n H2 (t1.trans t2) m0 m64 n0 n64
  refine st6 _ _ (Zk.new hp2) ?_ ?_
  ·split <;> lia
  ·split <;> lia
 show u1 _ _ _;refine Zz e1 ?_;refine⟨_,rfl,_,_,rfl,rfl,(by show(0:Int)<5;decide),?_⟩;show u2 _ _ _;refine Zz e2 ?_;refine⟨_,rfl,_,_,rfl,rfl,⟨by decide,by decide⟩,_,_,rfl,rfl,(by show(0:Int)<6;decide),_,_,rfl,rfl,?_⟩;show u3 _ _ _;refine Zz e3 ?_;refine⟨_,rfl,a,ns,1,rfl,hS,h63,by decide,by decide,fun s s0 s1=>?_⟩;show u4 _ _ _;refine Zz e4 ?_;refine⟨_,rfl,_,_,rfl,rfl,(by show(0:Int)<63;decide),_,rfl,_,_,rfl,rfl,(by show(0:Int)<32;decide),_,rfl,_,_,rfl,rfl,(by show(0:Int)<7;decide),_,_,rfl,rfl,_,rfl,_,_,rfl,rfl,(by show(0:Int)<7;decide),_,_,rfl,rfl,_,rfl,_,_,rfl,rfl,(by show(0:Int)<9;decide),(by show(5:Nat)<=sizeLine;decide),fun p1 hp1=>?_⟩;refine⟨_,rfl,p1,_,c % 5,_,rfl,rfl,SqL.of Zc,Zh7 w0 w5 ..,?_⟩;refine rest5 s _ _ (Zk.new hp1) ?_ ?_ ?_ ?_
 ·exact Zb3 (P:=fun z=>0<=z) (fun _=>by lia) (fun _=>by lia) (fun _=>by lia) (fun _=>by lia) fun _ _ _ _=>by lia
 ·exact Zb3 (P:=fun z=>z<=64) (fun _=>by lia) (fun _=>by lia) (fun _=>by lia) (fun _=>by lia) fun _ _ _ _=>by lia
 ·intro h;unfold ZgP;rw[if_pos h];lia
 ·intro h;unfold ZgP;rw[if_neg (by lia),if_pos h];lia
theorem ZcO{qs:List Srd.Qd}{i:Nat}{q:Srd.Qd}(e:qs[i]?= some q):((qs.take (i+1)).filter fun q=>decide (q.1=0)).length=((qs.take i).filter fun q=>decide (q.1=0)).length+if q.1=0 then 1 else 0:=by
 rw[ZK e,List.filter_append,List.length_append];by_cases h:q.1=0
 ·have e:([q].filter fun q=>decide (q.1=0))=[q]:=List.filter_cons_of_pos (decide_eq_true h);rw[e,if_pos h];rfl
 ·have e:([q].filter fun q=>decide (q.1=0))=[]:=List.filter_cons_of_neg (fun z=>h (of_decide_eq_true z));rw[e,if_neg h];rfl
set_option maxHeartbeats 8000000 in
theorem ZcE(B:∀x∈Zca,mg x=none)(g_l_cell:Has P w K mg base "_law_cell" ["_law_script","_law_k"] 1 (ZaV K)) (g_l_ruled:Has P w K mg base "_law_ruled" ["_law_many","_law_heads","_law_tails","_law_seed","_law_first","_law_count"] 2 Zc9) (g_l_said:Has P w K mg base "_law_said" ["_law_way","_law_one","_law_other","_law_tag_here"] 4 (Zcw K)) (g_l_due:Has P w K mg base "_law_due" ["_law_many","_law_rules"] 1 ZbM)
  (F:Fun K "_law_rows_of_two" "_law_rows_of_two" Zn f fd):FnOk P w K mg base CX0 5 f fd ["_law_script","_law_near"] (ZbZ K):=by
 refine F.ok Zw (fun vs H Q E h=>?_) (fun cdv A outer s H vs Q E hr h=>?_)
 ·obtain⟨a,ns,x,rfl,_⟩:=h;rfl
 obtain⟨a,ns,x,rfl,hS,h63,x0,x1,q⟩:=h;have hu:=ZbK hr;refine ZD ((Zf Zn).drop 12) (Zi (ZX (ZbH (Ze3 hu) (Zr g_l_said hr rfl (Za Zb (Za (pv 5) (Za (pv 6) (Za Zal Zd))))) (Zr g_l_due hr rfl (Za Zb (Za (Zg ZJ (Zg ZJ (Zg Z7 Zb (pv 4)) (pv 8)) (pv 9)) Zd))) (Z4 _)))) (fun u12 h12 e12=>?_);refine ZD ((Zf Zn).drop 11) (Ze (Zm (i:=5) Zw.nd rfl (Or.inl rfl) (Zr g_l_ruled hr rfl (Za Zb (Za Zb (Za (pv 7) (Za (pv 3) (Za Zb (Za (pv 4) Zd)))))))) h12) (fun u11 h11 e11=>?_);refine ZD ((Zf Zn).drop 10) (Ze (Zm (i:=4) Zw.nd rfl (Or.inl rfl) (Zg Z3 (Zg ZbE (Zg ZbE (pv 1) (pv 8)) (pv 9)) Zb)) h11) (fun u10 h10 e10=>?_);refine ZD ((Zf Zn).drop 9) (Ze (Zm (i:=9) Zw.nd rfl (Or.inl rfl) (Zg Z7 (pv 7) (ZV Zag rfl (B "len" (by decide)) PySem.boot_len (Za (Zcb (cl:=[]) ["_law_rule"] [] (Za8 (ZG Zy (pv 6) Zb (fun _ _=>rfl))) (fun _ _ _ _=>(Zt (i:=0) nd1 rfl (Or.inl rfl))) (fun _ _ _ _=>(Z0 Zbi (ZG (Zd1 (K:=K) rfl) (pv 0) Zb (fun _ _=>rfl)) Zb (Z4 _))) (fun _ _ _ _=>(pv 0)) rfl rfl (by decide) rfl (by decide) (fun _ _ h=>nomatch h) (Zcy (by decide)) (fun _ _ h=>nomatch h) (fun _=>rfl)) Zd)))) h10) (fun u9 h9 e9=>?_)
 refine ZD ((Zf Zn).drop 8) (Ze (Zm (i:=6) Zw.nd rfl (Or.inl rfl) (Zr g_l_ruled hr rfl (Za Zb (Za Zb (Za Zb (Za (pv 3) (Za Zb (Za (pv 8) Zd)))))))) h9) (fun u8 h8 e8=>?_);refine ZD ((Zf Zn).drop 7) (Ze (Zm (i:=8) Zw.nd rfl (Or.inl rfl) (Zg ZJ Zb (Zg ZM (Zg Z3 (pv 2) Zb) Zb))) h8) (fun u7 h7 e7=>?_);refine ZD ((Zf Zn).drop 6) (Ze (Zm (i:=7) Zw.nd rfl (Or.inl rfl) (Zg ZM (pv 2) Zb)) h7) (fun u6 h6 e6=>?_);refine ZD ((Zf Zn).drop 5) (Ze (ZaN (Z0 (ZhK hu) (Zr g_l_said hr rfl (Za Zb (Za (pv 5) (Za (pv 6) (Za Zal Zd))))) (Zr g_l_due hr rfl (Za (Zg ZJ (ZG Zy (pv 5) Zb (fun _ _=>rfl)) Zb) (Za (pv 1) Zd))) (Z4 _))
   (Zi (ZX ZdQ))
   Zak) h6) (fun u5 h5 e5=>?_)
 refine ZD ((Zf Zn).drop 4) (Ze (Zm (i:=6) Zw.nd rfl (Or.inl rfl) (Zr g_l_ruled hr rfl (Za Zb (Za Zb (Za Zb (Za (pv 3) (Za Zb (Za (Zg ZbE (pv 1) (pv 4)) Zd)))))))) h5) (fun u4 h4 e4=>?_);refine ZD ((Zf Zn).drop 3) (Ze (Zm (i:=5) Zw.nd rfl (Or.inl rfl) (Zr g_l_ruled hr rfl (Za (Zg ZJ Zb (Zg ZM (Zg Z3 (pv 2) Zb) Zb)) (Za Zb (Za Zb (Za (pv 3) (Za Zb (Za (pv 4) Zd)))))))) h4) (fun u3 h3 e3=>?_);refine ZD ((Zf Zn).drop 2) (Ze (Zm (i:=4) Zw.nd rfl (Or.inl rfl) (Zg ZJ Zb (Zg ZM (pv 2) Zb))) h3) (fun u2 h2 e2=>?_);refine ZD ((Zf Zn).drop 1) (Ze (Zm (i:=3) Zw.nd rfl (Or.inl rfl) (Zr g_l_cell hr rfl (Za (pv 0) (Za Zb Zd)))) h2) (fun u1 h1 e1=>?_);refine ZD ((Zf Zn).drop 0) (Ze (Zm (i:=2) Zw.nd rfl (Or.inl rfl) (Zr g_l_cell hr rfl (Za (pv 0) (Za Zb Zd)))) h1) (fun u0 h0 e0=>?_);refine⟨u0,h0,?_⟩;refine Zz e0 ?_;refine⟨_,rfl,a,ns,6,rfl,hS,h63,by decide,by decide,fun s s0 s1=>?_⟩;show u1 _ _ _;refine Zz e1 ?_;refine⟨_,rfl,a,ns,7,rfl,hS,h63,by decide,by decide,fun sd d0 d1=>?_⟩;have rest6:∀(ct:Int)(r1 r2:Addr)(H0:Hp),Kp H H0->u6 { nx:=fun _ H'=>Q .non H',rt:=Q } [some (.ref a),some (.int x),some (.int s),some (.int sd),some (.int ct),some (.ref r1),some (.ref r2),none,none,none] H0:=fun ct r1 r2 H0 k0=>by
  refine Zz e6 ?_;obtain⟨T,eT⟩:∃T:Int,s % 5=T:=⟨_,rfl⟩;obtain⟨Bh,eB⟩:∃Bh:Int,40+s / 5 % 40=Bh:=⟨_,rfl⟩;have T0:0<=T:=by lia
  have T4:T<=4:=by lia
  have B0:40<=Bh:=by lia
  have B1:Bh<=79:=by lia
  have st8:u8 { nx:=fun _ H'=>Q .non H',rt:=Q } [some (.ref a),some (.int x),some (.int s),some (.int sd),some (.int ct),some (.ref r1),some (.ref r2),some (.int T),some (.int Bh),none] H0:=by
   refine Zz e8 ?_;refine⟨_,rfl,_,rfl,3,1,1,sd,99,Bh,rfl,by decide,by decide,by decide,by decide,by decide,by decide,by decide,by lia,by lia,by decide,fun r g H1 t1 hG okG en eh et pm=>?_⟩;have rg:Rf g 3 1 1 Bh.toNat:=Rf.of (by decide) (by decide) (by lia) en eh et pm;have sg:st0 g=(Bh.toNat+2) / 3:=(ZhW pm).trans (ZlU _);have st10:∀(L:Nat)(H2:Hp),L=st0 g->Zk H1 H2->u10 { nx:=fun _ H'=>Q .non H',rt:=Q } [some (.ref a),some (.int x),some (.int s),some (.int sd),some (.int ct),some (.ref r1),some (.ref r),some (.int T),some (.int Bh),some (.int (T*(L:Int)))] H2:=fun L H2 eL t2=>by
    have l27:L<=27:=by lia
    have p0:0<=T*(L:Int):=Int.mul_nonneg T0 (by lia);have p1:T*(L:Int)<=4*(L:Int):=Int.mul_le_mul_of_nonneg_right T4 (by lia);refine Zz e10 ?_;refine⟨_,rfl,_,rfl,_,_,rfl,rfl,_,rfl,_,_,rfl,rfl,_,_,rfl,rfl,⟨by decide,by decide⟩,?_⟩;have st11:∀c2:Int,c2=(x-Bh-T*(L:Int)) / 2->u11 { nx:=fun _ H'=>Q .non H',rt:=Q } [some (.ref a),some (.int x),some (.int s),some (.int sd),some (.int c2),some (.ref r1),some (.ref r),some (.int T),some (.int Bh),some (.int (T*(L:Int)))] H2:=fun c2 ec=>by
     have c0:0<=c2:=by lia
     have c1:c2<=201:=by lia
     refine Zz e11 ?_;refine⟨_,rfl,_,rfl,_,rfl,4,1,T,sd,0,c2,rfl,by decide,by decide,by decide,by decide,T0,T4,by decide,c0,by lia,by decide,fun r3 f3 H3 t3 hF okF en' eh' et' pm'=>?_⟩;have rf:Rf f3 4 1 T c2.toNat:=Rf.of (by decide) (by decide) (by lia) en' eh' et' pm';have hG3:FmQ H3 r g:=FmQ.kept hG (Kp.same (t2.trans t3));obtain⟨hc,hl⟩:=Zjs T0 T4 rf rg;rw[<- eL] at hc hl;have tl:((T.toNat*L:Nat):Int)=T*(L:Int):=by rw[Int.natCast_mul,Int.toNat_of_nonneg T0]
     obtain⟨k,ek⟩:∃k:Nat,2*c2.toNat+Bh.toNat+T.toNat*L=k:=⟨_,rfl⟩;rw[ek] at hc hl;have hk:2*c2+Bh+T*(L:Int)=(k:Int):=by lia
     have k9:k<=900:=by lia
     have kk:=k0.trans (Kp.same (t1.trans (t2.trans t3)));have W:Way K H3 1 (.ref r3) (.ref r) "tag" false 11 k:=.inr (.inl ⟨rfl,rfl,r3,r,f3,g,rfl,rfl,hF,hG3,okF,okG,by lia,by rw[en',en];decide,hc⟩);show u12 _ _ _;refine Zz e12 ?_;refine⟨_,rfl,_,rfl,1,_,_,_,false,11,k,rfl,W,(fun z=>nomatch z),fun _ hx H' kp=>?_,fun _ h1 h2 rr H' kp hr=>?_⟩
     ·refine⟨_,rfl,_,_,rfl,rfl,.inl ⟨by decide,by decide⟩,_,rfl,_,_,rfl,rfl,_,rfl,_,_,rfl,rfl,11,k,congrArg (fun z=>[V.int 11,V.int z]) hk,fun _=>Zb1 (q _ (kk.trans kp)),fun y1 y2=>?_⟩;lia
     ·refine⟨_,rfl,_,_,rfl,rfl,.inl ⟨by decide,by decide⟩,_,rfl,_,_,rfl,rfl,_,rfl,_,_,rfl,rfl,11,k,congrArg (fun z=>[V.int 11,V.int z]) hk,fun y=>?_,fun _ _ r' H7 t7 hr'=>ZcU (t7 _ _ hr) hr' (q _ ((kk.trans kp).trans (Kp.same t7)))⟩;lia
    exact st11 _ rfl
   obtain⟨z1,z2,z3,zs,b1,b2,b3,b4,b5⟩:=id hG;have gl:zs.length<=450:=by rw[b5.length];exact okG.ql
   show u9 _ _ _;refine Zz e9 ?_;refine⟨_,rfl,_,rfl,r,_,3,_,rfl,rfl,SqT.of b1,rfl,z3,rfl,⟨_,SqT.of b4⟩,fun pl hpl=>?_⟩;refine Zc2 (K:=K) (a:=z3) (p:=pl) (xs:=zs) (fun i ys σ H2=>∃v0:Option V,σ =[v0]/\Zk H1 H2/\H2 pl=some (.lst ys)/\ys.length=((g.qs.take i).filter fun q=>decide (q.1=0)).length/\ys.length<=i) ⟨none,rfl,Zk.new hpl,Zc,rfl,Nat.le_refl _⟩ ?_ ?_ ?_
   ·rintro i ys σ H2 _ ⟨v0,_,sm,h,_⟩;exact⟨SqT.of (sm _ _ b4),h⟩
   ·rintro i ys z σ H2 hi hz ⟨v0,rfl,sm,hp,hn,hi9⟩;obtain⟨p,q1,e1,rfl,e2⟩:=b5.get i z hz;refine⟨_,rfl,p,_,0,_,rfl,rfl,SqT.of (sm _ _ e2),rfl,rfl,_,rfl,Zdn (fun c=>?_) (fun c=>?_)⟩
    ·have c:V.int q1.1=V.int 0:=of_decide_eq_true c;have c:q1.1=0:=by injection c
     refine⟨_,rfl,hp,ZW (by lia),CW.next hi ⟨_,rfl,sm.upd_new hpl,Zc,?_,?_⟩⟩
     ·rw[ZcO e1,if_pos c,List.length_append,hn];rfl
     ·rw[List.length_append];show _+1<=_;lia
    ·have c : ¬ q1.1=0:=fun z=>c (decide_eq_true (congrArg V.int z));exact CW.next hi ⟨_,rfl,sm,hp,by rw[ZcO e1,if_neg c,hn];rfl,by lia⟩
   ·rintro ys σ H2 ⟨v0,rfl,sm,hp,hn,hi9⟩;refine⟨pl,_,rfl,.inl (SqL.of hp),_,_,rfl,rfl,.inl ⟨by lia,by lia⟩,?_⟩;refine st10 ys.length H2 ?_ sm;rw[hn,b5.length,List.take_length];rfl
  refine⟨_,rfl,_,_,rfl,rfl,(by show(0:Int)<5;decide),?_⟩;show u7 _ _ _;refine Zz e7 ?_;refine⟨_,rfl,_,_,rfl,rfl,⟨by decide,by decide⟩,_,_,rfl,rfl,(by show(0:Int)<40;decide),_,_,rfl,rfl,?_⟩;subst eT eB;exact st8
 show u2 _ _ _;refine Zz e2 ?_;refine⟨_,rfl,_,_,rfl,rfl,(by show(0:Int)<396;decide),_,_,rfl,rfl,?_⟩;show u3 _ _ _;refine Zz e3 ?_;refine⟨_,rfl,_,_,rfl,rfl,⟨by decide,by decide⟩,_,_,rfl,rfl,(by show(0:Int)<4;decide),_,_,rfl,rfl,_,rfl,_,rfl,1+s / 396 % 4,1,1,sd,0,2+s % 396,rfl,by lia,by lia,by decide,by lia,by decide,by lia,by decide,by lia,by lia,by decide,fun r1 f1 H1 t1 hF okF en eh et pm=>?_⟩;have rf:Rf f1 (1+s / 396 % 4) 1 1 (2+s % 396).toNat:=Rf.of (by lia) (by decide) (by lia) en eh et pm;show u4 _ _ _;refine Zz e4 ?_;refine⟨_,rfl,_,rfl,_,rfl,_,_,rfl,rfl,3,2,1,sd,7,x-(2+s % 396),rfl,by decide,by decide,by decide,by decide,by decide,by decide,by decide,by lia,by lia,by decide,fun r2 f2 H2 t2 hG okG en2 eh2 et2 pm2=>?_⟩;have rg:Rf f2 3 2 1 (x-(2+s % 396)).toNat:=Rf.of (by decide) (by decide) (by lia) en2 eh2 et2 pm2;have hF2:FmQ H2 r1 f1:=FmQ.kept hF (Kp.same t2);obtain⟨hc,hl⟩:=ZjQ rf rg;have ek:(2+s % 396).toNat+(x-(2+s % 396)).toNat=x.toNat:=by lia
 rw[ek] at hc hl;have hk:x=(x.toNat:Int):=by lia
 have kk:=Kp.same (t1.trans t2);have W:Way K H2 0 (.ref r1) (.ref r2) "tag" false (f1.n+3) x.toNat:=.inl ⟨rfl,rfl,r1,r2,f1,f2,rfl,rfl,hF2,hG,okF,okG,by lia,by rw[en2],hc⟩;show u5 _ _ _;refine Zz e5 ?_;refine⟨_,rfl,_,rfl,0,_,_,_,false,f1.n+3,x.toNat,rfl,W,(fun z=>nomatch z),fun _ hx H' kp=>?_,fun _ h1 h2 rr H' kp hr=>?_⟩
 ·obtain⟨z1,z2,z3,zs,b1,b2,b3,b4,b5⟩:=FmQ.kept hF2 kp;refine⟨_,rfl,r1,_,0,_,rfl,rfl,SqT.of b1,rfl,_,_,rfl,rfl,_,rfl,f1.n+3,x.toNat,congrArg (fun z=>[V.int (f1.n+3),V.int z]) hk,fun _=>ZdN ⟨_,rfl,ZbF ?_⟩,fun y1 y2=>?_⟩
  ·exact rest6 _ r1 r2 _ (kk.trans kp)
  ·lia
 ·obtain⟨z1,z2,z3,zs,b1,b2,b3,b4,b5⟩:=FmQ.kept hF2 kp;refine⟨_,rfl,r1,_,0,_,rfl,rfl,SqT.of b1,rfl,_,_,rfl,rfl,_,rfl,f1.n+3,x.toNat,congrArg (fun z=>[V.int (f1.n+3),V.int z]) hk,fun y=>?_,fun _ _ r' H7 t7 hr'=>Zhs (t7 _ _ hr) hr' ⟨_,rfl,ZbF ?_⟩⟩
  ·lia
  ·exact rest6 _ r1 r2 _ ((kk.trans kp).trans (Kp.same t7))
set_option maxHeartbeats 8000000 in
theorem ZcI(B:∀x∈Zca,mg x=none)(g_l_cell:Has P w K mg base "_law_cell" ["_law_script","_law_k"] 1 (ZaV K)) (g_l_ruled:Has P w K mg base "_law_ruled" ["_law_many","_law_heads","_law_tails","_law_seed","_law_first","_law_count"] 2 Zc9) (g_l_said:Has P w K mg base "_law_said" ["_law_way","_law_one","_law_other","_law_tag_here"] 4 (Zcw K)) (g_l_due:Has P w K mg base "_law_due" ["_law_many","_law_rules"] 1 ZbM) (g_l_tag:Has P w K mg base "_law_tag" ["_law_seed","_law_v"] 1 Zci)
  (F:Fun K "_law_rows_of_one" "_law_rows_of_one" Zq f fd):FnOk P w K mg base CX0 5 f fd ["_law_script","_law_near"] (ZbZ K):=by
 refine F.ok ZF (fun vs H Q E h=>?_) (fun cdv A outer s H vs Q E hr h=>?_)
 ·obtain⟨a,ns,x,rfl,_⟩:=h;rfl
 obtain⟨a,ns,x,rfl,hS,h63,x0,x1,q⟩:=h;have hu:=ZbK hr;refine ZD ((Zf Zq).drop 10) (Zi (ZX (ZbH (Ze3 hu) (Zr g_l_said hr rfl (Za Zb (Za (pv 6) (Za (pv 6) (Za (Zr g_l_tag hr rfl (Za (pv 3) (Za (Zg ZM (pv 2) Zb) Zd))) Zd))))) (Zr g_l_due hr rfl (Za Zb (Za (Zg ZJ (pv 5) (pv 8)) Zd))) (Z4 _)))) (fun u10 h10 e10=>?_);refine ZD ((Zf Zq).drop 9) (Ze (Zm (i:=6) ZF.nd rfl (Or.inl rfl) (Zr g_l_ruled hr rfl (Za Zb (Za (pv 8) (Za Zb (Za (pv 3) (Za Zb (Za (pv 5) Zd)))))))) h10) (fun u9 h9 e9=>?_);refine ZD ((Zf Zq).drop 8) (Ze (Zm (i:=5) ZF.nd rfl (Or.inl rfl) (ZV (ZeM rfl) rfl (B "min" (by decide)) Zi7 (Za Zb (Za (Zg ZbE (pv 1) (pv 8)) Zd)))) h9) (fun u8 h8 e8=>?_);refine ZD ((Zf Zq).drop 7) (Ze (Zm (i:=8) ZF.nd rfl (Or.inl rfl) (Zg ZM (Zg Z3 (pv 2) Zb) Zb)) h8) (fun u7 h7 e7=>?_);refine ZD ((Zf Zq).drop 6) (Ze (ZaN (Z0 (ZhK hu) (Zr g_l_said hr rfl (Za Zb (Za (pv 6) (Za (pv 6) (Za Zal Zd))))) (Zr g_l_due hr rfl (Za Zb (Za (Zg ZJ (Zg Z7 Zb (pv 5)) (pv 7)) Zd))) (Z4 _))
   (Zi (ZX ZdQ))
   Zak) h7) (fun u6 h6 e6=>?_)
 refine ZD ((Zf Zq).drop 5) (Ze (Zm (i:=7) ZF.nd rfl (Or.inl rfl) (Zg Z7 (Zg ZJ Zb (ZV (ZeV rfl) rfl (B "max" (by decide)) Zjf (Za (Zg ZbE (pv 4) Zb) (Za Zb Zd)))) (ZV Zag rfl (B "len" (by decide)) PySem.boot_len (Za (Zcb (cl:=[]) ["_law_rule"] [] (Za8 (ZG Zy (pv 6) Zb (fun _ _=>rfl))) (fun _ _ _ _=>(Zt (i:=0) nd1 rfl (Or.inl rfl))) (fun _ _ _ _=>(Z0 Zbi (ZG (Zd1 (K:=K) rfl) (pv 0) Zb (fun _ _=>rfl)) Zb (Z4 _))) (fun _ _ _ _=>(pv 0)) rfl rfl (by decide) rfl (by decide) (fun _ _ h=>nomatch h) (Zcy (by decide)) (fun _ _ h=>nomatch h) (fun _=>rfl)) Zd)))) h6) (fun u5 h5 e5=>?_)
 refine ZD ((Zf Zq).drop 4) (Ze (Zm (i:=6) ZF.nd rfl (Or.inl rfl) (Zr g_l_ruled hr rfl (Za Zb (Za Zb (Za (pv 4) (Za (pv 3) (Za Zb (Za (pv 5) Zd)))))))) h5) (fun u4 h4 e4=>?_);refine ZD ((Zf Zq).drop 3) (Ze (Zm (i:=5) ZF.nd rfl (Or.inl rfl) (Zg ZbE (Zg ZJ (ZG ZaK (Zas (Za Zb (Za Zb (Za Zb (Za Zb (Za Zb Zd)))))) (pv 4) (fun _ _=>rfl)) (pv 1)) Zb)) h4) (fun u3 h3 e3=>?_);refine ZD ((Zf Zq).drop 2) (Ze (Zm (i:=4) ZF.nd rfl (Or.inl rfl) (Zg ZM (pv 2) Zb)) h3) (fun u2 h2 e2=>?_);refine ZD ((Zf Zq).drop 1) (Ze (Zm (i:=3) ZF.nd rfl (Or.inl rfl) (Zr g_l_cell hr rfl (Za (pv 0) (Za Zb Zd)))) h2) (fun u1 h1 e1=>?_);refine ZD ((Zf Zq).drop 0) (Ze (Zm (i:=2) ZF.nd rfl (Or.inl rfl) (Zr g_l_cell hr rfl (Za (pv 0) (Za Zb Zd)))) h1) (fun u0 h0 e0=>?_);refine⟨u0,h0,?_⟩;refine Zz e0 ?_;refine⟨_,rfl,a,ns,6,rfl,hS,h63,by decide,by decide,fun s s0 s1=>?_⟩;show u1 _ _ _;refine Zz e1 ?_;refine⟨_,rfl,a,ns,7,rfl,hS,h63,by decide,by decide,fun sd d0 d1=>?_⟩;have rest7:∀(T ct ld:Int)(r1:Addr)(H0:Hp),Kp H H0->u7 { nx:=fun _ H'=>Q .non H',rt:=Q } [some (.ref a),some (.int x),some (.int s),some (.int sd),some (.int T),some (.int ct),some (.ref r1),some (.int ld),none] H0:=fun T ct ld r1 H0 k0=>by
  refine Zz e7 ?_;refine⟨_,rfl,_,_,rfl,rfl,⟨by decide,by decide⟩,_,_,rfl,rfl,(by show(0:Int)<5;decide),?_⟩;show u8 _ _ _;refine Zz e8 ?_;refine⟨_,rfl,_,rfl,_,_,rfl,rfl,_,_,rfl,?_⟩;have st9:∀h c:Int,0<=h->h<=4->0<=c->c<=402->u9 { nx:=fun _ H'=>Q .non H',rt:=Q } [some (.ref a),some (.int x),some (.int s),some (.int sd),some (.int T),some (.int c),some (.ref r1),some (.int ld),some (.int h)] H0:=fun h c h0 h4 c0 c1=>by
   refine Zz e9 ?_;refine⟨_,rfl,_,rfl,_,rfl,4,h,1,sd,0,c,rfl,by decide,by decide,h0,h4,by decide,by decide,by decide,c0,by lia,by decide,fun r f1 H1 t1 hF okF en eh et pm=>?_⟩;have rf:Rf f1 4 h 1 c.toNat:=Rf.of (by decide) (by decide) (by lia) en eh et pm;obtain⟨hc,hl⟩:=Zk4 (w:=tg7 sd (s % 676)) h0 rf;have hk:c+h=((c.toNat+h.toNat:Nat):Int):=by lia
   have W:Way K H1 3 (.ref r) (.ref r) (tg7 sd (s % 676)) false 6 (c.toNat+h.toNat):=.inr (.inr (.inr (.inl ⟨rfl,ZkR (Zfj ..),Zfj ..,r,f1,rfl,hF,okF,by lia,by rw[en];decide,fun _=>hc⟩)));have kk:=k0.trans (Kp.same t1);show u10 _ _ _;refine Zz e10 ?_;refine⟨_,rfl,_,rfl,_,rfl,_,rfl,_,_,rfl,rfl,(by show(0:Int)<676;decide),sd,_,rfl,3,_,_,_,false,6,_,rfl,W,(fun z=>nomatch z),fun _ hx H' kp=>?_,fun _ h1 h2 rr H' kp hr=>?_⟩
   ·refine⟨_,rfl,_,rfl,_,_,rfl,rfl,6,_,congrArg (fun z=>[V.int 6,V.int z]) hk,fun _=>Zb1 (q _ (kk.trans kp)),fun y1 y2=>?_⟩;lia
   ·refine⟨_,rfl,_,rfl,_,_,rfl,rfl,6,_,congrArg (fun z=>[V.int 6,V.int z]) hk,fun y=>?_,fun _ _ r' H7 t7 hr'=>ZcU (t7 _ _ hr) hr' (q _ ((kk.trans kp).trans (Kp.same t7)))⟩;lia
  refine st9 _ _ (by lia) (by lia) ?_ ?_
  ·split <;> lia
  ·split <;> lia
 have st4:∀(T C:Int)(H0:Hp),Zk H H0->0<=T->T<=4->0<=C->C<=179->u4 { nx:=fun _ H'=>Q .non H',rt:=Q } [some (.ref a),some (.int x),some (.int s),some (.int sd),some (.int T),some (.int C),none,none,none] H0:=fun T C H0 t0 T0 T4 C0 C1=>by
  refine Zz e4 ?_;refine⟨_,rfl,_,rfl,_,rfl,4,1,T,sd,0,C,rfl,by decide,by decide,by decide,by decide,T0,T4,by decide,C0,by lia,by decide,fun r g H1 t1 hG okG en eh et pm=>?_⟩;have rg:Rf g 4 1 T C.toNat:=Rf.of (by decide) (by decide) (by lia) en eh et pm;have sg:st0 g=(C.toNat+3) / 4:=(ZhW pm).trans (ZlX _);obtain⟨M,eM⟩:∃M:Int,(1+if(0:Int) > T-1 then(0:Int) else T-1)=M:=⟨_,rfl⟩
  have hM:M=((1+(T.toNat-1):Nat):Int):=by subst eM;split <;> lia
  have st6:∀(L:Nat)(H2:Hp),L=st0 g->Zk H1 H2->u6 { nx:=fun _ H'=>Q .non H',rt:=Q } [some (.ref a),some (.int x),some (.int s),some (.int sd),some (.int T),some (.int C),some (.ref r),some (.int (M*(L:Int))),none] H2:=fun L H2 eL t2=>by
   obtain⟨hc,hl⟩:=ZiN (by decide) T0 T4 rg;rw[<- eL] at hc hl;have tl:(((1+(T.toNat-1))*L:Nat):Int)=M*(L:Int):=by rw[Int.natCast_mul,hM]
   have l45:L<=45:=by lia
   have l9:(1+T.toNat)*L<=5*45:=Nat.mul_le_mul (by lia) l45;obtain⟨k,ek⟩:∃k:Nat,2*C.toNat+(1+(T.toNat-1))*L=k:=⟨_,rfl⟩;rw[ek] at hc;have hk:2*C+M*(L:Int)=(k:Int):=by lia
   have hG2:FmQ H2 r g:=FmQ.kept hG (Kp.same t2);have W:Way K H2 2 (.ref r) (.ref r) "tag" false 9 k:=.inr (.inr (.inl ⟨rfl,rfl,r,g,rfl,hG2,okG,by lia,by rw[en];decide,hc⟩));have kk:=Kp.same (t0.trans (t1.trans t2));refine Zz e6 ?_;refine⟨_,rfl,_,rfl,2,_,_,_,false,9,k,rfl,W,(fun z=>nomatch z),fun _ hx H' kp=>?_,fun _ h1 h2 rr H' kp hr=>?_⟩
   ·refine⟨_,rfl,_,_,rfl,rfl,.inl ⟨by decide,by decide⟩,_,rfl,_,_,rfl,rfl,9,k,congrArg (fun z=>[V.int 9,V.int z]) hk,fun _=>ZdN ⟨_,rfl,ZbF ?_⟩,fun y1 y2=>?_⟩
    ·exact rest7 T _ _ r _ (kk.trans kp)
    ·lia
   ·refine⟨_,rfl,_,_,rfl,rfl,.inl ⟨by decide,by decide⟩,_,rfl,_,_,rfl,rfl,9,k,congrArg (fun z=>[V.int 9,V.int z]) hk,fun y=>?_,fun _ _ r' H7 t7 hr'=>Zhs (t7 _ _ hr) hr' ⟨_,rfl,ZbF ?_⟩⟩
    ·lia
    ·exact rest7 T _ _ r _ ((kk.trans kp).trans (Kp.same t7))
  obtain⟨z1,z2,z3,zs,b1,b2,b3,b4,b5⟩:=id hG;have gl:zs.length<=450:=by rw[b5.length];exact okG.ql
  show u5 _ _ _;refine Zz e5 ?_;refine⟨_,rfl,_,_,rfl,rfl,_,_,rfl,_,_,rfl,rfl,_,rfl,r,_,3,_,rfl,rfl,SqT.of b1,rfl,z3,rfl,⟨_,SqT.of b4⟩,fun pl hpl=>?_⟩;refine Zc2 (K:=K) (a:=z3) (p:=pl) (xs:=zs) (fun i ys σ H2=>∃v0:Option V,σ =[v0]/\Zk H1 H2/\H2 pl=some (.lst ys)/\ys.length=((g.qs.take i).filter fun q=>decide (q.1=0)).length/\ys.length<=i) ⟨none,rfl,Zk.new hpl,Zc,rfl,Nat.le_refl _⟩ ?_ ?_ ?_
  ·rintro i ys σ H2 _ ⟨v0,_,sm,h,_⟩;exact⟨SqT.of (sm _ _ b4),h⟩
  ·rintro i ys z σ H2 hi hz ⟨v0,rfl,sm,hp,hn,hi9⟩;obtain⟨p,q1,e1,rfl,e2⟩:=b5.get i z hz;refine⟨_,rfl,p,_,0,_,rfl,rfl,SqT.of (sm _ _ e2),rfl,rfl,_,rfl,Zdn (fun c=>?_) (fun c=>?_)⟩
   ·have c:V.int q1.1=V.int 0:=of_decide_eq_true c;have c:q1.1=0:=by injection c
    refine⟨_,rfl,hp,ZW (by lia),CW.next hi ⟨_,rfl,sm.upd_new hpl,Zc,?_,?_⟩⟩
    ·rw[ZcO e1,if_pos c,List.length_append,hn];rfl
    ·rw[List.length_append];show _+1<=_;lia
   ·have c : ¬ q1.1=0:=fun z=>c (decide_eq_true (congrArg V.int z));exact CW.next hi ⟨_,rfl,sm,hp,by rw[ZcO e1,if_neg c,hn];rfl,by lia⟩
  ·rintro ys σ H2 ⟨v0,rfl,sm,hp,hn,hi9⟩;refine⟨pl,_,rfl,.inl (SqL.of hp),M,_,congrArg V.int eM,rfl,.inl ⟨by lia,by lia⟩,?_⟩;refine st6 ys.length H2 ?_ sm;rw[hn,b5.length,List.take_length];rfl
 show u2 _ _ _;refine Zz e2 ?_;refine⟨_,rfl,_,_,rfl,rfl,(by show(0:Int)<5;decide),?_⟩;have w0:=Int.emod_nonneg s (by decide:(5:Int)≠0);have w5:=Int.emod_lt_of_pos s (by decide:(0:Int)<5);show u3 _ _ _;refine Zz e3 ?_;refine⟨(by show(5:Nat)<=sizeLine;decide),fun p1 hp1=>?_⟩;refine⟨_,rfl,p1,_,s % 5,_,rfl,rfl,SqL.of Zc,Zh7 w0 w5 ..,_,rfl,_,_,rfl,rfl,_,_,rfl,rfl,?_⟩;have b0:133<=ZgP (s % 5) 177 177 160 145 133:=Zb3 (P:=fun z=>133<=z) (fun _=>by decide) (fun _=>by decide) (fun _=>by decide) (fun _=>by decide) fun _ _ _ _=>by decide
 have b1:ZgP (s % 5) 177 177 160 145 133<=177:=Zb3 (P:=fun z=>z<=177) (fun _=>by decide) (fun _=>by decide) (fun _=>by decide) (fun _=>by decide) fun _ _ _ _=>by decide
 exact st4 _ _ _ (Zk.new hp1) w0 (by lia) (by lia) (by lia)
theorem ZlL{i:Int}(h0:0<=i)(h6:i<6):∃a:Int,atI [V.int 20,.int 16,.int 25,.int 10,.int 40,.int 8] i=some (.int a)/\8<=a/\a<=40/\360<=a*(400 / a-1)/\a*(400 / a-1)<=392/\0<=400 / a-1/\400 / a-1<=49:=by
 have:i=0\/i=1\/i=2\/i=3\/i=4\/i=5:=by lia
 rcases this with rfl|rfl|rfl|rfl|rfl|rfl
 ·exact⟨20,rfl,by decide,by decide,by decide,by decide,by decide,by decide⟩
 ·exact⟨16,rfl,by decide,by decide,by decide,by decide,by decide,by decide⟩
 ·exact⟨25,rfl,by decide,by decide,by decide,by decide,by decide,by decide⟩
 ·exact⟨10,rfl,by decide,by decide,by decide,by decide,by decide,by decide⟩
 ·exact⟨40,rfl,by decide,by decide,by decide,by decide,by decide,by decide⟩
 ·exact⟨8,rfl,by decide,by decide,by decide,by decide,by decide,by decide⟩
theorem ZkL{fs:List Srd.Qd}(h:fs.length<=450):Ok47 ⟨4,[0,1],[0],fs⟩:=⟨(by show(0:Int)<=4;decide),(by show(4:Int)<=64;decide),(by show((2:Nat):Int)<=4;decide),(by show((1:Nat):Int)<=4;decide),(by show 2<=64;decide),(by show 1<=64;decide),h⟩
theorem ZiK{fs:List Srd.Qd}(h:fs.length<=450):Ok47 ⟨4,[0],[0,1,2],fs⟩:=⟨(by show(0:Int)<=4;decide),(by show(4:Int)<=64;decide),(by show((1:Nat):Int)<=4;decide),(by show((3:Nat):Int)<=4;decide),(by show 1<=64;decide),(by show 3<=64;decide),h⟩
set_option maxHeartbeats 8000000 in
theorem ZbL(B:∀x∈Zca,mg x=none)(g_l_cell:Has P w K mg base "_law_cell" ["_law_script","_law_k"] 1 (ZaV K)) (g_l_tag:Has P w K mg base "_law_tag" ["_law_seed","_law_v"] 1 Zci) (g_l_ruled:Has P w K mg base "_law_ruled" ["_law_many","_law_heads","_law_tails","_law_seed","_law_first","_law_count"] 2 Zc9) (g_l_said:Has P w K mg base "_law_said" ["_law_way","_law_one","_law_other","_law_tag_here"] 4 (Zcw K)) (g_l_due:Has P w K mg base "_law_due" ["_law_many","_law_rules"] 1 ZbM)
  (F:Fun K "_law_rows_in_common" "_law_rows_in_common" Zj f fd):FnOk P w K mg base CX0 5 f fd ["_law_script","_law_near"] (ZbZ K):=by
 refine F.ok Zu (fun vs H Q E h=>?_) (fun cdv A outer s H vs Q E hr h=>?_)
 ·obtain⟨a,ns,x,rfl,_⟩:=h;rfl
 obtain⟨a,ns,x,rfl,hS,h63,x0,x1,q⟩:=h;have hu:=ZbK hr;refine ZD ((Zf Zj).drop 10) (Zi (ZX (ZbH (Ze3 hu) (Zr g_l_said hr rfl (Za Zb (Za (pv 10) (Za (pv 11) (Za Zal Zd))))) (Zr g_l_due hr rfl (Za Zb (Za (pv 1) Zd))) (Z4 _)))) (fun u10 h10 e10=>?_);refine ZD ((Zf Zj).drop 9) (Ze (Zm (i:=11) Zu.nd rfl (Or.inl rfl) (Zad (Za Zb (Za (Zad (Za Zb Zd)) (Za (Zad (Za Zb (Za Zb (Za Zb Zd)))) (Za (ZL Z1 rfl (B "tuple" (by decide)) ZaG (Za (ZV (Zbb rfl) rfl (B "sorted" (by decide)) ZcX (Za (Zg ZaL (ZL Z2 rfl (B "list" (by decide)) ZaS (Za (pv 7) Zd)) (pv 9)) Zd)) Zd)) Zd)))))) h10) (fun u9 h9 e9=>?_);refine ZD ((Zf Zj).drop 8) (Ze (Zm (i:=10) Zu.nd rfl (Or.inl rfl) (Zad (Za Zb (Za (Zad (Za Zb (Za Zb Zd))) (Za (Zad (Za Zb Zd)) (Za (ZL Z1 rfl (B "tuple" (by decide)) ZaG (Za (ZV (Zbb rfl) rfl (B "sorted" (by decide)) ZcX (Za (Zg ZaL (ZL Z2 rfl (B "list" (by decide)) ZaS (Za (pv 7) Zd)) (pv 8)) Zd)) Zd)) Zd)))))) h9) (fun u8 h8 e8=>?_);refine ZD ((Zf Zj).drop 7) (Ze (ZbI (cl:=_) (n0:=9) Zu.nd rfl (Or.inl rfl) ["_law_j"] [("_law_word",6)] (ZaI rfl (B "range" (by decide)) (Za (pv 5) Zd)) (fun _ _ _ _=>(Zt (i:=0) (show List.Nodup (["_law_j","_law_word"]:List Str) by decide) rfl (Or.inl rfl))) (fun _ _ _ _=>(Zad (Za (Zg Z3 (pv 0) Zb) (Za (pv 1) (Za (Zg ZM (Zg Z3 (pv 0) Zb) Zb) (Za (Zg ZM (pv 0) Zb) Zd)))))) rfl rfl (by decide) rfl (by decide) (Za1 (by(repeat' first|exact List.forall_mem_nil _|refine List.forall_mem_cons.mpr ⟨?_,?_⟩) <;> rfl)) (ZaE (by(repeat' first|exact List.forall_mem_nil _|refine List.forall_mem_cons.mpr ⟨?_,?_⟩) <;> first|(intro h;exact⟨_,rfl⟩)|(intro h;exact absurd h (by decide)))) (fun _=>by(repeat' first|exact List.forall_mem_nil _|refine List.forall_mem_cons.mpr ⟨?_,?_⟩) <;> exact⟨rfl,rfl,Or.inl rfl⟩) (fun _=>rfl) rfl) h8) (fun u7 h7 e7=>?_)
 refine ZD ((Zf Zj).drop 6) (Ze (ZbI (cl:=_) (n0:=8) Zu.nd rfl (Or.inl rfl) ["_law_j"] [("_law_word",6)] (ZaI rfl (B "range" (by decide)) (Za (pv 4) Zd)) (fun _ _ _ _=>(Zt (i:=0) (show List.Nodup (["_law_j","_law_word"]:List Str) by decide) rfl (Or.inl rfl))) (fun _ _ _ _=>(Zad (Za (Zg ZM (pv 0) Zb) (Za (pv 1) (Za (Zg ZM (Zg Z3 (pv 0) Zb) Zb) (Za (Zg Z3 (pv 0) Zb) Zd)))))) rfl rfl (by decide) rfl (by decide) (Za1 (by(repeat' first|exact List.forall_mem_nil _|refine List.forall_mem_cons.mpr ⟨?_,?_⟩) <;> rfl)) (ZaE (by(repeat' first|exact List.forall_mem_nil _|refine List.forall_mem_cons.mpr ⟨?_,?_⟩) <;> first|(intro h;exact⟨_,rfl⟩)|(intro h;exact absurd h (by decide)))) (fun _=>by(repeat' first|exact List.forall_mem_nil _|refine List.forall_mem_cons.mpr ⟨?_,?_⟩) <;> exact⟨rfl,rfl,Or.inl rfl⟩) (fun _=>rfl) rfl) h7) (fun u6 h6 e6=>?_)
 refine ZD ((Zf Zj).drop 5) (Ze (Zm (i:=7) Zu.nd rfl (Or.inl rfl) (ZG Zy (Zr g_l_ruled hr rfl (Za Zb (Za Zb (Za Zb (Za (pv 3) (Za (Zg ZM (Zg Z3 (pv 2) Zb) Zb) (Za (Zg ZbE (pv 1) (Zg Z7 (pv 4) (pv 5))) Zd))))))) Zb (fun _ _=>rfl))) h6) (fun u5 h5 e5=>?_);refine ZD ((Zf Zj).drop 4) (Ze (Zm (i:=6) Zu.nd rfl (Or.inr rfl) (Zr g_l_tag hr rfl (Za (pv 3) (Za Zb Zd)))) h5) (fun u4 h4 e4=>?_);refine ZD ((Zf Zj).drop 3) (Ze (Zm (i:=5) Zu.nd rfl (Or.inl rfl) (Zg ZbE (Zg Z3 Zb (pv 4)) Zb)) h4) (fun u3 h3 e3=>?_);refine ZD ((Zf Zj).drop 2) (Ze (Zm (i:=4) Zu.nd rfl (Or.inl rfl) (ZG ZaK (Zas (Za Zb (Za Zb (Za Zb (Za Zb (Za Zb (Za Zb Zd))))))) (Zg ZM (pv 2) Zb) (fun _ _=>rfl))) h3) (fun u2 h2 e2=>?_);refine ZD ((Zf Zj).drop 1) (Ze (Zm (i:=3) Zu.nd rfl (Or.inl rfl) (Zr g_l_cell hr rfl (Za (pv 0) (Za Zb Zd)))) h2) (fun u1 h1 e1=>?_);refine ZD ((Zf Zj).drop 0) (Ze (Zm (i:=2) Zu.nd rfl (Or.inl rfl) (Zr g_l_cell hr rfl (Za (pv 0) (Za Zb Zd)))) h1) (fun u0 h0 e0=>?_);refine⟨u0,h0,?_⟩;refine Zz e0 ?_;refine⟨_,rfl,a,ns,6,rfl,hS,h63,by decide,by decide,fun s s0 s1=>?_⟩;show u1 _ _ _;refine Zz e1 ?_;refine⟨_,rfl,a,ns,7,rfl,hS,h63,by decide,by decide,fun sd d0 d1=>?_⟩;have st5:∀(A b:Int)(H0:Hp),Zk H H0->8<=A->A<=40->360<=A*b->A*b<=392->0<=b->b<=49->u5 { nx:=fun _ H'=>Q .non H',rt:=Q } [some (.ref a),some (.int x),some (.int s),some (.int sd),some (.int A),some (.int b),some (.str (tg7 sd 600)),none,none,none,none,none] H0:=fun A b H0 t0 A8 A40 p0 p1 b0 b49=>by
  refine Zz e5 ?_;refine⟨_,rfl,_,rfl,_,_,rfl,rfl,⟨by decide,by decide⟩,_,_,rfl,rfl,(by show(0:Int)<500;decide),_,rfl,_,rfl,_,rfl,_,_,rfl,rfl,.inl ⟨by lia,by lia⟩,_,_,rfl,rfl,4,1,1,sd,s / 6 % 500,x-A*b,rfl,by decide,by decide,by decide,by decide,by decide,by decide,by lia,by lia,by lia,by lia,fun r z H1 t1 hZ okZ en eh et pz=>?_⟩;obtain⟨z1,z2,z3,zs,c1,c2,c3,c4,c5⟩:=hZ;refine⟨r,_,3,_,rfl,rfl,SqT.of c1,rfl,?_⟩;have zl:z.qs.length=(x-A*b).toNat:=by rw[pz.length_eq,ZhC]
  have zl':=c5.length;show u6 _ _ _;refine Zz e6 ?_;refine⟨_,rfl,A,rfl,by lia,by lia,fun pa hpa=>?_⟩;refine Za2 (lo:=0) (n:=A.toNat) (p:=pa) (fun i ys σ H2=>∃v0:Option V,σ =[v0,some (.str (tg7 sd 600))]/\Zk H1 H2/\H2 pa=some (.lst ys)/\QL H2 ys (onL (tg7 sd 600) i)) ⟨none,rfl,Zk.new hpa,Zc,.nil⟩ ?_ ?_ ?_
  ·rintro i ys σ H2 _ ⟨v0,_,_,h,_⟩;exact h
  ·rintro i ys σ H2 hi ⟨v0,rfl,sm,hp,hq⟩;have hyl:ys.length=i:=by rw[hq.length];unfold onL;rw[List.length_map,List.length_range]
   refine⟨_,rfl,_,_,rfl,rfl,(by show(0:Int)<4;decide),_,rfl,_,rfl,_,_,rfl,rfl,⟨by decide,by decide⟩,_,_,rfl,rfl,(by show(0:Int)<4;decide),_,rfl,_,_,rfl,rfl,⟨by decide,by decide⟩,(by show(4:Nat)<=sizeLine;decide),fun u hu=>?_⟩;have ej:(0+(i:Int))=(i:Int):=Int.zero_add _;rw[ej];have t2:=Zk.new (o:=tq (onQ (tg7 sd 600) i)) hu;have e2:upd H2 u (tq (onQ (tg7 sd 600) i)) u=some (tq (onQ (tg7 sd 600) i)):=Zc;refine⟨t2 _ _ hp,ZW (by lia),CW.next hi ⟨_,rfl,(sm.trans t2).upd_new hpa,Zc,?_⟩⟩
   have:onL (tg7 sd 600) (i+1)=onL (tg7 sd 600) i ++ [onQ (tg7 sd 600) i]:=by unfold onL;rw[List.range_succ,List.map_append];rfl
   rw[this];exact(QL.snoc e2 (hq.keep fun b xs e=>t2 _ _ e)).keep (ZaD (t2 _ _ hp))
  rintro ya σa H2 ⟨va,rfl,t2,ha,hqa⟩;show u7 _ _ _;refine Zz e7 ?_;refine⟨_,rfl,b,rfl,by lia,by lia,fun pb hpb=>?_⟩;refine Za2 (lo:=0) (n:=b.toNat) (p:=pb) (fun i ys σ H3=>∃v0:Option V,σ =[v0,some (.str (tg7 sd 600))]/\Zk H2 H3/\H3 pb=some (.lst ys)/\QL H3 ys (otL (tg7 sd 600) i)) ⟨none,rfl,Zk.new hpb,Zc,.nil⟩ ?_ ?_ ?_
  ·rintro i ys σ H2 _ ⟨v0,_,_,h,_⟩;exact h
  ·rintro i ys σ H2 hi ⟨v0,rfl,sm,hp,hq⟩;have hyl:ys.length=i:=by rw[hq.length];unfold otL;rw[List.length_map,List.length_range]
   refine⟨_,rfl,_,_,rfl,rfl,⟨by decide,by decide⟩,_,rfl,_,rfl,_,_,rfl,rfl,⟨by decide,by decide⟩,_,_,rfl,rfl,(by show(0:Int)<4;decide),_,rfl,_,_,rfl,rfl,(by show(0:Int)<4;decide),(by show(4:Nat)<=sizeLine;decide),fun u hu=>?_⟩;have ej:(0+(i:Int))=(i:Int):=Int.zero_add _;rw[ej];have t2:=Zk.new (o:=tq (otQ (tg7 sd 600) i)) hu;have e2:upd H2 u (tq (otQ (tg7 sd 600) i)) u=some (tq (otQ (tg7 sd 600) i)):=Zc;refine⟨t2 _ _ hp,ZW (by lia),CW.next hi ⟨_,rfl,(sm.trans t2).upd_new hpb,Zc,?_⟩⟩
   have:otL (tg7 sd 600) (i+1)=otL (tg7 sd 600) i ++ [otQ (tg7 sd 600) i]:=by unfold otL;rw[List.range_succ,List.map_append];rfl
   rw[this];exact(QL.snoc e2 (hq.keep fun b xs e=>t2 _ _ e)).keep (ZaD (t2 _ _ hp))
  rintro yb σb H3 ⟨vb,rfl,t3,hb,hqb⟩;have hal:ya.length<=40:=by rw[hqa.length];unfold onL;rw[List.length_map,List.length_range];lia
  have hbl:yb.length<=49:=by rw[hqb.length];unfold otL;rw[List.length_map,List.length_range];lia
  have zl9:zs.length<=42:=by lia
  have hzq:∀H4,Zk H3 H4->SqT K H4 z3 zs/\QL H4 zs z.qs:=fun H4 t4=>⟨SqT.of (t4 _ _ ((t2.trans t3) _ _ c4)),c5.keep fun b xs e=>t4 _ _ ((t2.trans t3) _ _ e)⟩;have zq9:z.qs.length<=42:=by lia
  have ol:(onL (tg7 sd 600) A.toNat).length<=40:=by unfold onL;rw[List.length_map,List.length_range];lia
  have tl:(otL (tg7 sd 600) b.toNat).length<=49:=by unfold otL;rw[List.length_map,List.length_range];lia
  have st10:∀(o1 o2:Addr)(fs gs:List Srd.Qd)(H4:Hp),Zk H3 H4->FmQ H4 o1 ⟨4,[0,1],[0],fs⟩->fs.Perm (z.qs++onL (tg7 sd 600) A.toNat)->FmQ H4 o2 ⟨4,[0],[0,1,2],gs⟩->gs.Perm (z.qs++otL (tg7 sd 600) b.toNat)->u10 { nx:=fun _ H'=>Q .non H',rt:=Q } [some (.ref a),some (.int x),some (.int s),some (.int sd),some (.int A),some (.int b),some (.str (tg7 sd 600)),some (.ref z3),some (.ref pa),some (.ref pb),some (.ref o1),some (.ref o2)] H4:=fun o1 o2 fs gs H4 t4 F1 pf F2 pg=>by
   have fl:fs.length<=82:=by rw[pf.length_eq,List.length_append];lia
   have gl:gs.length<=91:=by rw[pg.length_eq,List.length_append];lia
   obtain⟨hc,hl⟩:=Zkd (by lia) (by lia) (by lia) (by lia) pz pf pg;have ab:((A.toNat*b.toNat:Nat):Int)=A*b:=by rw[Int.natCast_mul,Int.toNat_of_nonneg (by lia),Int.toNat_of_nonneg b0]
   have ek:(x-A*b).toNat+A.toNat*b.toNat=x.toNat:=by lia
   rw[ek] at hc hl;have hk:x=(x.toNat:Int):=by lia
   have W:Way K H4 4 (.ref o1) (.ref o2) "tag" false 16 x.toNat:=.inr (.inr (.inr (.inr (.inl ⟨rfl,rfl,o1,o2,_,_,rfl,rfl,F1,F2,ZkL (by lia),ZiK (by lia),by show(Zay 4 fs gs).length<=900;lia,Nat.le_trans (Nat.mul_le_mul fl gl) (by decide),rfl,hc⟩))));have kk:=Kp.same (t0.trans (t1.trans ((t2.trans t3).trans t4)));refine Zz e10 ?_;refine⟨_,rfl,_,rfl,4,_,_,_,false,16,x.toNat,rfl,W,(fun z=>nomatch z),fun _ hx H' kp=>?_,fun _ h1 h2 rr H' kp hr=>?_⟩
   ·refine⟨_,rfl,16,x.toNat,congrArg (fun z=>[V.int 16,V.int z]) hk,fun _=>Zb1 (q _ (kk.trans kp)),fun y1 y2=>?_⟩;lia
   ·refine⟨_,rfl,16,x.toNat,congrArg (fun z=>[V.int 16,V.int z]) hk,fun y=>?_,fun _ _ r' H7 t7 hr'=>ZcU (t7 _ _ hr) hr' (q _ ((kk.trans kp).trans (Kp.same t7)))⟩;lia
  have st9:∀(o1:Addr)(fs:List Srd.Qd)(H4:Hp),Zk H3 H4->FmQ H4 o1 ⟨4,[0,1],[0],fs⟩->fs.Perm (z.qs++onL (tg7 sd 600) A.toNat)->u9 { nx:=fun _ H'=>Q .non H',rt:=Q } [some (.ref a),some (.int x),some (.int s),some (.int sd),some (.int A),some (.int b),some (.str (tg7 sd 600)),some (.ref z3),some (.ref pa),some (.ref pb),some (.ref o1),none] H4:=fun o1 fs H4 t4 F1 pf=>by
   refine Zz e9 ?_;refine⟨(by show(1:Nat)<=sizeLine;decide),fun l1 h1=>?_⟩;have s1:=Zk.new (o:=.tup [V.int 0]) h1;refine⟨(by show(3:Nat)<=sizeLine;decide),fun l2 h2=>?_⟩;have s2:=Zk.new (o:=.tup [V.int 0,.int 1,.int 2]) h2;have s12:=s1.trans s2;obtain⟨k1,k2⟩:=hzq _ (t4.trans s12);refine⟨_,rfl,z3,_,rfl,.inr k1,fun l3 h3=>?_⟩;have s3:=Zk.new (o:=.lst zs) h3;refine⟨_,rfl,l3,pb,_,_,rfl,rfl,Zc,s3 _ _ (s12 _ _ (t4 _ _ hb)),ZZ (by lia),fun l4 h4=>?_⟩;have s4:=Zk.new (o:=.lst (zs++yb)) h4;have s34:=s3.trans s4;refine .inl ⟨l4,_,z.qs++otL (tg7 sd 600) b.toNat,rfl,SqL.of Zc,by rw[List.length_append];lia,QL.app (hqb.keep fun b xs e=>s34 _ _ (s12 _ _ (t4 _ _ e))) (k2.keep fun b xs e=>s34 _ _ e),fun r5 y5 m5 h5 _ pm5 q5=>?_⟩;have s5:=Zk.new (o:=.lst y5) h5;refine⟨r5,y5,rfl,.inl ⟨SqL.of Zc,fun l6 h6=>?_⟩⟩;have s6:=Zk.new (o:=.tup y5) h6;refine⟨(by show(4:Nat)<=sizeLine;decide),fun l7 h7=>?_⟩;have s7:=Zk.new (o:=.tup [V.int 4,.ref l1,.ref l2,.ref l6]) h7;have s57:=s5.trans (s6.trans s7);have s37:=s34.trans s57;exact st10 o1 l7 fs m5 _ (t4.trans (s12.trans s37)) (FmQ.kept F1 (Kp.same (s12.trans s37))) pf ⟨l1,l2,l6,y5,Zc,s37 _ _ (s2 _ _ Zc),s37 _ _ Zc,s7 _ _ Zc,q5.keep fun b xs e=>s57 _ _ e⟩ pm5
  show u8 _ _ _;refine Zz e8 ?_;refine⟨(by show(2:Nat)<=sizeLine;decide),fun l1 h1=>?_⟩;have s1:=Zk.new (o:=.tup [V.int 0,.int 1]) h1;refine⟨(by show(1:Nat)<=sizeLine;decide),fun l2 h2=>?_⟩;have s2:=Zk.new (o:=.tup [V.int 0]) h2;have s12:=s1.trans s2;obtain⟨k1,k2⟩:=hzq _ s12;refine⟨_,rfl,z3,_,rfl,.inr k1,fun l3 h3=>?_⟩;have s3:=Zk.new (o:=.lst zs) h3;refine⟨_,rfl,l3,pa,_,_,rfl,rfl,Zc,s3 _ _ (s12 _ _ (t3 _ _ ha)),ZZ (by lia),fun l4 h4=>?_⟩;have s4:=Zk.new (o:=.lst (zs++ya)) h4;have s34:=s3.trans s4;refine .inl ⟨l4,_,z.qs++onL (tg7 sd 600) A.toNat,rfl,SqL.of Zc,by rw[List.length_append];lia,QL.app (hqa.keep fun b xs e=>s34 _ _ (s12 _ _ (t3 _ _ e))) (k2.keep fun b xs e=>s34 _ _ e),fun r5 y5 m5 h5 _ pm5 q5=>?_⟩;have s5:=Zk.new (o:=.lst y5) h5;refine⟨r5,y5,rfl,.inl ⟨SqL.of Zc,fun l6 h6=>?_⟩⟩;have s6:=Zk.new (o:=.tup y5) h6;refine⟨(by show(4:Nat)<=sizeLine;decide),fun l7 h7=>?_⟩;have s7:=Zk.new (o:=.tup [V.int 4,.ref l1,.ref l2,.ref l6]) h7;have s57:=s5.trans (s6.trans s7);have s37:=s34.trans s57;exact st9 l7 m5 _ (s12.trans s37) ⟨l1,l2,l6,y5,Zc,s37 _ _ (s2 _ _ Zc),s37 _ _ Zc,s7 _ _ Zc,q5.keep fun b xs e=>s57 _ _ e⟩ pm5
 show u2 _ _ _;refine Zz e2 ?_;obtain⟨A,hA,A8,A40,p0,p1,b0,b49⟩:=ZlL (i:=s % 6) (Int.emod_nonneg _ (by decide)) (Int.emod_lt_of_pos _ (by decide));refine⟨(by show(6:Nat)<=sizeLine;decide),fun pl hpl=>⟨_,rfl,_,_,rfl,rfl,(by show(0:Int)<6;decide),pl,_,s % 6,_,rfl,rfl,SqL.of Zc,hA,?_⟩⟩;show u3 _ _ _;refine Zz e3 ?_;refine⟨_,rfl,_,_,rfl,rfl,⟨by lia,by lia⟩,_,_,rfl,rfl,?_⟩;show u4 _ _ _;refine Zz e4 ?_;refine⟨_,rfl,sd,600,rfl,?_⟩;exact st5 A (400 / A-1) _ (Zk.new hpl) A8 A40 p0 p1 b0 b49
theorem cut_str(ts:List Str)(lo hi:Option Int):∃us:List Str,ZdI (ts.map V.str) lo hi=us.map V.str/\(∀u∈us,u∈ts)/\us.length<=ts.length:=by
 refine⟨(ts.drop (HT.sIx (ts.map V.str).length 0 lo)).take (HT.sIx (ts.map V.str).length (ts.map V.str).length hi-HT.sIx (ts.map V.str).length 0 lo),?_,fun u hu=>List.mem_of_mem_drop (List.mem_of_mem_take hu),?_⟩
 ·unfold ZdI;rw[List.map_take,List.map_drop]
 ·rw[List.length_take,List.length_drop];lia
def Zjo:List Str:=["","Tag","tags1","a b","a/","ninesigns","{}","a-b"]
theorem Zge:∀x∈Zjo,ZcW x=false/\Zj2 x:=by
 have:∀x∈Zjo,ZcW x=false/\x.length<=1000/\∀c∈x.cps.toList,c<16 ^ 8:=by decide
 exact this
theorem ZjU{i:Int}(h0:0<=i)(h1:i<8):∃x,atI (Zjo.map V.str) i=some (.str x)/\x∈Zjo:=by
 obtain⟨n,rfl⟩:=Int.eq_ofNat_of_zero_le h0;have hn:n<Zjo.length:=by show n<8;lia
 refine⟨Zjo[n],Zd2 ?_,List.getElem_mem hn⟩;rw[List.getElem?_map,List.getElem?_eq_getElem hn];rfl
set_option maxHeartbeats 8000000 in
theorem Zdo(B:∀x∈Zca,mg x=none)(g_l_cell:Has P w K mg base "_law_cell" ["_law_script","_law_k"] 1 (ZaV K)) (g_l_said:Has P w K mg base "_law_said" ["_law_way","_law_one","_law_other","_law_tag_here"] 4 (Zcw K)) (g_l_bare:Has P w K mg base "_law_bare" ["_law_many","_law_cell_here"] 1 Zf0)
  (F:Fun K "_law_bad_asked" "_law_bad_asked" ZS f fd):FnOk P w K mg base CX0 5 f fd ["_law_script","_law_tags"] (ZjV K):=by
 refine F.ok ZaH (fun vs H Q E h=>?_) (fun cdv A outer s H vs Q E hr h=>?_)
 ·obtain⟨a,b,ns,ts,rfl,_⟩:=h;rfl
 obtain⟨a,b,ns,ts,rfl,hS,h63,hT,htl,htb,q⟩:=h;have hu:=ZbK hr;refine ZD ((Zf ZS).drop 4) (Zi (ZX (ZbH (ZjP hu) (Zr g_l_said hr rfl (Za Zb (Za (Zad Zd) (Za (Zg ZaL (Zg ZaL (Zb7 Zfr (pv 1) ZdL (Zck (pv 4))) (Zas (Za (pv 3) Zd))) (Zb7 Zfr (pv 1) (Zck (pv 4)) ZdL)) (Za Zal Zd))))) Zal (Z4 _)))) (fun u4 h4 e4=>?_);refine ZD ((Zf ZS).drop 3) (Ze (Zm (i:=4) ZaH.nd rfl (Or.inl rfl) (Zg ZM (Zg Z3 (pv 2) Zb) (Zg ZJ (ZV Zag rfl (B "len" (by decide)) PySem.boot_len (Za (pv 1) Zd)) Zb))) h4) (fun u3 h3 e3=>?_);refine ZD ((Zf ZS).drop 2) (Ze (ZaN (Z0 (ZhK hu) (Zr g_l_said hr rfl (Za Zb (Za (Zr g_l_bare hr rfl (Za (Zg ZM (Zg Z3 (pv 2) Zb) Zb) (Za (pv 2) Zd))) (Za (Zad Zd) (Za (pv 3) Zd))))) Zal (Z4 _))
   (Zi (ZX ZdQ))
   Zak) h3) (fun u2 h2 e2=>?_)
 refine ZD ((Zf ZS).drop 1) (Ze (Zm (i:=3) ZaH.nd rfl (Or.inl rfl) (ZG ZaK (Zas ZjB) (Zg ZM (pv 2) Zb) (fun _ _=>rfl))) h2) (fun u1 h1 e1=>?_);refine ZD ((Zf ZS).drop 0) (Ze (Zm (i:=2) ZaH.nd rfl (Or.inl rfl) (Zr g_l_cell hr rfl (Za (pv 0) (Za Zb Zd)))) h1) (fun u0 h0 e0=>?_);refine⟨u0,h0,?_⟩;refine Zz e0 ?_;refine⟨_,rfl,a,ns,4,rfl,hS,h63,by decide,by decide,fun c c0 c1=>?_⟩;have rest3:∀(bd:Str)(H0:Hp),bd∈Zjo->Kp H H0->u3 { nx:=fun _ H'=>Q .non H',rt:=Q } [some (.ref a),some (.ref b),some (.int c),some (.str bd),none] H0:=fun bd H0 hb k0=>by
  obtain⟨hb1,hb2⟩:=Zge bd hb;have tp:(0:Int)<((ts.map V.str).length:Int)+1:=by lia
  refine Zz e3 ?_;refine⟨_,rfl,_,_,rfl,rfl,⟨by decide,by decide⟩,_,rfl,b,_,rfl,.inl (k0.seq hT),_,_,rfl,rfl,_,_,rfl,rfl,tp,?_⟩;show u4 _ _ _;refine Zz e4 ?_;refine⟨by decide,fun p1 hp1=>?_⟩;have t1:=Zk.new (o:=.tup []) hp1;obtain⟨us,eu,um,ul⟩:=cut_str ts none (some (c / 8 % (((ts.map V.str).length:Int)+1)));obtain⟨vs,ev,vm,vl⟩:=cut_str ts (some (c / 8 % (((ts.map V.str).length:Int)+1))) none;have T1:=Kp.seq (k0.trans (Kp.same t1)) hT;refine⟨_,rfl,_,rfl,_,rfl,b,_,rfl,T1,fun p2 hp2=>?_⟩;have t2:=Zk.new (o:=.lst (ZdI (ts.map V.str) none (some (c / 8 % (((ts.map V.str).length:Int)+1))))) hp2;refine⟨_,rfl,(by show(1:Nat)<=sizeLine;decide),fun p3 hp3=>?_⟩;have t3:=Zk.new (o:=.lst [V.str bd]) hp3;have l1:(ZdI (ts.map V.str) none (some (c / 8 % (((ts.map V.str).length:Int)+1)))).length<=445:=by rw[eu,List.length_map];lia
  have l2:(ZdI (ts.map V.str) (some (c / 8 % (((ts.map V.str).length:Int)+1))) none).length<=445:=by rw[ev,List.length_map];lia
  refine⟨p2,p3,_,_,rfl,rfl,t3 _ _ Zc,Zc,ZZ (by show _+1<=100000;lia),fun p4 hp4=>?_⟩;have t4:=Zk.new (o:=.lst (ZdI (ts.map V.str) none (some (c / 8 % (((ts.map V.str).length:Int)+1))) ++ [V.str bd])) hp4;have T4:=(t2.trans (t3.trans t4)).seq T1;refine⟨_,rfl,_,rfl,_,rfl,b,_,rfl,T4,fun p5 hp5=>?_⟩;have t5:=Zk.new (o:=.lst (ZdI (ts.map V.str) (some (c / 8 % (((ts.map V.str).length:Int)+1))) none)) hp5;refine⟨p4,p5,_,_,rfl,rfl,t5 _ _ Zc,Zc,?_,fun p6 hp6=>?_⟩
  ·rw[List.length_append];exact ZZ (by show _+1+_<=100000;lia)
  have t6:=Zk.new (o:=.lst (ZdI (ts.map V.str) none (some (c / 8 % (((ts.map V.str).length:Int)+1))) ++ [V.str bd]++ZdI (ts.map V.str) (some (c / 8 % (((ts.map V.str).length:Int)+1))) none)) hp6;have kk:=k0.trans (Kp.same (t1.trans (t2.trans (t3.trans (t4.trans (t5.trans t6))))));have em:ZdI (ts.map V.str) none (some (c / 8 % (((ts.map V.str).length:Int)+1))) ++ [V.str bd]++ZdI (ts.map V.str) (some (c / 8 % (((ts.map V.str).length:Int)+1))) none=(us ++ [bd]++vs).map V.str:=by
   rw[eu,ev,List.map_append,List.map_append];rfl
  refine⟨5,_,_,_,true,1,0,rfl,.inr (.inr (.inr (.inr (.inr ⟨rfl,p6,us ++ [bd]++vs,rfl,?_,?_,?_,?_,?_,rfl⟩)))),fun _ H' kp=>.inr ⟨rfl,?_⟩,(fun z=>nomatch z),(fun z=>nomatch z)⟩
  ·rw[<- em];exact SqL.of Zc
  ·rw[List.length_append,List.length_append];show _+1+_<=900;lia
  ·intro t ht;rcases List.mem_append.mp ht with ht|ht
   ·rcases List.mem_append.mp ht with ht|ht
    ·exact ZkR (htb t (um t ht))
    ·rw[List.mem_singleton.mp ht];exact hb2
   ·exact ZkR (htb t (vm t ht))
  ·exact fun _=>⟨bd,List.mem_append_left _ (List.mem_append_right _ (List.mem_singleton.mpr rfl)),hb1⟩
  ·exact fun z=>nomatch z
  ·rw[ZdZ];exact q _ (kk.trans kp)
 show u1 _ _ _;refine Zz e1 ?_;refine⟨(by show(8:Nat)<=sizeLine;decide),fun p1 hp1=>?_⟩;obtain⟨bd,hbd,hb⟩:=ZjU (i:=c % 8) (Int.emod_nonneg _ (by decide)) (Int.emod_lt_of_pos _ (by decide));have hb0:=hb;obtain⟨hb1,hb2⟩:=Zge bd hb;refine⟨_,rfl,_,_,rfl,rfl,(by show(0:Int)<8;decide),p1,_,c % 8,_,rfl,rfl,SqL.of Zc,hbd,?_⟩;have t1:=Zk.new (o:=.lst (Zjo.map V.str)) hp1;show u2 _ _ _;refine Zz e2 ?_;refine⟨_,rfl,_,_,rfl,rfl,⟨by decide,by decide⟩,_,_,rfl,rfl,(by show(0:Int)<65;decide),_,rfl,c / 8 % 65,c,rfl,by lia,by lia,c0,fun r1 f1 H1 t2 hF ef okF qf nd=>?_⟩;refine⟨by decide,fun p2 hp2=>?_⟩;have t3:=Zk.new (o:=.tup []) hp2;have kk:=Kp.same (Zk.trans t1 (Zk.trans t2 t3));refine⟨_,rfl,3,_,_,_,true,f1.n+2,0,rfl,.inr (.inr (.inr (.inl ⟨rfl,hb2,hb1,r1,f1,rfl,FmQ.kept hF (Kp.same t3),okF,?_,rfl,(fun z=>nomatch z)⟩))),fun _ H' kp=>ZdN ⟨_,rfl,ZbF ?_⟩,(fun z=>nomatch z),(fun z=>nomatch z)⟩
 ·unfold Zfu;rw[qf,List.nil_append,List.length_map];have:=okF.hl;lia
 ·exact rest3 bd H' hb0 (kk.trans kp)
theorem Ziy(xs:List V)(i j:Nat)(h:i<=j):ZdI xs (some (i:Int)) (some (j:Int))=(xs.drop i).take (j-i):=by
 unfold ZdI;rw[HT.Zhc,HT.Zhc];by_cases c:j<=xs.length
 ·rw[Nat.min_eq_left c,Nat.min_eq_left (by lia)]
 ·by_cases d:i<=xs.length
  ·rw[Nat.min_eq_left d,Nat.min_eq_right (by lia),List.take_of_length_le (by rw[List.length_drop];lia),List.take_of_length_le (by rw[List.length_drop];lia)]
  ·rw[Nat.min_eq_right (by lia),Nat.min_eq_right (by lia),List.drop_of_length_le (Nat.le_refl _),List.drop_of_length_le (by lia)];simp
theorem Zhr:∀ts:List Str,∃ms:List Str,ms.Nodup/\∀q,q∈ms↔q∈ts
 | []=>⟨[],.nil,fun _=>Iff.rfl⟩
 | x::ts=>by
  obtain⟨ms,h1,h2⟩:=Zhr ts;by_cases c:x∈ms
  ·refine⟨ms,h1,fun q=>?_⟩;rw[List.mem_cons,h2];exact⟨.inr,fun z=>z.elim (fun e=>by rw[e];exact(h2 x).mp c) id⟩
  ·refine⟨x::ms,List.nodup_cons.mpr ⟨c,h1⟩,fun q=>?_⟩;rw[List.mem_cons,List.mem_cons,h2]
theorem Zlq{ts ms:List Str}(nd:ms.Nodup)(hm:∀q,q∈ms↔q∈ts):Cn (evQ ts) ms.length:=by
 have n2:(evQ ms).Nodup:=List.pairwise_map.mpr (nd.imp fun{a b} hab e=>hab (congrArg (fun z:Srd.Qd=>z.2.1) e));have h:Cn (evQ ms) ms.length:=by
  have:=Cn.nodup n2;unfold evQ at this ⊢;rw[List.length_map] at this;exact this
 refine h.of fun q=>?_;unfold evQ;rw[List.mem_map,List.mem_map];exact⟨fun⟨t,h1,h2⟩=>⟨t,(hm t).mpr h1,h2⟩,fun⟨t,h1,h2⟩=>⟨t,(hm t).mp h1,h2⟩⟩
set_option maxHeartbeats 8000000 in
theorem Zkm(B:∀x∈Zca,mg x=none)(g_l_cell:Has P w K mg base "_law_cell" ["_law_script","_law_k"] 1 (ZaV K)) (g_l_kinds_asked:Has P w K mg base "_law_kinds_asked" ["_law_script"] 5 (ZjL K)) (g_l_rows_of_two:Has P w K mg base "_law_rows_of_two" ["_law_script","_law_near"] 5 (ZbZ K)) (g_l_rows_of_one:Has P w K mg base "_law_rows_of_one" ["_law_script","_law_near"] 5 (ZbZ K)) (g_l_rows_in_common:Has P w K mg base "_law_rows_in_common" ["_law_script","_law_near"] 5 (ZbZ K)) (g_l_tag:Has P w K mg base "_law_tag" ["_law_seed","_law_v"] 1 Zci) (g_l_said:Has P w K mg base "_law_said" ["_law_way","_law_one","_law_other","_law_tag_here"] 4 (Zcw K)) (g_l_due:Has P w K mg base "_law_due" ["_law_many","_law_rules"] 1 ZbM) (g_l_bad_asked:Has P w K mg base "_law_bad_asked" ["_law_script","_law_tags"] 5 (ZjV K))
  (F:Fun K "law" "law" ZaY f fd):FnOk P w K mg base CX0 6 f fd ["_law_script"] (Zir K):=by
 refine F.ok Zdh (fun vs H Q E h=>?_) (fun cdv A outer s H vs Q E hr h=>?_)
 ·obtain⟨a,ns,rfl,_⟩:=h;rfl
 obtain⟨a,ns,rfl,hS,h63,q⟩:=h;have hu:=ZbK hr;refine ZD ((Zf ZaY).drop 8) (Zi (ZX (Zjg (Zr g_l_bad_asked hr rfl (Za (pv 0) (Za (pv 3) Zd))) (Zjj (ZbH (Ze3 hu) (Zr g_l_said hr rfl (Za Zb (Za (Zad Zd) (Za (ZL Z2 rfl (B "list" (by decide)) ZaS (Za (pv 3) Zd)) (Za Zal Zd))))) (Zr g_l_due hr rfl (Za Zb (Za (Zfb rfl hu rfl (B "len" (by decide)) rfl (B "set" (by decide)) (Za (pv 3) Zd)) Zd))) (Z4 _)))))) (fun u8 h8 e8=>?_);refine ZD ((ZjT ((Zf ZaY).getD 7 (.Pass ⟨0,0,0,0⟩))).drop 2) (Zi (Zm (i:=3) Zdh.nd rfl (Or.inl rfl) (Zg ZaL (pv 3) (Zb7 Zfr (pv 3) (Zck (pv 4)) (Zck (Zg ZJ (pv 4) Zb)))))) (fun u7t2 h7t2 e7t2=>?_);refine ZD ((ZjT ((Zf ZaY).getD 7 (.Pass ⟨0,0,0,0⟩))).drop 1) (Ze (Zm (i:=4) Zdh.nd rfl (Or.inl rfl) (Zg ZM (Zg Z3 (pv 1) Zb) Zb)) h7t2) (fun u7t1 h7t1 e7t1=>?_);refine ZD ((ZjT ((Zf ZaY).getD 7 (.Pass ⟨0,0,0,0⟩))).drop 0) (Ze (ZbI (cl:=_) (n0:=3) Zdh.nd rfl (Or.inl rfl) ["_law_v"] [("_law_script",0)] (ZaI rfl (B "range" (by decide)) (Za (pv 2) Zd)) (fun _ _ _ _=>(Zt (i:=0) (show List.Nodup (["_law_v","_law_script"]:List Str) by decide) rfl (Or.inl rfl))) (fun _ _ _ _=>(Zr g_l_tag hr rfl (Za (Zr g_l_cell hr rfl (Za (pv 1) (Za Zb Zd))) (Za (pv 0) Zd)))) rfl rfl (by decide) rfl (by decide) (Za1 (by(repeat' first|exact List.forall_mem_nil _|refine List.forall_mem_cons.mpr ⟨?_,?_⟩) <;> rfl)) (ZaE (by(repeat' first|exact List.forall_mem_nil _|refine List.forall_mem_cons.mpr ⟨?_,?_⟩) <;> first|(intro h;exact⟨_,rfl⟩)|(intro h;exact absurd h (by decide)))) (fun _=>by(repeat' first|exact List.forall_mem_nil _|refine List.forall_mem_cons.mpr ⟨?_,?_⟩) <;> exact⟨rfl,rfl,Or.inl rfl⟩) (fun _=>rfl) rfl) h7t1) (fun u7t0 h7t0 e7t0=>?_)
 refine ZD ((Zf ZaY).drop 7) (Ze (ZaN (Z0 Zbi (Zg ZM (pv 1) Zb) Zb (Z4 _))
   h7t0
   Zak) h8) (fun u7 h7 e7=>?_)
 refine ZD ((Zf ZaY).drop 6) (Ze (Zm (i:=3) Zdh.nd rfl (Or.inl rfl) (Zas (Za Zal (Za Zal (Za Zal Zd))))) h7) (fun u6 h6 e6=>?_);refine ZD ((Zf ZaY).drop 5) (Ze (ZaN (PW.pt (Zh8 (Z0 Zbi (Zg ZM (pv 1) Zb) Zb (Z4 _)) (Zfe (ZdF (Za7 (Zr g_l_rows_in_common hr rfl (Za (pv 0) (Za (pv 2) Zd))) (fun _=>rfl))))))
   (Zi (ZX ZdQ))
   Zak) h6) (fun u5 h5 e5=>?_)
 refine ZD ((Zf ZaY).drop 4) (Ze (ZaN (PW.pt (Zh8 (Z0 Zbi (Zg ZM (pv 1) Zb) Zb (Z4 _)) (Zfe (ZdF (Za7 (Zr g_l_rows_of_one hr rfl (Za (pv 0) (Za (pv 2) Zd))) (fun _=>rfl))))))
   (Zi (ZX ZdQ))
   Zak) h5) (fun u4 h4 e4=>?_)
 refine ZD ((Zf ZaY).drop 3) (Ze (ZaN (PW.pt (Zh8 (Z0 Zbi (Zg ZM (pv 1) Zb) Zb (Z4 _)) (Zfe (ZdF (Za7 (Zr g_l_rows_of_two hr rfl (Za (pv 0) (Za (pv 2) Zd))) (fun _=>rfl))))))
   (Zi (ZX ZdQ))
   Zak) h4) (fun u3 h3 e3=>?_)
 refine ZD ((Zf ZaY).drop 2) (Ze (ZaN (ZdF (Za7 (Zr g_l_kinds_asked hr rfl (Za (pv 0) Zd)) (fun _=>rfl)))
   (Zi (ZX ZdQ))
   Zak) h3) (fun u2 h2 e2=>?_)
 refine ZD ((Zf ZaY).drop 1) (Ze (Zm (i:=2) Zdh.nd rfl (Or.inl rfl) (Zg ZJ Zb (Zg ZM (Zg Z3 (pv 1) Zb) Zb))) h2) (fun u1 h1 e1=>?_);refine ZD ((Zf ZaY).drop 0) (Ze (Zm (i:=1) Zdh.nd rfl (Or.inl rfl) (Zr g_l_cell hr rfl (Za (pv 0) (Za Zb Zd)))) h1) (fun u0 h0 e0=>?_);refine⟨u0,h0,?_⟩;refine Zz e0 ?_;refine⟨_,rfl,a,ns,5,rfl,hS,h63,by decide,by decide,fun c c0 c1=>?_⟩;obtain⟨nr,en,n0,n1⟩:∃nr:Int,398+c / 4 % 5=nr/\398<=nr/\nr<=402:=⟨_,rfl,by lia,by lia⟩;have st8:∀(v4:Option V)(p:Addr)(ts:List Str)(H0:Hp),Kp H H0->SqL K H0 p (ts.map V.str)->ts.length<=445->(∀t∈ts,ZcW t=true)->u8 { nx:=fun _ H'=>Q .non H',rt:=Q } [some (.ref a),some (.int c),some (.int nr),some (.ref p),v4] H0:=fun v4 p ts H0 k0 hp hl ht=>by
  obtain⟨ms0,nd0,hm0⟩:=Zhr ts;refine Zz e8 ?_;refine⟨_,rfl,_,rfl,a,p,ns,ts,rfl,k0.seq hS,h63,hp,hl,ht,fun H1 k1=>⟨_,rfl,Zi3 ?_⟩⟩;refine⟨by decide,fun p1 hp1=>?_⟩;have t1:=Zk.new (o:=.tup []) hp1;refine⟨_,rfl,p,_,rfl,.inl (t1.seq (k1.seq hp)),fun p2 hp2=>?_⟩;have t2:=Zk.new (o:=.lst (ts.map V.str)) hp2;have hp':=t2.seq (t1.seq (k1.seq hp));refine⟨5,_,_,_,false,1,ms0.length,rfl,.inr (.inr (.inr (.inr (.inr ⟨rfl,p2,ts,rfl,SqL.of Zc,by lia,fun t h=>ZkR (ht t h),(fun z=>nomatch z),fun _=>⟨ht,Zlq nd0 hm0⟩,rfl⟩)))),(fun z=>nomatch z),fun _ hx H' kp=>?_,fun _ h1 h2 rr H' kp hr=>?_⟩
  ·refine⟨_,rfl,p,ts,rfl,kp.seq hp',by lia,fun ms nd hm=>?_⟩;have e:ms.length=ms0.length:=Nat.le_antisymm (ZaW nd fun x h=>(hm0 x).mpr ((hm x).mp h)) (ZaW nd0 fun x h=>(hm x).mpr ((hm0 x).mp h));refine⟨1,ms.length,rfl,fun _=>Zb1 (q _),fun y1 y2=>?_⟩;lia
  ·refine⟨_,rfl,p,ts,rfl,kp.seq hp',by lia,fun ms nd hm=>?_⟩;have e:ms.length=ms0.length:=Nat.le_antisymm (ZaW nd fun x h=>(hm0 x).mpr ((hm x).mp h)) (ZaW nd0 fun x h=>(hm x).mpr ((hm0 x).mp h));rw[<- e] at hr;refine⟨1,ms.length,rfl,fun y=>?_,fun _ _ r' H7 t7 hr'=>ZcU (t7 _ _ hr) hr' (q _)⟩;lia
 have st6:∀H0:Hp,Kp H H0->u6 { nx:=fun _ H'=>Q .non H',rt:=Q } [some (.ref a),some (.int c),some (.int nr),none,none] H0:=fun H0 k0=>by
  refine Zz e6 ?_;refine⟨(by show(3:Nat)<=sizeLine;decide),fun p hp=>?_⟩;have t1:=Zk.new (o:=.lst [V.str "tag",.str "a",.str "tag"]) hp;show u7 _ _ _;refine Zz e7 ?_;refine⟨_,rfl,_,_,rfl,rfl,(by show(0:Int)<4;decide),rfl,_,rfl,Zdn (fun _=>?_) (fun _=>?_)⟩;rotate_left
  ·exact st8 none p ["tag","a","tag"] _ (k0.trans (Kp.same t1)) (SqL.of Zc) (by decide) (by decide)
  have hS1:=(k0.trans (Kp.same t1)).seq hS;have k1:=k0.trans (Kp.same t1);generalize upd H0 p (.lst [V.str "tag",.str "a",.str "tag"])=H1 at hS1 k1;refine Zz e7t0 ?_;refine⟨_,rfl,nr,rfl,by lia,by lia,fun pc hpc=>?_⟩;refine Za2 (lo:=0) (n:=nr.toNat) (p:=pc) (fun i ys σ H2=>∃(v0:Option V)(ts:List Str),σ =[v0,some (.ref a)]/\Zk H1 H2/\H2 pc=some (.lst ys)/\ys=ts.map V.str/\ts.length=i/\∀t∈ts,ZcW t=true) ⟨none,[],rfl,Zk.new hpc,Zc,rfl,rfl,fun _ h=>nomatch h⟩ ?_ ?_ ?_
  ·rintro i ys σ H2 _ ⟨v0,ts,_,_,h,_⟩;exact h
  ·rintro i ys σ H2 hi ⟨v0,ts,rfl,sm,hp,rfl,hl,ht⟩;refine⟨_,rfl,a,ns,7,rfl,sm.seq hS1,h63,by decide,by decide,fun sd d0 d1=>⟨_,rfl,sd,_,rfl,hp,ZW (by rw[List.length_map];lia),CW.next hi ⟨_,ts ++ [tg7 sd (0+(i:Int))],rfl,sm.upd_new hpc,Zc,by rw[List.map_append];rfl,by rw[List.length_append,hl];rfl,fun t h=>?_⟩⟩⟩
   rcases List.mem_append.mp h with h|h
   ·exact ht t h
   ·rw[List.mem_singleton.mp h];exact Zfj ..
  ·rintro ys σ H2 ⟨v0,ts,rfl,sm,hp2,rfl,hl,ht⟩;show u7t1 _ _ _;refine Zz e7t1 ?_;refine⟨_,rfl,_,_,rfl,rfl,⟨by decide,by decide⟩,_,_,rfl,rfl,(by show(0:Int)<300;decide),?_⟩;show u7t2 _ _ _;refine Zz e7t2 ?_;obtain⟨j,ej⟩:=Int.eq_ofNat_of_zero_le (Int.emod_nonneg (c / 20) (by decide:(300:Int)≠0));have ec:=Ziy (ts.map V.str) j (j+40) (by lia);obtain⟨us,eu,um,_⟩:=cut_str ts (some (j:Int)) (some ((j+40:Nat):Int));have ul:us.length<=40:=by
    have:=congrArg List.length (eu.symm.trans ec);rw[List.length_map,List.length_take] at this;lia
   refine⟨_,rfl,_,rfl,_,rfl,(j:Int),congrArg V.int ej,_,rfl,_,_,rfl,rfl,((j+40:Nat):Int),?_,pc,_,rfl,SqL.of hp2,fun p3 hp3=>?_⟩
   ·show V.int (c / 20 % 300+40)=_;rw[ej];rfl
   have t3:=Zk.new (o:=.lst (ZdI (ts.map V.str) (some (j:Int)) (some ((j+40:Nat):Int)))) hp3;have l3:(ZdI (ts.map V.str) (some (j:Int)) (some ((j+40:Nat):Int))).length<=40:=by rw[eu,List.length_map];exact ul
   refine⟨pc,p3,_,_,rfl,rfl,t3 _ _ hp2,Zc,ZZ (by rw[List.length_map];lia),fun p4 hp4=>?_⟩;have t4:=Zk.new (o:=.lst (ts.map V.str++ZdI (ts.map V.str) (some (j:Int)) (some ((j+40:Nat):Int)))) hp4;refine st8 _ p4 (ts++us) _ (k1.trans (Kp.same (sm.trans (t3.trans t4)))) ?_ ?_ ?_
   ·rw[List.map_append,<- eu];exact SqL.of Zc
   ·rw[List.length_append];lia
   ·intro t h;rcases List.mem_append.mp h with h|h
    ·exact ht t h
    ·exact ht t (um t h)
 have st5:∀H0:Hp,Kp H H0->u5 { nx:=fun _ H'=>Q .non H',rt:=Q } [some (.ref a),some (.int c),some (.int nr),none,none] H0:=fun H0 k0=>by
  refine Zz e5 ?_;refine⟨_,rfl,_,_,rfl,rfl,(by show(0:Int)<4;decide),rfl,_,rfl,Zdn (fun _=>?_) (fun _=>ZbF (st6 _ k0))⟩;exact⟨_,rfl,_,rfl,a,ns,nr,rfl,k0.seq hS,h63,n0,n1,fun H' kp=>⟨true,rfl,ZbF (st6 _ (k0.trans kp))⟩⟩
 have st4:∀H0:Hp,Kp H H0->u4 { nx:=fun _ H'=>Q .non H',rt:=Q } [some (.ref a),some (.int c),some (.int nr),none,none] H0:=fun H0 k0=>by
  refine Zz e4 ?_;refine⟨_,rfl,_,_,rfl,rfl,(by show(0:Int)<4;decide),rfl,_,rfl,Zdn (fun _=>?_) (fun _=>ZbF (st5 _ k0))⟩;exact⟨_,rfl,_,rfl,a,ns,nr,rfl,k0.seq hS,h63,n0,n1,fun H' kp=>⟨true,rfl,ZbF (st5 _ (k0.trans kp))⟩⟩
 have st3:∀H0:Hp,Kp H H0->u3 { nx:=fun _ H'=>Q .non H',rt:=Q } [some (.ref a),some (.int c),some (.int nr),none,none] H0:=fun H0 k0=>by
  refine Zz e3 ?_;refine⟨_,rfl,_,_,rfl,rfl,(by show(0:Int)<4;decide),rfl,_,rfl,Zdn (fun _=>?_) (fun _=>ZbF (st4 _ k0))⟩;exact⟨_,rfl,_,rfl,a,ns,nr,rfl,k0.seq hS,h63,n0,n1,fun H' kp=>⟨true,rfl,ZbF (st4 _ (k0.trans kp))⟩⟩
 show u1 _ _ _;refine Zz e1 ?_;refine⟨_,rfl,_,_,rfl,rfl,⟨by decide,by decide⟩,_,_,rfl,rfl,(by show(0:Int)<5;decide),_,_,rfl,rfl,?_⟩;subst en;show u2 _ _ _;refine Zz e2 ?_;exact⟨_,rfl,a,ns,rfl,hS,h63,fun H' kp=>⟨true,rfl,ZbF (st3 _ kp)⟩⟩
end
theorem ZkT{l:PySem.W.OpenLaw}{w:World}{K:PySem.W.Frag}{h:Heap}{mg:Str->Option Value}{fa f1 f2 f3 f4 f5 f6 f7 f8 f9 f10 f11 f12 f13 f14 f15 f16 f17 f18 f19 f20 f21 f22 f23 f24 f25 f26 f27:Addr}(X:K.In h)(G:h.Ns mainGlobals mg)(hfa:mg "law" = some (.ref fa))
  {od1 an1 od2 an2 od3 an3 od4 an4 od5 an5 od6 an6 od7 an7 od8 an8 od9 an9 od10 an10 od11 an11 od12 an12 od13 an13 od14 an14 od15 an15 od16 an16 od17 an17 od18 an18 od19 an19 od20 an20 od21 an21 od22 an22 od23 an23 od24 an24 od25 an25 od26 an26 od27 an27:Option Addr} {sl1 sl2 sl3 sl4 sl5 sl6 sl7 sl8 sl9 sl10 sl11 sl12 sl13 sl14 sl15 sl16 sl17 sl18 sl19 sl20 sl21 sl22 sl23 sl24 sl25 sl26 sl27:Array (Option Value)} {oc1 kV1 dc1 pm1 cd1 ct1 oc2 kV2 dc2 pm2 cd2 ct2 oc3 kV3 dc3 pm3 cd3 ct3 oc4 kV4 dc4 pm4 cd4 ct4 oc5 kV5 dc5 pm5 cd5 ct5 oc6 kV6 dc6 pm6 cd6 ct6 oc7 kV7 dc7 pm7 cd7 ct7 oc8 kV8 dc8 pm8 cd8 ct8 oc9 kV9 dc9 pm9 cd9 ct9 oc10 kV10 dc10 pm10 cd10 ct10 oc11 kV11 dc11 pm11 cd11 ct11 oc12 kV12 dc12 pm12 cd12 ct12 oc13 kV13 dc13 pm13 cd13 ct13 oc14 kV14 dc14 pm14 cd14 ct14 oc15 kV15 dc15 pm15 cd15 ct15 oc16 kV16 dc16 pm16 cd16 ct16 oc17 kV17 dc17 pm17 cd17 ct17 oc18 kV18 dc18 pm18 cd18 ct18 oc19 kV19 dc19 pm19 cd19 ct19 oc20 kV20 dc20 pm20 cd20 ct20 oc21 kV21 dc21 pm21 cd21 ct21 oc22 kV22 dc22 pm22 cd22 ct22 oc23 kV23 dc23 pm23 cd23 ct23 oc24 kV24 dc24 pm24 cd24 ct24 oc25 kV25 dc25 pm25 cd25 ct25 oc26 kV26 dc26 pm26 cd26 ct26 oc27 kV27 dc27 pm27 cd27 ct27:Value}
  {X_GroveError X_BadForm X_TooMany X_TooBig:Addr}
  (xn_GroveError:PySem.W.nsIn K mainGlobals "GroveError" = some (some (.ref X_GroveError)))
  (xn_BadForm:PySem.W.nsIn K mainGlobals "BadForm" = some (some (.ref X_BadForm)))
  (xn_TooMany:PySem.W.nsIn K mainGlobals "TooMany" = some (some (.ref X_TooMany)))
  (xn_TooBig:PySem.W.nsIn K mainGlobals "TooBig" = some (some (.ref X_TooBig)))
  {g0 goc:Value} {gdd god:Option Addr} {gcd:ClassData} {gsl gsl':Array (Option Value)} {ges:Array DictEntry} {gep:Nat} (xg1:K.lookup X_GroveError=some ⟨g0,gdd,.cls gcd,gsl⟩) (xg2:K.lookup gcd.ns=some ⟨goc,god,.dict ges gep,gsl'⟩) (xg3:keysOk ges=true) (xg4:PySem.W.nsIn K gcd.ns "__init__" = some none)
  (xb1:PySem.W.specialIn K (.ref X_GroveError) "__getattribute__" = some (some (.builtin "type.__getattribute__"))) (xb2:PySem.W.readsIn K X_GroveError (.type "type")=true) (xb3:PySem.W.findCls K (.ref X_GroveError) (.type "type") "__init__" = some (.val (.builtin "ValueError.__init__"))) (xb4:PySem.W.isClsIn K X_GroveError=true) (xb5:PySem.W.typeIn K (.ref X_GroveError)=some (.type "type"))
  (d1_GroveError:PySem.W.isClsIn K X_GroveError=true) (d2_GroveError:PySem.W.mroIn K X_GroveError (.type "BaseException")=some true) (d3_GroveError:PySem.W.instIn K (.ref X_GroveError) (.type "tuple")=some false)
  (d1_BadForm:PySem.W.isClsIn K X_BadForm=true) (d2_BadForm:PySem.W.mroIn K X_BadForm (.type "BaseException")=some true) (d3_BadForm:PySem.W.instIn K (.ref X_BadForm) (.type "tuple")=some false)
  (d1_TooMany:PySem.W.isClsIn K X_TooMany=true) (d2_TooMany:PySem.W.mroIn K X_TooMany (.type "BaseException")=some true) (d3_TooMany:PySem.W.instIn K (.ref X_TooMany) (.type "tuple")=some false)
  (d1_TooBig:PySem.W.isClsIn K X_TooBig=true) (d2_TooBig:PySem.W.mroIn K X_TooBig (.type "BaseException")=some true) (d3_TooBig:PySem.W.instIn K (.ref X_TooBig) (.type "tuple")=some false)
  {nm_BadForm q_BadForm:Str} {N_BadForm:Addr} {bs_BadForm:List Value} {hdct_BadForm:Bool} {sn_BadForm:List Str} {sub_BadForm:List Value} {ab_BadForm:Bool} {col_BadForm:Option Bool} {dd_BadForm:Option Addr} {k0_BadForm k1_BadForm k2_BadForm k3_BadForm k5_BadForm:Option Value}
  (xl_BadForm:K.lookup X_BadForm=some (excClassObj nm_BadForm q_BadForm X_BadForm N_BadForm bs_BadForm (.ref X_GroveError::bmV) hdct_BadForm sn_BadForm sub_BadForm ab_BadForm col_BadForm dd_BadForm k0_BadForm k1_BadForm k2_BadForm k3_BadForm k5_BadForm "ValueError.__new__"))
  (xc_BadForm:PySem.W.specialIn K (.ref X_BadForm) "__call__" = some (some (.builtin "type.__call__"))) (xt_BadForm:PySem.W.instIn K (.ref X_BadForm) (.type "type")=some true) (xk_BadForm:PySem.W.keepIn K (.ref X_BadForm)=true) (xv_BadForm:PySem.W.mroIn K X_BadForm (.type "ValueError")=some true)
  (xe_BadForm:X_BadForm≠X_GroveError)
  (o1_BadForm_TooMany:PySem.W.findIn K (.ref X_BadForm) "__class__" = some (some (.builtin "object.__class__"))) (o2_BadForm_TooMany:PySem.W.specialIn K (.builtin "object.__class__") "__get__" = some (some (.builtin "getset_descriptor.__get__"))) (o3_BadForm_TooMany:PySem.W.takesIn K (.builtin "object.__class__")=some true) (o4_BadForm_TooMany:PySem.W.mroIn K X_BadForm (.type "object")=some true) (o5_BadForm_TooMany:PySem.W.typeIn K (.ref X_TooMany)=some (.type "type")) (o6_BadForm_TooMany:X_BadForm≠X_TooMany)
  (o1_BadForm_TooBig:PySem.W.findIn K (.ref X_BadForm) "__class__" = some (some (.builtin "object.__class__"))) (o2_BadForm_TooBig:PySem.W.specialIn K (.builtin "object.__class__") "__get__" = some (some (.builtin "getset_descriptor.__get__"))) (o3_BadForm_TooBig:PySem.W.takesIn K (.builtin "object.__class__")=some true) (o4_BadForm_TooBig:PySem.W.mroIn K X_BadForm (.type "object")=some true) (o5_BadForm_TooBig:PySem.W.typeIn K (.ref X_TooBig)=some (.type "type")) (o6_BadForm_TooBig:X_BadForm≠X_TooBig)
  (xi_BadForm:PySem.W.findIn K (.ref X_BadForm) "__init__" = some (some (.builtin "ValueError.__init__")))
  (f1_BadForm_place:PySem.W.findIn K (.ref X_BadForm) "__setattr__" = some (some (.builtin "object.__setattr__"))) (f2_BadForm_place:PySem.W.findIn K (.ref X_BadForm) "place" = some none) (f3_BadForm_place:PySem.W.hasDictIn K X_BadForm=true) (f4_BadForm_place:PySem.W.findIn K (.ref X_BadForm) "__getattribute__" = some (some (.builtin "BaseException.__getattribute__"))) (f5_BadForm_place:PySem.W.findIn K (.ref X_BadForm) "__getattr__" = some none)
  (m_BadForm_GroveError:PySem.W.mroIn K X_BadForm (.ref X_GroveError)=some true)
  (m_BadForm_BadForm:PySem.W.mroIn K X_BadForm (.ref X_BadForm)=some true)
  (m_BadForm_TooMany:PySem.W.mroIn K X_BadForm (.ref X_TooMany)=some false)
  (m_BadForm_TooBig:PySem.W.mroIn K X_BadForm (.ref X_TooBig)=some false)
  {nm_TooMany q_TooMany:Str} {N_TooMany:Addr} {bs_TooMany:List Value} {hdct_TooMany:Bool} {sn_TooMany:List Str} {sub_TooMany:List Value} {ab_TooMany:Bool} {col_TooMany:Option Bool} {dd_TooMany:Option Addr} {k0_TooMany k1_TooMany k2_TooMany k3_TooMany k5_TooMany:Option Value}
  (xl_TooMany:K.lookup X_TooMany=some (excClassObj nm_TooMany q_TooMany X_TooMany N_TooMany bs_TooMany (.ref X_GroveError::bmV) hdct_TooMany sn_TooMany sub_TooMany ab_TooMany col_TooMany dd_TooMany k0_TooMany k1_TooMany k2_TooMany k3_TooMany k5_TooMany "ValueError.__new__"))
  (xc_TooMany:PySem.W.specialIn K (.ref X_TooMany) "__call__" = some (some (.builtin "type.__call__"))) (xt_TooMany:PySem.W.instIn K (.ref X_TooMany) (.type "type")=some true) (xk_TooMany:PySem.W.keepIn K (.ref X_TooMany)=true) (xv_TooMany:PySem.W.mroIn K X_TooMany (.type "ValueError")=some true)
  (xe_TooMany:X_TooMany≠X_GroveError)
  (o1_TooMany_BadForm:PySem.W.findIn K (.ref X_TooMany) "__class__" = some (some (.builtin "object.__class__"))) (o2_TooMany_BadForm:PySem.W.specialIn K (.builtin "object.__class__") "__get__" = some (some (.builtin "getset_descriptor.__get__"))) (o3_TooMany_BadForm:PySem.W.takesIn K (.builtin "object.__class__")=some true) (o4_TooMany_BadForm:PySem.W.mroIn K X_TooMany (.type "object")=some true) (o5_TooMany_BadForm:PySem.W.typeIn K (.ref X_BadForm)=some (.type "type")) (o6_TooMany_BadForm:X_TooMany≠X_BadForm)
  (o1_TooMany_TooBig:PySem.W.findIn K (.ref X_TooMany) "__class__" = some (some (.builtin "object.__class__"))) (o2_TooMany_TooBig:PySem.W.specialIn K (.builtin "object.__class__") "__get__" = some (some (.builtin "getset_descriptor.__get__"))) (o3_TooMany_TooBig:PySem.W.takesIn K (.builtin "object.__class__")=some true) (o4_TooMany_TooBig:PySem.W.mroIn K X_TooMany (.type "object")=some true) (o5_TooMany_TooBig:PySem.W.typeIn K (.ref X_TooBig)=some (.type "type")) (o6_TooMany_TooBig:X_TooMany≠X_TooBig)
  (xi_TooMany:PySem.W.findIn K (.ref X_TooMany) "__init__" = some (some (.builtin "ValueError.__init__")))
  (f1_TooMany_place:PySem.W.findIn K (.ref X_TooMany) "__setattr__" = some (some (.builtin "object.__setattr__"))) (f2_TooMany_place:PySem.W.findIn K (.ref X_TooMany) "place" = some none) (f3_TooMany_place:PySem.W.hasDictIn K X_TooMany=true) (f4_TooMany_place:PySem.W.findIn K (.ref X_TooMany) "__getattribute__" = some (some (.builtin "BaseException.__getattribute__"))) (f5_TooMany_place:PySem.W.findIn K (.ref X_TooMany) "__getattr__" = some none)
  (m_TooMany_GroveError:PySem.W.mroIn K X_TooMany (.ref X_GroveError)=some true)
  (m_TooMany_BadForm:PySem.W.mroIn K X_TooMany (.ref X_BadForm)=some false)
  (m_TooMany_TooMany:PySem.W.mroIn K X_TooMany (.ref X_TooMany)=some true)
  (m_TooMany_TooBig:PySem.W.mroIn K X_TooMany (.ref X_TooBig)=some false)
  (a1:PySem.W.nsIn K mainGlobals "_law_cell" = some (some (.ref f1))) (l1:K.lookup f1=some ⟨oc1,od1,.func (PySem.W.fnOf "_law_cell" "_law_cell" (ZP Zbu) (Zf Zbu) (Zh Zbu) .none kV1 dc1 pm1 an1 cd1 ct1),sl1⟩) (c1:PySem.W.codeIn K cd1 "_law_cell" = true) (k1:PySem.W.keepIn K (.ref f1)=true)
  (a2:PySem.W.nsIn K mainGlobals "_law_bare" = some (some (.ref f2))) (l2:K.lookup f2=some ⟨oc2,od2,.func (PySem.W.fnOf "_law_bare" "_law_bare" (ZP Zbp) (Zf Zbp) (Zh Zbp) .none kV2 dc2 pm2 an2 cd2 ct2),sl2⟩) (c2:PySem.W.codeIn K cd2 "_law_bare" = true) (k2:PySem.W.keepIn K (.ref f2)=true)
  (a3:PySem.W.nsIn K mainGlobals "raised" = some (some (.ref f3))) (l3:K.lookup f3=some ⟨oc3,od3,.func (PySem.W.fnOf "raised" "raised" (ZP Zbt) (Zf Zbt) (Zh Zbt) .none kV3 dc3 pm3 an3 cd3 ct3),sl3⟩) (c3:PySem.W.codeIn K cd3 "raised" = true) (k3:PySem.W.keepIn K (.ref f3)=true)
  (a4:PySem.W.nsIn K mainGlobals "sorted_form" = some (some (.ref f4))) (l4:K.lookup f4=some ⟨oc4,od4,.func (PySem.W.fnOf "sorted_form" "sorted_form" (ZP Zaw) (Zf Zaw) (Zh Zaw) .none kV4 dc4 pm4 an4 cd4 ct4),sl4⟩) (c4:PySem.W.codeIn K cd4 "sorted_form" = true) (k4:PySem.W.keepIn K (.ref f4)=true)
  (a5:PySem.W.nsIn K mainGlobals "raised_rules" = some (some (.ref f5))) (l5:K.lookup f5=some ⟨oc5,od5,.func (PySem.W.fnOf "raised_rules" "raised_rules" (ZP Zao) (Zf Zao) (Zh Zao) .none kV5 dc5 pm5 an5 cd5 ct5),sl5⟩) (c5:PySem.W.codeIn K cd5 "raised_rules" = true) (k5:PySem.W.keepIn K (.ref f5)=true)
  (a6:PySem.W.nsIn K mainGlobals "join" = some (some (.ref f6))) (l6:K.lookup f6=some ⟨oc6,od6,.func (PySem.W.fnOf "join" "join" (ZP ZdG) (Zf ZdG) (Zh ZdG) .none kV6 dc6 pm6 an6 cd6 ct6),sl6⟩) (c6:PySem.W.codeIn K cd6 "join" = true) (k6:PySem.W.keepIn K (.ref f6)=true)
  (a7:PySem.W.nsIn K mainGlobals "outer_rules" = some (some (.ref f7))) (l7:K.lookup f7=some ⟨oc7,od7,.func (PySem.W.fnOf "outer_rules" "outer_rules" (ZP Zav) (Zf Zav) (Zh Zav) .none kV7 dc7 pm7 an7 cd7 ct7),sl7⟩) (c7:PySem.W.codeIn K cd7 "outer_rules" = true) (k7:PySem.W.keepIn K (.ref f7)=true)
  (a8:PySem.W.nsIn K mainGlobals "started_rules" = some (some (.ref f8))) (l8:K.lookup f8=some ⟨oc8,od8,.func (PySem.W.fnOf "started_rules" "started_rules" (ZP Zaa) (Zf Zaa) (Zh Zaa) .none kV8 dc8 pm8 an8 cd8 ct8),sl8⟩) (c8:PySem.W.codeIn K cd8 "started_rules" = true) (k8:PySem.W.keepIn K (.ref f8)=true)
  (a9:PySem.W.nsIn K mainGlobals "then" = some (some (.ref f9))) (l9:K.lookup f9=some ⟨oc9,od9,.func (PySem.W.fnOf "then" "then" (ZP Zdt) (Zf Zdt) (Zh Zdt) .none kV9 dc9 pm9 an9 cd9 ct9),sl9⟩) (c9:PySem.W.codeIn K cd9 "then" = true) (k9:PySem.W.keepIn K (.ref f9)=true)
  (a10:PySem.W.nsIn K mainGlobals "again" = some (some (.ref f10))) (l10:K.lookup f10=some ⟨oc10,od10,.func (PySem.W.fnOf "again" "again" (ZP s_again) (Zf s_again) (Zh s_again) .none kV10 dc10 pm10 an10 cd10 ct10),sl10⟩) (c10:PySem.W.codeIn K cd10 "again" = true) (k10:PySem.W.keepIn K (.ref f10)=true)
  (a11:PySem.W.nsIn K mainGlobals "is_tag" = some (some (.ref f11))) (l11:K.lookup f11=some ⟨oc11,od11,.func (PySem.W.fnOf "is_tag" "is_tag" (ZP Zbv) (Zf Zbv) (Zh Zbv) .none kV11 dc11 pm11 an11 cd11 ct11),sl11⟩) (c11:PySem.W.codeIn K cd11 "is_tag" = true) (k11:PySem.W.keepIn K (.ref f11)=true)
  (a12:PySem.W.nsIn K mainGlobals "refuse_bad_tag" = some (some (.ref f12))) (l12:K.lookup f12=some ⟨oc12,od12,.func (PySem.W.fnOf "refuse_bad_tag" "refuse_bad_tag" (ZP Z6) (Zf Z6) (Zh Z6) .none kV12 dc12 pm12 an12 cd12 ct12),sl12⟩) (c12:PySem.W.codeIn K cd12 "refuse_bad_tag" = true) (k12:PySem.W.keepIn K (.ref f12)=true)
  (a13:PySem.W.nsIn K mainGlobals "inside" = some (some (.ref f13))) (l13:K.lookup f13=some ⟨oc13,od13,.func (PySem.W.fnOf "inside" "inside" (ZP Zbw) (Zf Zbw) (Zh Zbw) .none kV13 dc13 pm13 an13 cd13 ct13),sl13⟩) (c13:PySem.W.codeIn K cd13 "inside" = true) (k13:PySem.W.keepIn K (.ref f13)=true)
  (a14:PySem.W.nsIn K mainGlobals "paired" = some (some (.ref f14))) (l14:K.lookup f14=some ⟨oc14,od14,.func (PySem.W.fnOf "paired" "paired" (ZP Zbq) (Zf Zbq) (Zh Zbq) .none kV14 dc14 pm14 an14 cd14 ct14),sl14⟩) (c14:PySem.W.codeIn K cd14 "paired" = true) (k14:PySem.W.keepIn K (.ref f14)=true)
  (a15:PySem.W.nsIn K mainGlobals "all_paired" = some (some (.ref f15))) (l15:K.lookup f15=some ⟨oc15,od15,.func (PySem.W.fnOf "all_paired" "all_paired" (ZP ZaB) (Zf ZaB) (Zh ZaB) .none kV15 dc15 pm15 an15 cd15 ct15),sl15⟩) (c15:PySem.W.codeIn K cd15 "all_paired" = true) (k15:PySem.W.keepIn K (.ref f15)=true)
  (a16:PySem.W.nsIn K mainGlobals "common" = some (some (.ref f16))) (l16:K.lookup f16=some ⟨oc16,od16,.func (PySem.W.fnOf "common" "common" (ZP Zbx) (Zf Zbx) (Zh Zbx) .none kV16 dc16 pm16 an16 cd16 ct16),sl16⟩) (c16:PySem.W.codeIn K cd16 "common" = true) (k16:PySem.W.keepIn K (.ref f16)=true)
  (a17:PySem.W.nsIn K mainGlobals "everything" = some (some (.ref f17))) (l17:K.lookup f17=some ⟨oc17,od17,.func (PySem.W.fnOf "everything" "everything" (ZP Zaz) (Zf Zaz) (Zh Zaz) .none kV17 dc17 pm17 an17 cd17 ct17),sl17⟩) (c17:PySem.W.codeIn K cd17 "everything" = true) (k17:PySem.W.keepIn K (.ref f17)=true)
  (a18:PySem.W.nsIn K mainGlobals "_law_said" = some (some (.ref f18))) (l18:K.lookup f18=some ⟨oc18,od18,.func (PySem.W.fnOf "_law_said" "_law_said" (ZP Zau) (Zf Zau) (Zh Zau) .none kV18 dc18 pm18 an18 cd18 ct18),sl18⟩) (c18:PySem.W.codeIn K cd18 "_law_said" = true) (k18:PySem.W.keepIn K (.ref f18)=true)
  (a19:PySem.W.nsIn K mainGlobals "_law_due" = some (some (.ref f19))) (l19:K.lookup f19=some ⟨oc19,od19,.func (PySem.W.fnOf "_law_due" "_law_due" (ZP Zco) (Zf Zco) (Zh Zco) .none kV19 dc19 pm19 an19 cd19 ct19),sl19⟩) (c19:PySem.W.codeIn K cd19 "_law_due" = true) (k19:PySem.W.keepIn K (.ref f19)=true)
  (a20:PySem.W.nsIn K mainGlobals "_law_kinds_asked" = some (some (.ref f20))) (l20:K.lookup f20=some ⟨oc20,od20,.func (PySem.W.fnOf "_law_kinds_asked" "_law_kinds_asked" (ZP Zo) (Zf Zo) (Zh Zo) .none kV20 dc20 pm20 an20 cd20 ct20),sl20⟩) (c20:PySem.W.codeIn K cd20 "_law_kinds_asked" = true) (k20:PySem.W.keepIn K (.ref f20)=true)
  (a21:PySem.W.nsIn K mainGlobals "_law_tag" = some (some (.ref f21))) (l21:K.lookup f21=some ⟨oc21,od21,.func (PySem.W.fnOf "_law_tag" "_law_tag" (ZP Zce) (Zf Zce) (Zh Zce) .none kV21 dc21 pm21 an21 cd21 ct21),sl21⟩) (c21:PySem.W.codeIn K cd21 "_law_tag" = true) (k21:PySem.W.keepIn K (.ref f21)=true)
  (a22:PySem.W.nsIn K mainGlobals "_law_ruled" = some (some (.ref f22))) (l22:K.lookup f22=some ⟨oc22,od22,.func (PySem.W.fnOf "_law_ruled" "_law_ruled" (ZP Za3) (Zf Za3) (Zh Za3) .none kV22 dc22 pm22 an22 cd22 ct22),sl22⟩) (c22:PySem.W.codeIn K cd22 "_law_ruled" = true) (k22:PySem.W.keepIn K (.ref f22)=true)
  (a23:PySem.W.nsIn K mainGlobals "_law_rows_of_two" = some (some (.ref f23))) (l23:K.lookup f23=some ⟨oc23,od23,.func (PySem.W.fnOf "_law_rows_of_two" "_law_rows_of_two" (ZP Zn) (Zf Zn) (Zh Zn) .none kV23 dc23 pm23 an23 cd23 ct23),sl23⟩) (c23:PySem.W.codeIn K cd23 "_law_rows_of_two" = true) (k23:PySem.W.keepIn K (.ref f23)=true)
  (a24:PySem.W.nsIn K mainGlobals "_law_rows_of_one" = some (some (.ref f24))) (l24:K.lookup f24=some ⟨oc24,od24,.func (PySem.W.fnOf "_law_rows_of_one" "_law_rows_of_one" (ZP Zq) (Zf Zq) (Zh Zq) .none kV24 dc24 pm24 an24 cd24 ct24),sl24⟩) (c24:PySem.W.codeIn K cd24 "_law_rows_of_one" = true) (k24:PySem.W.keepIn K (.ref f24)=true)
  (a25:PySem.W.nsIn K mainGlobals "_law_rows_in_common" = some (some (.ref f25))) (l25:K.lookup f25=some ⟨oc25,od25,.func (PySem.W.fnOf "_law_rows_in_common" "_law_rows_in_common" (ZP Zj) (Zf Zj) (Zh Zj) .none kV25 dc25 pm25 an25 cd25 ct25),sl25⟩) (c25:PySem.W.codeIn K cd25 "_law_rows_in_common" = true) (k25:PySem.W.keepIn K (.ref f25)=true)
  (a26:PySem.W.nsIn K mainGlobals "_law_bad_asked" = some (some (.ref f26))) (l26:K.lookup f26=some ⟨oc26,od26,.func (PySem.W.fnOf "_law_bad_asked" "_law_bad_asked" (ZP ZS) (Zf ZS) (Zh ZS) .none kV26 dc26 pm26 an26 cd26 ct26),sl26⟩) (c26:PySem.W.codeIn K cd26 "_law_bad_asked" = true) (k26:PySem.W.keepIn K (.ref f26)=true)
  (a27:PySem.W.nsIn K mainGlobals "law" = some (some (.ref f27))) (l27:K.lookup f27=some ⟨oc27,od27,.func (PySem.W.fnOf "law" "law" (ZP ZaY) (Zf ZaY) (Zh ZaY) .none kV27 dc27 pm27 an27 cd27 ct27),sl27⟩) (c27:PySem.W.codeIn K cd27 "law" = true) (k27:PySem.W.keepIn K (.ref f27)=true)
  {tk0 tk1 tk2:Tok} (y0:PySem.W.nsIn K mainGlobals "LONGEST_TAG" = some (some (.int 8 tk0))) (y1:PySem.W.nsIn K mainGlobals "MOST_KINDS" = some (some (.int 64 tk1))) (y2:PySem.W.nsIn K mainGlobals "MOST_RULES" = some (some (.int 400 tk2)))
  (z0:PySem.W.nsIn K mainGlobals "ValueError" = some none) (z1:PySem.W.nsIn K mainGlobals "all" = some none) (z2:PySem.W.nsIn K mainGlobals "any" = some none) (z3:PySem.W.nsIn K mainGlobals "isinstance" = some none) (z4:PySem.W.nsIn K mainGlobals "len" = some none) (z5:PySem.W.nsIn K mainGlobals "list" = some none) (z6:PySem.W.nsIn K mainGlobals "max" = some none) (z7:PySem.W.nsIn K mainGlobals "min" = some none) (z8:PySem.W.nsIn K mainGlobals "range" = some none) (z9:PySem.W.nsIn K mainGlobals "set" = some none) (z10:PySem.W.nsIn K mainGlobals "sorted" = some none) (z11:PySem.W.nsIn K mainGlobals "tuple" = some none) (z12:PySem.W.nsIn K mainGlobals "zip" = some none) :
  ∃fd:FuncData,(∀(s:Shared)(v:Value),BindsTo s fd ⟨[v],[]⟩ [("_law_script",v)])/\∀base:Heap,K.In base->base.Ns mainGlobals mg->FnOk l.prog w K mg base CX0 6 fa fd ["_law_script"] (Fg.Zir K):=by
 have e:=hfa.symm.trans (PySem.W.mg_of X G a27);cases e;have B:∀x∈Zca,mg x=none:=List.forall_mem_cons.mpr ⟨PySem.W.mg_none_of X G z0,List.forall_mem_cons.mpr ⟨PySem.W.mg_none_of X G z1,List.forall_mem_cons.mpr ⟨PySem.W.mg_none_of X G z2,List.forall_mem_cons.mpr ⟨PySem.W.mg_none_of X G z3,List.forall_mem_cons.mpr ⟨PySem.W.mg_none_of X G z4,List.forall_mem_cons.mpr ⟨PySem.W.mg_none_of X G z5,List.forall_mem_cons.mpr ⟨PySem.W.mg_none_of X G z6,List.forall_mem_cons.mpr ⟨PySem.W.mg_none_of X G z7,List.forall_mem_cons.mpr ⟨PySem.W.mg_none_of X G z8,List.forall_mem_cons.mpr ⟨PySem.W.mg_none_of X G z9,List.forall_mem_cons.mpr ⟨PySem.W.mg_none_of X G z10,List.forall_mem_cons.mpr ⟨PySem.W.mg_none_of X G z11,List.forall_mem_cons.mpr ⟨PySem.W.mg_none_of X G z12,List.forall_mem_nil _⟩⟩⟩⟩⟩⟩⟩⟩⟩⟩⟩⟩⟩;have Cc_LONGEST_TAG:∃t:Tok,mg "LONGEST_TAG" = some (.int 8 t):=⟨_,PySem.W.mg_of X G y0⟩;have Cc_MOST_KINDS:∃t:Tok,mg "MOST_KINDS" = some (.int 64 t):=⟨_,PySem.W.mg_of X G y1⟩;have Cc_MOST_RULES:∃t:Tok,mg "MOST_RULES" = some (.int 400 t):=⟨_,PySem.W.mg_of X G y2⟩;have F1:=Zab (st:=Zbu) l1 c1 k1;have b1:=F1.binds (ps:=["_law_script","_law_k"]) fun _ _ _ _ _ _ us hl=>by obtain⟨_,_,rfl⟩:=ZfK hl;rfl
 have F2:=Zab (st:=Zbp) l2 c2 k2;have b2:=F2.binds (ps:=["_law_many","_law_cell_here"]) fun _ _ _ _ _ _ us hl=>by obtain⟨_,_,rfl⟩:=ZfK hl;rfl
 have F3:=Zab (st:=Zbt) l3 c3 k3;have b3:=F3.binds (ps:=["kinds","by"]) fun _ _ _ _ _ _ us hl=>by obtain⟨_,_,rfl⟩:=ZfK hl;rfl
 have F4:=Zab (st:=Zaw) l4 c4 k4;have b4:=F4.binds (ps:=["many","starts","ends","rules"]) fun _ _ _ _ _ _ us hl=>by obtain⟨_,_,_,_,rfl⟩:=Zlf hl;rfl
 have F5:=Zab (st:=Zao) l5 c5 k5;have b5:=F5.binds (ps:=["rules","by","inner_by"]) fun _ _ _ _ _ _ us hl=>by obtain⟨_,_,_,rfl⟩:=Zld hl;rfl
 have F6:=Zab (st:=ZdG) l6 c6 k6;have b6:=F6.binds (ps:=["one","other"]) fun _ _ _ _ _ _ us hl=>by obtain⟨_,_,rfl⟩:=ZfK hl;rfl
 have F7:=Zab (st:=Zav) l7 c7 k7;have b7:=F7.binds (ps:=["one"]) fun _ _ _ _ _ _ us hl=>by obtain⟨_,rfl⟩:=Zjb hl;rfl
 have F8:=Zab (st:=Zaa) l8 c8 k8;have b8:=F8.binds (ps:=["form"]) fun _ _ _ _ _ _ us hl=>by obtain⟨_,rfl⟩:=Zjb hl;rfl
 have F9:=Zab (st:=Zdt) l9 c9 k9;have b9:=F9.binds (ps:=["one","other"]) fun _ _ _ _ _ _ us hl=>by obtain⟨_,_,rfl⟩:=ZfK hl;rfl
 have F10:=Zab (st:=s_again) l10 c10 k10;have b10:=F10.binds (ps:=["one"]) fun _ _ _ _ _ _ us hl=>by obtain⟨_,rfl⟩:=Zjb hl;rfl
 have F11:=Zab (st:=Zbv) l11 c11 k11;have b11:=F11.binds (ps:=["text"]) fun _ _ _ _ _ _ us hl=>by obtain⟨_,rfl⟩:=Zjb hl;rfl
 have F12:=Zab (st:=Z6) l12 c12 k12;have b12:=F12.binds (ps:=["tag"]) fun _ _ _ _ _ _ us hl=>by obtain⟨_,rfl⟩:=Zjb hl;rfl
 have F13:=Zab (st:=Zbw) l13 c13 k13;have b13:=F13.binds (ps:=["tag","one"]) fun _ _ _ _ _ _ us hl=>by obtain⟨_,_,rfl⟩:=ZfK hl;rfl
 have F14:=Zab (st:=Zbq) l14 c14 k14;have b14:=F14.binds (ps:=["kinds","mates","many"]) fun _ _ _ _ _ _ us hl=>by obtain⟨_,_,_,rfl⟩:=Zld hl;rfl
 have F15:=Zab (st:=ZaB) l15 c15 k15;have b15:=F15.binds (ps:=["kinds","mates","many"]) fun _ _ _ _ _ _ us hl=>by obtain⟨_,_,_,rfl⟩:=Zld hl;rfl
 have F16:=Zab (st:=Zbx) l16 c16 k16;have b16:=F16.binds (ps:=["one","other"]) fun _ _ _ _ _ _ us hl=>by obtain⟨_,_,rfl⟩:=ZfK hl;rfl
 have F17:=Zab (st:=Zaz) l17 c17 k17;have b17:=F17.binds (ps:=["tags"]) fun _ _ _ _ _ _ us hl=>by obtain⟨_,rfl⟩:=Zjb hl;rfl
 have F18:=Zab (st:=Zau) l18 c18 k18;have b18:=F18.binds (ps:=["_law_way","_law_one","_law_other","_law_tag_here"]) fun _ _ _ _ _ _ us hl=>by obtain⟨_,_,_,_,rfl⟩:=Zlf hl;rfl
 have F19:=Zab (st:=Zco) l19 c19 k19;have b19:=F19.binds (ps:=["_law_many","_law_rules"]) fun _ _ _ _ _ _ us hl=>by obtain⟨_,_,rfl⟩:=ZfK hl;rfl
 have F20:=Zab (st:=Zo) l20 c20 k20;have b20:=F20.binds (ps:=["_law_script"]) fun _ _ _ _ _ _ us hl=>by obtain⟨_,rfl⟩:=Zjb hl;rfl
 have F21:=Zab (st:=Zce) l21 c21 k21;have b21:=F21.binds (ps:=["_law_seed","_law_v"]) fun _ _ _ _ _ _ us hl=>by obtain⟨_,_,rfl⟩:=ZfK hl;rfl
 have F22:=Zab (st:=Za3) l22 c22 k22;have b22:=F22.binds (ps:=["_law_many","_law_heads","_law_tails","_law_seed","_law_first","_law_count"]) fun _ _ _ _ _ _ us hl=>by obtain⟨_,_,_,_,_,_,rfl⟩:=Zl6 hl;rfl
 have F23:=Zab (st:=Zn) l23 c23 k23;have b23:=F23.binds (ps:=["_law_script","_law_near"]) fun _ _ _ _ _ _ us hl=>by obtain⟨_,_,rfl⟩:=ZfK hl;rfl
 have F24:=Zab (st:=Zq) l24 c24 k24;have b24:=F24.binds (ps:=["_law_script","_law_near"]) fun _ _ _ _ _ _ us hl=>by obtain⟨_,_,rfl⟩:=ZfK hl;rfl
 have F25:=Zab (st:=Zj) l25 c25 k25;have b25:=F25.binds (ps:=["_law_script","_law_near"]) fun _ _ _ _ _ _ us hl=>by obtain⟨_,_,rfl⟩:=ZfK hl;rfl
 have F26:=Zab (st:=ZS) l26 c26 k26;have b26:=F26.binds (ps:=["_law_script","_law_tags"]) fun _ _ _ _ _ _ us hl=>by obtain⟨_,_,rfl⟩:=ZfK hl;rfl
 have F27:=Zab (st:=ZaY) l27 c27 k27;refine⟨PySem.W.fnOf "law" "law" (ZP ZaY) (Zf ZaY) (Zh ZaY) .none kV27 dc27 pm27 an27 cd27 ct27,fun s v=>.of_eq rfl,fun base _ _=>?_⟩;have xc:XC K mg X_GroveError X_BadForm X_TooMany X_TooBig:=⟨PySem.W.mg_of X G xn_GroveError,PySem.W.mg_of X G xn_BadForm,PySem.W.mg_of X G xn_TooMany,PySem.W.mg_of X G xn_TooBig,⟨xb1,xb2,xb3⟩,xb4,xb5,⟨d1_GroveError,d2_GroveError,d3_GroveError⟩,⟨d1_BadForm,d2_BadForm,d3_BadForm⟩,⟨d1_TooMany,d2_TooMany,d3_TooMany⟩,⟨d1_TooBig,d2_TooBig,d3_TooBig⟩,⟨⟨_,_,_,_,_,_,_,_,_,_,_,_,_,_,_,xl_BadForm⟩,⟨⟨_,_,_,_,_,_,_,_,_,xg1,xg2,xg3,xg4⟩⟩,xc_BadForm,xt_BadForm,xk_BadForm⟩,xi_BadForm,⟨f1_BadForm_place,f2_BadForm_place,f3_BadForm_place,f4_BadForm_place,f5_BadForm_place,d2_BadForm⟩,xv_BadForm,xe_BadForm,⟨o1_BadForm_TooMany,o2_BadForm_TooMany,o3_BadForm_TooMany,o4_BadForm_TooMany,o5_BadForm_TooMany⟩,o6_BadForm_TooMany,⟨o1_BadForm_TooBig,o2_BadForm_TooBig,o3_BadForm_TooBig,o4_BadForm_TooBig,o5_BadForm_TooBig⟩,o6_BadForm_TooBig,m_BadForm_GroveError,m_BadForm_BadForm,m_BadForm_TooMany,m_BadForm_TooBig,⟨⟨_,_,_,_,_,_,_,_,_,_,_,_,_,_,_,xl_TooMany⟩,⟨⟨_,_,_,_,_,_,_,_,_,xg1,xg2,xg3,xg4⟩⟩,xc_TooMany,xt_TooMany,xk_TooMany⟩,xi_TooMany,⟨f1_TooMany_place,f2_TooMany_place,f3_TooMany_place,f4_TooMany_place,f5_TooMany_place,d2_TooMany⟩,xv_TooMany,xe_TooMany,⟨o1_TooMany_BadForm,o2_TooMany_BadForm,o3_TooMany_BadForm,o4_TooMany_BadForm,o5_TooMany_BadForm⟩,o6_TooMany_BadForm,⟨o1_TooMany_TooBig,o2_TooMany_TooBig,o3_TooMany_TooBig,o4_TooMany_TooBig,o5_TooMany_TooBig⟩,o6_TooMany_TooBig,m_TooMany_GroveError,m_TooMany_BadForm,m_TooMany_TooMany,m_TooMany_TooBig⟩;have g_l_cell:Has l.prog w K mg base "_law_cell" ["_law_script","_law_k"] 1 (Fg.ZaV K):=⟨⟨f1,_,Zik B  F1,b1,k1,PySem.W.mg_of X G a1⟩⟩;have g_l_bare:Has l.prog w K mg base "_law_bare" ["_law_many","_law_cell_here"] 1 (K47.Zf0):=⟨⟨f2,_,Zho B  F2,b2,k2,PySem.W.mg_of X G a2⟩⟩;have g_raised:Has l.prog w K mg base "raised" ["kinds","by"] 1 (Fg.Zb4):=⟨⟨f3,_,Zid B  F3,b3,k3,PySem.W.mg_of X G a3⟩⟩;have g_sorted_form:HasX l.prog w K mg base "sorted_form" ["many","starts","ends","rules"] 1 (K47.Zbn K X_TooMany):=⟨⟨f4,_,Zdr B Cc_MOST_KINDS Cc_MOST_RULES xc  F4,b4,k4,PySem.W.mg_of X G a4⟩⟩;have g_raised_rules:Has l.prog w K mg base "raised_rules" ["rules","by","inner_by"] 1 (K47.Zbk):=⟨⟨f5,_,Zc6 B  F5,b5,k5,PySem.W.mg_of X G a5⟩⟩;have g_join:HasX l.prog w K mg base "join" ["one","other"] 2 (K47.Zfo X_TooMany):=⟨⟨f6,_,ZjM B g_raised g_sorted_form g_raised_rules F6,b6,k6,PySem.W.mg_of X G a6⟩⟩;have g_outer_rules:Has l.prog w K mg base "outer_rules" ["one"] 2 (K47.Zd4):=⟨⟨f7,_,Zdq B g_raised_rules F7,b7,k7,PySem.W.mg_of X G a7⟩⟩;have g_started_rules:Has l.prog w K mg base "started_rules" ["form"] 1 (K47.Zb0):=⟨⟨f8,_,ZcJ B  F8,b8,k8,PySem.W.mg_of X G a8⟩⟩;have g_then:HasX l.prog w K mg base "then" ["one","other"] 3 (K47.Zfi X_TooMany):=⟨⟨f9,_,Zj1 B g_raised g_outer_rules g_raised_rules g_started_rules g_sorted_form F9,b9,k9,PySem.W.mg_of X G a9⟩⟩
 have g_again:HasX l.prog w K mg base "again" ["one"] 3 (K47.ZdK X_TooMany):=⟨⟨f10,_,Ziz B g_outer_rules g_raised g_started_rules g_sorted_form F10,b10,k10,PySem.W.mg_of X G a10⟩⟩;have g_is_tag:Has l.prog w K mg base "is_tag" ["text"] 1 (Fg.Zfp):=⟨⟨f11,_,ZgY B Cc_LONGEST_TAG  F11,b11,k11,PySem.W.mg_of X G a11⟩⟩;have g_refuse_bad_tag:HasX l.prog w K mg base "refuse_bad_tag" ["tag"] 2 (K47.Zem X_BadForm):=⟨⟨f12,_,Zcj B xc g_is_tag F12,b12,k12,PySem.W.mg_of X G a12⟩⟩;have g_inside:HasX l.prog w K mg base "inside" ["tag","one"] 3 (K47.Zdd X_TooMany X_BadForm):=⟨⟨f13,_,Zij B g_refuse_bad_tag g_sorted_form F13,b13,k13,PySem.W.mg_of X G a13⟩⟩;have g_paired:Has l.prog w K mg base "paired" ["kinds","mates","many"] 1 (K47.Zd6 K):=⟨⟨f14,_,Zhj B  F14,b14,k14,PySem.W.mg_of X G a14⟩⟩;have g_all_paired:Has l.prog w K mg base "all_paired" ["kinds","mates","many"] 1 (K47.ZbJ K):=⟨⟨f15,_,ZdJ B  F15,b15,k15,PySem.W.mg_of X G a15⟩⟩;have g_common:HasX l.prog w K mg base "common" ["one","other"] 2 (K47.Zdi X_TooMany):=⟨⟨f16,_,ZhP B Cc_MOST_KINDS xc g_paired g_sorted_form g_all_paired F16,b16,k16,PySem.W.mg_of X G a16⟩⟩;have g_everything:HasX l.prog w K mg base "everything" ["tags"] 3 (K47.ZdM K X_TooMany X_BadForm):=⟨⟨f17,_,Zec B g_refuse_bad_tag g_sorted_form F17,b17,k17,PySem.W.mg_of X G a17⟩⟩;have g_l_said:Has l.prog w K mg base "_law_said" ["_law_way","_law_one","_law_other","_law_tag_here"] 4 (K47.Zcw K):=⟨⟨f18,_,Zg6 B xc g_join g_then g_again g_inside g_common g_everything F18,b18,k18,PySem.W.mg_of X G a18⟩⟩;have g_l_due:Has l.prog w K mg base "_law_due" ["_law_many","_law_rules"] 1 (K47.ZbM):=⟨⟨f19,_,ZiC B  F19,b19,k19,PySem.W.mg_of X G a19⟩⟩;have g_l_kinds_asked:Has l.prog w K mg base "_law_kinds_asked" ["_law_script"] 5 (K47.ZjL K):=⟨⟨f20,_,ZcD B g_l_cell g_l_bare g_l_said g_l_due F20,b20,k20,PySem.W.mg_of X G a20⟩⟩;have g_l_tag:Has l.prog w K mg base "_law_tag" ["_law_seed","_law_v"] 1 (K47.Zci):=⟨⟨f21,_,Zis B  F21,b21,k21,PySem.W.mg_of X G a21⟩⟩;have g_l_ruled:Has l.prog w K mg base "_law_ruled" ["_law_many","_law_heads","_law_tails","_law_seed","_law_first","_law_count"] 2 (K47.Zc9):=⟨⟨f22,_,Zgy B g_l_tag F22,b22,k22,PySem.W.mg_of X G a22⟩⟩;have g_l_rows_of_two:Has l.prog w K mg base "_law_rows_of_two" ["_law_script","_law_near"] 5 (K47.ZbZ K):=⟨⟨f23,_,ZcE B g_l_cell g_l_ruled g_l_said g_l_due F23,b23,k23,PySem.W.mg_of X G a23⟩⟩;have g_l_rows_of_one:Has l.prog w K mg base "_law_rows_of_one" ["_law_script","_law_near"] 5 (K47.ZbZ K):=⟨⟨f24,_,ZcI B g_l_cell g_l_ruled g_l_said g_l_due g_l_tag F24,b24,k24,PySem.W.mg_of X G a24⟩⟩;have g_l_rows_in_common:Has l.prog w K mg base "_law_rows_in_common" ["_law_script","_law_near"] 5 (K47.ZbZ K):=⟨⟨f25,_,ZbL B g_l_cell g_l_tag g_l_ruled g_l_said g_l_due F25,b25,k25,PySem.W.mg_of X G a25⟩⟩;have g_l_bad_asked:Has l.prog w K mg base "_law_bad_asked" ["_law_script","_law_tags"] 5 (K47.ZjV K):=⟨⟨f26,_,Zdo B g_l_cell g_l_said g_l_bare F26,b26,k26,PySem.W.mg_of X G a26⟩⟩;exact Zkm B g_l_cell g_l_kinds_asked g_l_rows_of_two g_l_rows_of_one g_l_rows_in_common g_l_tag g_l_said g_l_due g_l_bad_asked F27
theorem walk{l:PySem.W.OpenLaw}{q:Program}{loose:List Str}{XP:(Str->Option Value)->Heap->Prop}{YP:World->Heap->Prop}{d:DefRec}{K:Params->PySem.W.Frag}(hn:l.most=some 63)(hdf:d.params.defaults=[])
  (hY:∀(w:World)(h:Heap),YP w h->(K w.params).In h)
  (F:∀(w:World)(mg:Str->Option Value)(fa:Addr)(h:Heap),(K w.params).In h->h.Ns mainGlobals mg->mg d.name=some (.ref fa) ->
   ∃fd:FuncData,(∀(s:Shared)(u:Value),BindsTo s fd ⟨[u],[]⟩ [("_law_script",u)])/\∀base:Heap,(K w.params).In base->base.Ns mainGlobals mg->FnOk l.prog w (K w.params) mg base CX0 6 fa fd ["_law_script"] (Fg.Zir (K w.params))) :
  PySem.W.WalkO q loose XP YP l.row.toRowW d [] (fun f vs=>PySem.call f vs) :=
 L2.ZgW (n:=63) (k:=6) (x := "_law_script") (CX:=fun _=>CX0) (sp:=fun w=>Fg.Zir (K w.params)) hn (by decide) hdf ⟨rfl,by decide,by decide,rfl⟩ hY F (fun _ _ a ns hl _ hS=>⟨a,ns,rfl,hS,hl,fun _=>rfl⟩) fun _ _ _ _ _ z=>z
end K47
namespace PySem.W.Fast
def tw7379409097557010509:=0
def tw18036626104004210584:=0
def tw5407966127395614944:=0
def tw16829042188643422309:=0
def tw4165231991350502675:=0
def tw2409235583265173316:=0
def tw12458190577580329535:=0
def tw2654812893083259288:=0
def tw3582007384626984476:=0
def tw8823594094494519686:=0
def tw2034163134514755152:=0
def tw5276610355486599773:=0
def tw7531997536414309740:=0
def tw6356615078853639707:=0
def tw9980676939264928560:=0
def tw7107158699780939327:=0
def tw8912322543797824245:=0
def tw8875109678909344024:=0
def tw4710855037118613829:=0
def tw583622162395188459:=0
def tw6769314169960517208:=0
def tw5571129808911001786:=0
def tw13093295012759368498:=0
def tw10416779435162672155:=0
def tw8255995447684048201:=0
def tw906498262964957149:=0
def tw450343922654039564:=0
def tw13109616762580419310:=0
def tw17230317452494387038:=0
def tw14550088715391075700:=0
def tw10029884284435847213:=0
def tw5481477464833234639:=0
def tw354664002618768986:=0
def tw7769611696631597269:=0
def tw15540534427113098651:=0
def tw15354621689022614321:=0
def tw10227121906644865766:=0
def tw16545973307899232280:=0
def tw13586107864257760411:=0
def tw14474092799024495108:=0
def tw1407921470533828553:=0
def tw8984466653951625483:=0
def tw10122489987585932774:=0
def tw17285561641571464624:=0
def tw2421944869005289521:=0
def tw11818326097137403820:=0
def tw12991290011199849493:=0
def tw11522132776939286381:=0
def tw2469919857717512155:=0
def tw4722053496432500164:=0
def tw4858870723918866180:=0
def tw2291666350117144374:=0
def tw4291847075150378636:=0
def tw17207394554763341317:=0
def tw8617362508391262555:=0
def tw13900198421109983577:=0
def tw12037839586175417973:=0
def tw4614208397140774284:=0
def tw1474587667155315688:=0
def tw17765220968795767201:=0
def tw11935287393021675438:=0
def tw14960958890059473188:=0
def tw14032407449801110195:=0
def tw10286557247914901290:=0
def tw859599268954792155:=0
def tw4250183309694418888:=0
def tw3507172143642643924:=0
def tw8040064029770180365:=0
def tw5708509756154182495:=0
def tw7757079419333540404:=0
def tw2936402630489456374:=0
def tw5388773879189089987:=0
def tw13269233392640890860:=0
def tw4205963810420472828:=0
def tw6289870224047006248:=0
def tw4437059882816901247:=0
def tw3103311061084839054:=0
def tw11380494832689207600:=0
def tw8492828058208129253:=0
def tw3097112390021033220:=0
def tw5240018692680760461:=0
def tw14913925527407564629:=0
def tw17910577603795591755:=0
def tw7965309537568100405:=0
def tw17657975266816756864:=0
def tw13621004003084253851:=0
def tw14056883759935854789:=0
def tw11562837143466149818:=0
def tw11232641670979477718:=0
def tw3484892610950537805:=0
def tw16736759622149126991:=0
def tw6099425398164561736:=0
def tw9273841596466559342:=0
def tw16556090555191636485:=0
def tw2371524339979722408:=0
def tw2587055464387368141:=0
def tw16509680429899041366:=0
def tw5607231132295765418:=0
def tw17809245254618523834:=0
def tw5139355462299498405:=0
def tw11777466946701334535:=0
def tw2391371421937394672:=0
def tw10137591816472938535:=0
def tw12856333378494158591:=0
def tw11529949753452565032:=0
def tw2646386206966807632:=0
def tw13199831647369185152:=0
def tw4804491433896584692:=0
def tw2660452688236745824:=0
def tw10745238665737782733:=0
def tw13716415754376273469:=0
def tw14299367696847310432:=0
def tw5116611652745894213:=0
def tw15887799732131446874:=0
def tw9152203198226007702:=0
def tw5675919816772630677:=0
def tw6050692783652791769:=0
def tw8728895063402453830:=0
def tw14608766062999590741:=0
def tw10419843132278985936:=0
def tw15978960500802138116:=0
def tw3742438902637858059:=0
def tw9359680166306617478:=0
def tw2197098772105381017:=0
def tw10766272498407106770:=0
def tw14987688807131391229:=0
def tw311084257330719811:=0
def tw2440935683416495497:=0
def tw7281124443533040351:=0
def tw1997129963713629226:=0
def tw3496814584911005995:=0
def tw1335184318469297006:=0
def tw2967066593362811059:=0
def tw2754513093542369735:=0
def tw684273743843913595:=0
def tw16260218722460140657:=0
def tw16862138591668411432:=0
def tw5257407798815696531:=0
def tw507002901214671841:=0
def tw8115227704139631594:=0
def tw2415982600821142702:=0
def tw15181374171562880010:=0
def tw17271191215452083601:=0
def tw14121589460285286401:=0
def tw5463248154049727316:=0
def tw8984155224626314626:=0
def tw14448030733058620865:=0
def tw13375536152746539172:=0
def tw9169337788155946635:=0
def tw9180063990283244631:=0
def tw15844943308428293462:=0
def tw2399601582847494870:=0
def tw1467789996568081731:=0
def tw18224639927303427576:=0
def tw13489909831516288487:=0
def tw11492615261448991243:=0
def tw18000418551723511584:=0
def tw12659926567071328435:=0
def tw13924361247895937680:=0
def tw1603901621824180129:=0
def tw15734721883009601333:=0
def tw8777760521471538849:=0
def tw7652643868169987575:=0
def tw30394805986690991:=0
def tw7864486610409046198:=0
def tw2671279316751139118:=0
def tw12017259588031065078:=0
def tw139371852465439779:=0
def tw16646262912219204892:=0
def tw10355598804544162597:=0
def tw5560568575874269432:=0
def tw13502041862607015945:=0
def tw17551146645794015759:=0
def tw4139972578695208779:=0
def tw879107028763770954:=0
def tw14886129878355817602:=0
def tw8573754033775133699:=0
def tw15805338414497326077:=0
def tw16273844014058952235:=0
def tw8824813065431870111:=0
def tw10046713810288367186:=0
def tw13772750608938814117:=0
def tw2944992361805882226:=0
def tw9157894770045235468:=0
def tw3870948237672482466:=0
def tw4874061673882497473:=0
def tw9673777841564560327:=0
def tw11088815853438597791:=0
def tw17952140246488571272:=0
def tw1591584306686006824:=0
def tw14114228469207525046:=0
def tw15546708280266965020:=0
def tw6934864280835738055:=0
def tw5408490837183939598:=0
def tw6338311023113957671:=0
def tw14200168007772223254:=0
def tw4271310384166084657:=0
def tw1734591374013357997:=0
def tw9447415158896341965:=0
def tw13899562185177996586:=0
def tw8671620491911167956:=0
def tw7343945364919482911:=0
def tw13250664415398163759:=0
def tw7161875009388766668:=0
def tw9584149088038231604:=0
def tw8466269542976392548:=0
def tw8370950387876651498:=0
def tw4391747992683511853:=0
def tw14106007360875828882:=0
def tw13211832237855470462:=0
def tw2161912114608645076:=0
def tw17554416077771500318:=0
def tw12520527329720767190:=0
def tw8931849767382226512:=0
def tw8402421559853538445:=0
def tw16997061857997404283:=0
def tw8991173634980748769:=0
def tw10326073865744828205:=0
def tw11330812351965086266:=0
def tw2434702927404250198:=0
def tw2047700723018721549:=0
def tw8152441414508876478:=0
def tw12543375527256366498:=0
def tw12042545249623742642:=0
def tw4070607857753901997:=0
def tw2287807340517344430:=0
def tw16019586031670204671:=0
def tw1925284112308786817:=0
def tw4789586502468192872:=0
def tw9284594344061134275:=0
def tw5272326388228054601:=0
def tw17982532156582589256:=0
def tw17816939287662807102:=0
def tw1910989142412288994:=0
def tw15135957147160321047:=0
def tw8746563386498275009:=0
def tw8708107386833034555:=0
def tw14218405582935841928:=0
def tw6904433121825300510:=0
def tw8267115931715724523:=0
def tw8556762367292277309:=0
end PySem.W.Fast
open PySem PySem.W PyProof.Rows
set_option maxRecDepth 100000 in
set_option maxHeartbeats 0 in
theorem PySem.Challenge.cw_formgrove_k47_forms_too_great_holds : PySem.Challenge.rw_formgrove_k47_forms_too_great.Holds := by
 w_on;o_law;k_head;(case hw=>w_witness2)
 k_fill
 refine K47.walk (l:=PySem.Challenge.rw_formgrove_k47_forms_too_great) rfl rfl (fun w h Y=>PySem.W.kIn_of Y) ?F
 case F =>
  intro w mg fa h KX G hmg;refine' K47.ZkT KX G hmg ?xn_GroveError ?xn_BadForm ?xn_TooMany ?xn_TooBig ?xg1 ?xg2 ?xg3 ?xg4 ?xb1 ?xb2 ?xb3 ?xb4 ?xb5 ?d1_GroveError ?d2_GroveError ?d3_GroveError ?d1_BadForm ?d2_BadForm ?d3_BadForm ?d1_TooMany ?d2_TooMany ?d3_TooMany ?d1_TooBig ?d2_TooBig ?d3_TooBig ?xl_BadForm ?xc_BadForm ?xt_BadForm ?xk_BadForm ?xv_BadForm ?xe_BadForm ?o1_BadForm_TooMany ?o2_BadForm_TooMany ?o3_BadForm_TooMany ?o4_BadForm_TooMany ?o5_BadForm_TooMany ?o6_BadForm_TooMany ?o1_BadForm_TooBig ?o2_BadForm_TooBig ?o3_BadForm_TooBig ?o4_BadForm_TooBig ?o5_BadForm_TooBig ?o6_BadForm_TooBig ?xi_BadForm ?f1_BadForm_place ?f2_BadForm_place ?f3_BadForm_place ?f4_BadForm_place ?f5_BadForm_place ?m_BadForm_GroveError ?m_BadForm_BadForm ?m_BadForm_TooMany ?m_BadForm_TooBig ?xl_TooMany ?xc_TooMany ?xt_TooMany ?xk_TooMany ?xv_TooMany ?xe_TooMany ?o1_TooMany_BadForm ?o2_TooMany_BadForm ?o3_TooMany_BadForm ?o4_TooMany_BadForm ?o5_TooMany_BadForm ?o6_TooMany_BadForm ?o1_TooMany_TooBig ?o2_TooMany_TooBig ?o3_TooMany_TooBig ?o4_TooMany_TooBig ?o5_TooMany_TooBig ?o6_TooMany_TooBig ?xi_TooMany ?f1_TooMany_place ?f2_TooMany_place ?f3_TooMany_place ?f4_TooMany_place ?f5_TooMany_place ?m_TooMany_GroveError ?m_TooMany_BadForm ?m_TooMany_TooMany ?m_TooMany_TooBig ?a1 ?l1 ?c1 ?k1 ?a2 ?l2 ?c2 ?k2 ?a3 ?l3 ?c3 ?k3 ?a4 ?l4 ?c4 ?k4 ?a5 ?l5 ?c5 ?k5 ?a6 ?l6 ?c6 ?k6 ?a7 ?l7 ?c7 ?k7 ?a8 ?l8 ?c8 ?k8 ?a9 ?l9 ?c9 ?k9 ?a10 ?l10 ?c10 ?k10 ?a11 ?l11 ?c11 ?k11 ?a12 ?l12 ?c12 ?k12 ?a13 ?l13 ?c13 ?k13 ?a14 ?l14 ?c14 ?k14 ?a15 ?l15 ?c15 ?k15 ?a16 ?l16 ?c16 ?k16 ?a17 ?l17 ?c17 ?k17 ?a18 ?l18 ?c18 ?k18 ?a19 ?l19 ?c19 ?k19 ?a20 ?l20 ?c20 ?k20 ?a21 ?l21 ?c21 ?k21 ?a22 ?l22 ?c22 ?k22 ?a23 ?l23 ?c23 ?k23 ?a24 ?l24 ?c24 ?k24 ?a25 ?l25 ?c25 ?k25 ?a26 ?l26 ?c26 ?k26 ?a27 ?l27 ?c27 ?k27 ?y0 ?y1 ?y2 ?z0 ?z1 ?z2 ?z3 ?z4 ?z5 ?z6 ?z7 ?z8 ?z9 ?z10 ?z11 ?z12
  (case xn_GroveError=>k_is)
  (case xn_BadForm=>k_is)
  (case xn_TooMany=>k_is)
  (case xn_TooBig=>k_is)
  (case xg1=>k_is)
  (case xg2=>k_is)
  (case xg3=>rfl)
  (case xg4=>k_is)
  (case xb1=>k_is)
  (case xb2=>k_is)
  (case xb3=>k_is)
  (case xb4=>k_is)
  (case xb5=>k_is)
  (case d1_GroveError=>k_is)
  (case d2_GroveError=>k_is)
  (case d3_GroveError=>k_is)
  (case d1_BadForm=>k_is)
  (case d2_BadForm=>k_is)
  (case d3_BadForm=>k_is)
  (case d1_TooMany=>k_is)
  (case d2_TooMany=>k_is)
  (case d3_TooMany=>k_is)
  (case d1_TooBig=>k_is)
  (case d2_TooBig=>k_is)
  (case d3_TooBig=>k_is)
  (case xl_BadForm=>k_is)
  (case xc_BadForm=>k_is)
  (case xt_BadForm=>k_is)
  (case xk_BadForm=>k_is)
  (case xv_BadForm=>k_is)
  (case xe_BadForm=>decide)
  (case o1_BadForm_TooMany=>k_is)
  (case o2_BadForm_TooMany=>k_is)
  (case o3_BadForm_TooMany=>k_is)
  (case o4_BadForm_TooMany=>k_is)
  (case o5_BadForm_TooMany=>k_is)
  (case o6_BadForm_TooMany=>decide)
  (case o1_BadForm_TooBig=>k_is)
  (case o2_BadForm_TooBig=>k_is)
  (case o3_BadForm_TooBig=>k_is)
  (case o4_BadForm_TooBig=>k_is)
  (case o5_BadForm_TooBig=>k_is)
  (case o6_BadForm_TooBig=>decide)
  (case xi_BadForm=>k_is)
  (case f1_BadForm_place=>k_is)
  (case f2_BadForm_place=>k_is)
  (case f3_BadForm_place=>k_is)
  (case f4_BadForm_place=>k_is)
  (case f5_BadForm_place=>k_is)
  (case m_BadForm_GroveError=>k_is)
  (case m_BadForm_BadForm=>k_is)
  (case m_BadForm_TooMany=>k_is)
  (case m_BadForm_TooBig=>k_is)
  (case xl_TooMany=>k_is)
  (case xc_TooMany=>k_is)
  (case xt_TooMany=>k_is)
  (case xk_TooMany=>k_is)
  (case xv_TooMany=>k_is)
  (case xe_TooMany=>decide)
  (case o1_TooMany_BadForm=>k_is)
  (case o2_TooMany_BadForm=>k_is)
  (case o3_TooMany_BadForm=>k_is)
  (case o4_TooMany_BadForm=>k_is)
  (case o5_TooMany_BadForm=>k_is)
  (case o6_TooMany_BadForm=>decide)
  (case o1_TooMany_TooBig=>k_is)
  (case o2_TooMany_TooBig=>k_is)
  (case o3_TooMany_TooBig=>k_is)
  (case o4_TooMany_TooBig=>k_is)
  (case o5_TooMany_TooBig=>k_is)
  (case o6_TooMany_TooBig=>decide)
  (case xi_TooMany=>k_is)
  (case f1_TooMany_place=>k_is)
  (case f2_TooMany_place=>k_is)
  (case f3_TooMany_place=>k_is)
  (case f4_TooMany_place=>k_is)
  (case f5_TooMany_place=>k_is)
  (case m_TooMany_GroveError=>k_is)
  (case m_TooMany_BadForm=>k_is)
  (case m_TooMany_TooMany=>k_is)
  (case m_TooMany_TooBig=>k_is)
  (case a1=>k_is)
  (case l1=>k_is)
  (case c1=>k_is)
  (case k1=>k_is)
  (case a2=>k_is)
  (case l2=>k_is)
  (case c2=>k_is)
  (case k2=>k_is)
  (case a3=>k_is)
  (case l3=>k_is)
  (case c3=>k_is)
  (case k3=>k_is)
  (case a4=>k_is)
  (case l4=>k_is)
  (case c4=>k_is)
  (case k4=>k_is)
  (case a5=>k_is)
  (case l5=>k_is)
  (case c5=>k_is)
  (case k5=>k_is)
  (case a6=>k_is)
  (case l6=>k_is)
  (case c6=>k_is)
  (case k6=>k_is)
  (case a7=>k_is)
  (case l7=>k_is)
  (case c7=>k_is)
  (case k7=>k_is)
  (case a8=>k_is)
  (case l8=>k_is)
  (case c8=>k_is)
  (case k8=>k_is)
  (case a9=>k_is)
  (case l9=>k_is)
  (case c9=>k_is)
  (case k9=>k_is)
  (case a10=>k_is)
  (case l10=>k_is)
  (case c10=>k_is)
  (case k10=>k_is)
  (case a11=>k_is)
  (case l11=>k_is)
  (case c11=>k_is)
  (case k11=>k_is)
  (case a12=>k_is)
  (case l12=>k_is)
  (case c12=>k_is)
  (case k12=>k_is)
  (case a13=>k_is)
  (case l13=>k_is)
  (case c13=>k_is)
  (case k13=>k_is)
  (case a14=>k_is)
  (case l14=>k_is)
  (case c14=>k_is)
  (case k14=>k_is)
  (case a15=>k_is)
  (case l15=>k_is)
  (case c15=>k_is)
  (case k15=>k_is)
  (case a16=>k_is)
  (case l16=>k_is)
  (case c16=>k_is)
  (case k16=>k_is)
  (case a17=>k_is)
  (case l17=>k_is)
  (case c17=>k_is)
  (case k17=>k_is)
  (case a18=>k_is)
  (case l18=>k_is)
  (case c18=>k_is)
  (case k18=>k_is)
  (case a19=>k_is)
  (case l19=>k_is)
  (case c19=>k_is)
  (case k19=>k_is)
  (case a20=>k_is)
  (case l20=>k_is)
  (case c20=>k_is)
  (case k20=>k_is)
  (case a21=>k_is)
  (case l21=>k_is)
  (case c21=>k_is)
  (case k21=>k_is)
  (case a22=>k_is)
  (case l22=>k_is)
  (case c22=>k_is)
  (case k22=>k_is)
  (case a23=>k_is)
  (case l23=>k_is)
  (case c23=>k_is)
  (case k23=>k_is)
  (case a24=>k_is)
  (case l24=>k_is)
  (case c24=>k_is)
  (case k24=>k_is)
  (case a25=>k_is)
  (case l25=>k_is)
  (case c25=>k_is)
  (case k25=>k_is)
  (case a26=>k_is)
  (case l26=>k_is)
  (case c26=>k_is)
  (case k26=>k_is)
  (case a27=>k_is)
  (case l27=>k_is)
  (case c27=>k_is)
  (case k27=>k_is)
  (case y0=>k_is)
  (case y1=>k_is)
  (case y2=>k_is)
  (case z0=>k_is)
  (case z1=>k_is)
  (case z2=>k_is)
  (case z3=>k_is)
  (case z4=>k_is)
  (case z5=>k_is)
  (case z6=>k_is)
  (case z7=>k_is)
  (case z8=>k_is)
  (case z9=>k_is)
  (case z10=>k_is)
  (case z11=>k_is)
  (case z12=>k_is)
