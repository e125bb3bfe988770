import PyProof.Rows.All
import Wide.All
import OpenK.AllK
import Wide.FinOn
import Lean
import PyProof.EqAt
import PyProof.EqKinds
import PyProof.TupleCall
import PyProof.AttrMissHeap
import PySem.Challenge.RW_smallrooms_k14_traces_refused
set_option Elab.async false
set_option linter.all false
set_option maxRecDepth 100000
set_option Elab.async false
set_option linter.all false
set_option maxRecDepth 100000
namespace L2
open PySem PySem.Spec PyProof.Rows
abbrev Key:=Sum Int Str
def zpq:Key->Value->Bool
 | .inl k,v=>Value.isInt k v
 | .inr x,v=>Value.isStrOf x v
def q5h(w:World):Key->Int
 | .inl k=>hashInt k
 | .inr x=>hashStr w x
theorem z3v:∀{k:Key} {v:Value},zpq k v=true->(∃i t,k=Sum.inl i/\v=Value.int i t)\/(∃x t,k=Sum.inr x/\v=Value.str x t)
 | .inl i,v,h=>by
  obtain⟨t,e⟩:=Value.isInt_shape (k:=i) (v:=v) h
  exact .inl ⟨i,t,rfl,e⟩
 | .inr x,v,h=>by
  obtain⟨t,e⟩:=Value.isStrOf_shape (x:=x) (v:=v) h
  exact .inr ⟨x,t,rfl,e⟩
theorem zv1(i:Int)(t:Tok):zpq (.inl i) (.int i t)=true:=by simp[zpq,Value.isInt]
theorem zv0(x:Str)(t:Tok):zpq (.inr x) (.str x t)=true:=by simp[zpq,Value.isStrOf]
theorem q2u(a b:Int):decide ((Sum.inl a:Key)=Sum.inl b)=(a == b):=by
 by_cases e:a=b
 ·subst e; simp
 ·have h:¬ (Sum.inl a:Key)=Sum.inl b:=fun q=>e (Sum.inl.inj q)
  rw [decide_eq_false h]
  exact(beq_eq_false_iff_ne.mpr e).symm
theorem q2r(a b:Str):decide ((Sum.inr a:Key)=Sum.inr b)=decide (a=b):=by
 by_cases e:a=b
 ·subst e; simp
 ·have h:¬ (Sum.inr a:Key)=Sum.inr b:=fun q=>e (Sum.inr.inj q)
  rw [decide_eq_false h,decide_eq_false e]
theorem q2t(a:Int)(b:Str):decide ((Sum.inl a:Key)=Sum.inr b)=false:=decide_eq_false (fun q=>nomatch q)
theorem q2s(a:Str)(b:Int):decide ((Sum.inr a:Key)=Sum.inl b)=false:=decide_eq_false (fun q=>nomatch q)
def z25(prog:Program)(w:World):PySem.KeyKind prog w Key where
 is:=zpq
 hash:=q5h w
 inj:=fun v a b ha hb=>by
  rcases z3v ha with⟨i,t,rfl,rfl⟩ | ⟨x,t,rfl,rfl⟩
  ·rcases z3v hb with⟨j,u,rfl,e⟩ | ⟨y,u,rfl,e⟩
   ·injection e with e1 _; rw [e1]
   ·exact nomatch e
  ·rcases z3v hb with⟨j,u,rfl,e⟩ | ⟨y,u,rfl,e⟩
   ·exact nomatch e
   ·injection e with e1 _; rw [e1]
 byValue:=fun k v h=>by
  rcases z3v h with⟨i,t,rfl,rfl⟩ | ⟨x,t,rfl,rfl⟩<;>rfl
 pyHash:=fun hv h=>by
  rcases z3v hv with⟨i,t,rfl,rfl⟩ | ⟨x,t,rfl,rfl⟩
  ·exact wpAny_pyHash_int h
  ·exact wpAny_pyHash_str h
 eqBool:=fun hu hv h=>by
  rcases z3v hu with⟨i,t,rfl,rfl⟩ | ⟨x,t,rfl,rfl⟩
  ·rcases z3v hv with⟨j,u,rfl,rfl⟩ | ⟨y,u,rfl,rfl⟩
   ·rw [q2u] at h; exact wpAny_eqBool_int h
   ·rw [q2t] at h; exact SeqAt.EqAt.int_str i t y u _ _ _ _ h
  ·rcases z3v hv with⟨j,u,rfl,rfl⟩ | ⟨y,u,rfl,rfl⟩
   ·rw [q2s] at h; exact SeqAt.EqAt.str_int x t j u _ _ _ _ h
   ·rw [q2r] at h; exact wpAny_eqBool_str h
 «strs»:=fun k x t v h=>by
  rcases z3v h with⟨i,u,rfl,e⟩ | ⟨y,u,rfl,e⟩
  ·exact nomatch e
  ·injection e with e1 _
   subst e1
   cases v<;>rfl
theorem zpo(prog:Program)(w:World)(i:Int)(t:Tok):(z25 prog w).is (.inl i) (.int i t)=true:=zv1 i t
theorem zpn(prog:Program)(w:World)(x:Str)(t:Tok):(z25 prog w).is (.inr x) (.str x t)=true:=zv0 x t
end L2
namespace L2
open PySem PySem.Spec PyProof.Rows
inductive V where
 | non | bl (b:Bool) | int (i:Int) | str (x:Str) | byt (b:Array UInt8) | flt (b:UInt64) | ref (a:Addr) | ty (n:String)
 deriving DecidableEq
def RelV:V->Value->Prop
 | .non,u=>u=Value.none
 | .bl b,u=>u=Value.bool b
 | .int i,u=>∃t,u=Value.int i t
 | .str x,u=>∃t,u=Value.str x t
 | .byt b,u=>∃t,u=Value.bytes b t
 | .flt b,u=>∃t,u=Value.float b t
 | .ref a,u=>u=Value.ref a
 | .ty n,u=>u=Value.type n
abbrev Vals:List V->List Value->Prop:=Paired RelV
theorem Vals.length{xs:List V}{us:List Value}(r:Vals xs us):xs.length=us.length:=Paired.length r
theorem Vals.get:∀{xs:List V} {us:List Value} {i:Nat} {x:V},Vals xs us->xs[i]?=some x->∃u,us[i]?=some u/\RelV x u
 | _,_,_,_,.nil,e=>by simp at e
 | _,_,0,_,.cons r _,e=>by simp at e; subst e; exact⟨_,rfl,r⟩
 | _,_,i+1,x,.cons _ t,e=>by
  obtain⟨u,h1,h2⟩:=Vals.get (i:=i) (x:=x) t (by simpa using e)
  exact⟨u,by simpa using h1,h2⟩
theorem Vals.set{x:V}{u:Value}(r:RelV x u):∀{xs:List V} {us:List Value} (i:Nat),Vals xs us->Vals (xs.set i x) (us.set i u)
 | _,_,_,.nil=>.nil
 | _,_,0,.cons _ t=>.cons r t
 | _,_,i+1,.cons q t=>.cons q (Vals.set r i t)
theorem Vals.append:∀{xs ys:List V} {us ws:List Value},Vals xs us->Vals ys ws->Vals (xs++ys) (us++ws)
 | _,_,_,_,.nil,s=>s
 | _,_,_,_,.cons r t,s=>.cons r (Vals.append t s)
theorem Vals.take:∀{xs:List V} {us:List Value} (n:Nat),Vals xs us->Vals (xs.take n) (us.take n)
 | _,_,0,_=>.nil
 | _,_,_+1,.nil=>.nil
 | _,_,n+1,.cons r t=>.cons r (Vals.take n t)
theorem Vals.drop:∀{xs:List V} {us:List Value} (n:Nat),Vals xs us->Vals (xs.drop n) (us.drop n)
 | _,_,0,r=>r
 | _,_,_+1,.nil=>.nil
 | _,_,n+1,.cons _ t=>Vals.drop n t
def RelO:Option V->Option Value->Prop
 | some v,some u=>RelV v u
 | none,none=>True
 | _,_=>False
def KV{κ : Type}:List (κ×V)->List (κ×Value)->Prop:=Paired fun(p : κ×V) (q : κ×Value)=>p.1=q.1/\RelV p.2 q.2
def kV:Key->V
 | .inl i=>.int i
 | .inr x=>.str x
inductive HO where
 | lst (xs:List V)
 | tup (xs:List V)
 | dK (kvs:List (Key×V)) | dT (kvs:List (List Key×V))
 | set (S:Int->Bool) (n:Nat)
 | ins (C dx:Addr) (fs:List (Str×V))
 | own (x:Addr)
 | xd (fs:List (Str×V))
 | met (f x:Addr)
 | rng (lo hi:Int)
 | frz (o:Obj) (u:HO)
 | tbl (ps:Array Value)
 | ext (φ : Heap->Prop)
abbrev Hp:=Addr->Option HO
def upd(H:Hp)(a:Addr)(o:HO):Hp:=fun b=>if b=a then some o else H b
theorem z01{H:Hp}{a:Addr}{o:HO}:upd H a o a=some o:=by unfold upd; rw [if_pos rfl]
theorem z0a{H:Hp}{a b:Addr}{o:HO}(h:b≠a):upd H a o b=H b:=by unfold upd; rw [if_neg h]
theorem z86{H:Hp}{a b:Addr}{o u:HO}(h:H a=some o)(h':H b=some u)(d:o≠u):a≠b:=by
 intro e; subst e; rw [h] at h'; exact d (Option.some.inj h')
theorem z0d{H:Hp}{a b:Addr}{o:HO}(h:H a=some o)(h':H b=none):a≠b:=by
 intro e; subst e; rw [h] at h'; cases h'
section
variable(P:Program)(w:World)
def ObjOk(H:Hp)(h:Heap)(a:Addr):HO->Prop
 | .lst xs=>xs.length<=sizeLine/\∃(its:List Value) (n:Nat),Vals xs its/\h.get? a=some {cls:=.type "list",data:=.seq its.toArray n}
 | .tup xs=>xs.length<=sizeLine/\∃its:List Value,Vals xs its/\IsTup h a its.toArray
 | .dK kvs=>kvs.length<=sizeLine/\(a == sysModules)=false/\∃vs,KV kvs vs/\h.DictOf (z25 P w) a vs
 | .dT kvs=>kvs.length<=sizeLine/\(a == sysModules)=false/\∃xs:List (List Key×Addr×Value),
   Paired (fun(p:List Key×V) (q:List Key×Addr×Value)=>p.1=q.1/\H q.2.1=some (.tup (p.1.map kV))/\RelV p.2 q.2.2) kvs xs/\
   ∃o es ep,h.get? a=some o/\o.ExactDict/\o.data=.dict es ep/\es.toList=xs.map (entryOfKey (tupleKind (z25 P w)))/\(xs.map (·.1)).Nodup
 | .set S n=>h.SetOf (intKind P w) a S n
 | .ins C dx fs=>H dx=some (.own a)/\fs.length<=1000/\dx≠a/\h.get? a=some (PySem.W.instObj C dx)/\
   ∃mA,h.Ns1 dx mA/\(∀f,RelO (fs.lookup f) (mA f))/\PySem.Within mA (fs.map (·.1))
 | .own _=>∃o,h.get? a=some o
 | .xd fs=>∃mA,h.Ns1 a mA/\∀f,RelO (fs.lookup f) (mA f)
 | .rng lo hi=>∃t u v,h.get? a=some {cls:=.type "range",data:=.fields #[.int lo t,.int hi u,.int 1 v]}
 | .frz o u=>h.get? a=some o/\ObjOk H h a u
 | .tbl ps=>h.get? a=some {cls:=.none,data:=.fields ps}
 | .met f x=>h.get? a=some (PySem.W.methodObj (.ref f) (.ref x))
 | .ext φ=>φ h/\(∃o,h.get? a=some o)/\∀h1 h2:Heap,φ h1->(∀o,h1.get? a=some o->h2.get? a=some o)->φ h2
def HOk(H:Hp)(h:Heap):Prop:=∀a o,H a=some o->ObjOk P w H h a o
end
section
variable{P:Program}{w:World}{H H':Hp}{h h':Heap}{a:Addr}{o:HO}
theorem ObjOk.lt(x:ObjOk P w H h a o):a < h.objs.size:=by
 cases o with
 | lst xs=>obtain⟨_,_,_,_,e⟩:=x; exact Heap.lt_size e
 | tup xs=>obtain⟨_,_,_,p⟩:=x; exact p.lt
 | dK kvs=>obtain⟨_,_,_,_,o,_,_,e,_⟩:=x; exact Heap.lt_size e
 | dT kvs=>obtain⟨_,_,_,_,o,_,_,e,_⟩:=x; exact Heap.lt_size e
 | set S n=>obtain⟨o,_,_,_,e,_⟩:=x; exact Heap.lt_size e
 | ins C dx fs=>obtain⟨_,_,_,e,_⟩:=x; exact Heap.lt_size e
 | own y=>obtain⟨_,e⟩:=x; exact Heap.lt_size e
 | xd fs=>obtain⟨_,⟨_,_,_,e,_⟩,_⟩:=x; exact Heap.lt_size e
 | rng lo hi=>obtain⟨_,_,_,e⟩:=x; exact Heap.lt_size e
 | frz ob u=>obtain⟨e,_⟩:=x; exact Heap.lt_size e
 | tbl ps=>exact Heap.lt_size (show h.get? a=some _ from x)
 | met f y=>exact Heap.lt_size (show h.get? a=some _ from x)
 | ext φ=>obtain⟨_,⟨_,e⟩,_⟩:=x; exact Heap.lt_size e
theorem Paired.mapP{α β : Type}{F G : α->β->Prop}:∀{l₁:List α} {l₂:List β},Paired F l₁ l₂->(∀a b,F a b->G a b)->Paired G l₁ l₂
 | _,_,.nil,_=>.nil
 | _,_,.cons r t,f=>.cons (f _ _ r) (Paired.mapP t f)
theorem Paired.imp'{α β : Type}{F G : α->β->Prop}(f:∀a b,F a b->G a b){l₁:List α}{l₂:List β}(r:Paired F l₁ l₂):Paired G l₁ l₂:=Paired.mapP r f
theorem ObjOk.stay(x:ObjOk P w H h a o)(k:∀b u,(b=a\/H b=some (.own a))->h.get? b=some u->h'.get? b=some u)
  (ho:∀b,H b=some (.own a)->H' b=some (.own a)) (ht:∀b xs,H b=some (.tup xs)->H' b=some (.tup xs)):ObjOk P w H' h' a o:=by
 induction o with
 | lst xs=>obtain⟨z,its,n,r,e⟩:=x; exact⟨z,its,n,r,k _ _ (.inl rfl) e⟩
 | tup xs=>obtain⟨z,its,r,ob,e,c⟩:=x; exact⟨z,its,r,ob,k _ _ (.inl rfl) e,c⟩
 | dK kvs=>obtain⟨z,y,vs,r,ob,es,ep,e,c⟩:=x; exact⟨z,y,vs,r,ob,es,ep,k _ _ (.inl rfl) e,c⟩
 | dT kvs=>
  obtain⟨z,y,xs,r,ob,es,ep,e,c⟩:=x
  exact⟨z,y,xs,Paired.mapP r fun p q z=>⟨z.1,ht _ _ z.2.1,z.2.2⟩,ob,es,ep,k _ _ (.inl rfl) e,c⟩
 | set S n=>obtain⟨ob,es,ep,t,e,c⟩:=x; exact⟨ob,es,ep,t,k _ _ (.inl rfl) e,c⟩
 | ins C dx fs=>
  obtain⟨d,z,ne,e,mA,⟨od,es,ep,e2,c⟩,r⟩:=x
  exact⟨ho _ d,z,ne,k _ _ (.inl rfl) e,mA,⟨od,es,ep,k _ _ (.inr d) e2,c⟩,r⟩
 | own y=>obtain⟨ob,e⟩:=x; exact⟨ob,k _ _ (.inl rfl) e⟩
 | xd fs=>obtain⟨mA,⟨od,es,ep,e,c⟩,r⟩:=x; exact⟨mA,⟨od,es,ep,k _ _ (.inl rfl) e,c⟩,r⟩
 | rng lo hi=>obtain⟨t,u,v,e⟩:=x; exact⟨t,u,v,k _ _ (.inl rfl) e⟩
 | frz ob u ih=>obtain⟨e,q⟩:=x; exact⟨k _ _ (.inl rfl) e,ih q⟩
 | tbl ps=>
  have e:h.get? a=some {cls:=.none,data:=.fields ps}:=x
  show h'.get? a=some {cls:=.none,data:=.fields ps}
  exact k a _ (.inl rfl) e
 | met f y=>
  have e:h.get? a=some (PySem.W.methodObj (.ref f) (.ref y)):=x
  show h'.get? a=some (PySem.W.methodObj (.ref f) (.ref y))
  exact k a _ (.inl rfl) e
 | ext φ=>obtain⟨p,⟨o,e⟩,st⟩:=x; exact⟨st _ _ p fun o q=>k _ _ (.inl rfl) q,⟨o,k _ _ (.inl rfl) e⟩,st⟩
theorem HOk.lt(x:HOk P w H h)(e:H a=some o):a < h.objs.size:=(x a o e).lt
theorem HOk.fresh(x:HOk P w H h)(e:h.objs.size<=a):H a=none:=by
 cases q:H a with
 | none=>rfl
 | some u=>exact absurd (Nat.lt_of_lt_of_le (x.lt q) e) (Nat.lt_irrefl _)
theorem HOk.kept(x:HOk P w H h)(k:∀b u,h.get? b=some u->h'.get? b=some u):HOk P w H h':=fun a o e=>
 (x a o e).stay (fun b u _ q=>k b u q) (fun _ q=>q) fun _ _ q=>q
theorem HOk.laid(x:HOk P w H h)(k:∀b u,h.get? b=some u->h'.get? b=some u)(hp:h.objs.size<=a)(new:ObjOk P w (upd H a o) h' a o):HOk P w (upd H a o) h':=fun b u e=>by
 have hn:=x.fresh hp
 by_cases hb:b=a
 ·subst hb; rw [z01] at e; cases e; exact new
 ·rw [z0a hb] at e
  exact(x b u e).stay (fun c v _ q=>k c v q) (fun c q=>by rw [z0a (z0d q hn)]; exact q) fun c xs q=>by rw [z0a (z0d q hn)]; exact q
end
def Rd(H:Hp)(a:Addr)(u:HO):Prop:=H a=some u\/∃o,H a=some (.frz o u)
theorem Rd.of{H:Hp}{a:Addr}{u:HO}(h:H a=some u):Rd H a u:=.inl h
theorem Rd.ok{P:Program}{w:World}{H:Hp}{h:Heap}{a:Addr}{u:HO}(r:Rd H a u)(x:HOk P w H h):ObjOk P w H h a u:=by
 rcases r with r | ⟨o,r⟩
 ·exact x a u r
 ·obtain⟨_,q⟩:=x a _ r
  exact q
def Mut:Option HO->Prop
 | some (.lst _)=>True
 | some (.dK _)=>True
 | some (.dT _)=>True
 | some (.set _ _)=>True
 | some (.ins _ _ _)=>True
 | some (.ext _)=>True
 | _=>False
section
variable{P:Program}{w:World}{H:Hp}{h h':Heap}{x e:Addr}{o':HO}
theorem HOk.write(ok:HOk P w H h)(mu:Mut (H x))(he:e=x\/H e=some (.own x))(k:∀b u,b≠e->h.get? b=some u->h'.get? b=some u)(heo:∃u,h'.get? e=some u)
  (new:ObjOk P w (upd H x o') h' x o'):HOk P w (upd H x o') h':=fun b u q=>by
 have nown:∀c y,H c=some (.own y)->c≠x:=fun c y r z=>by subst z; rw [r] at mu; exact mu
 have ntup:∀c xs,H c=some (.tup xs)->c≠x:=fun c xs r z=>by subst z; rw [r] at mu; exact mu
 by_cases hb:b=x
 ·subst hb; rw [z01] at q; cases q; exact new
 ·rw [z0a hb] at q
  by_cases hbe:b=e
  ·have q':H b=some (.own x):=by
    rcases he with z | z
    ·exact absurd (hbe.trans z) hb
    ·rw [hbe]; exact z
   rw [q] at q'; cases q'
   obtain⟨v,hv⟩:=heo
   exact⟨v,by rw [hbe]; exact hv⟩
  ·refine(ok b u q).stay (fun c v hc r=>k c v ?_ r) (fun c r=>by rw [z0a (nown c b r)]; exact r) fun c xs r=>by rw [z0a (ntup c xs r)]; exact r
   rcases hc with rfl | hc
   ·exact hbe
   ·rintro rfl
    rcases he with z | z
    ·exact nown c b hc z
    ·rw [hc] at z; cases z; exact hb rfl
end
structure Un(fs ex:List Addr)(H H':Hp)(h h':Heap):Prop where
 keep:∀b o,h.get? b=some o->H b=none->b∉fs->b∉ex->h'.get? b=some o
 slot:∀b o,h.get? b=some o->H b=none->b∈fs->b∉ex->∃sl,h'.get? b=some {o with slots:=sl}
 free:∀b o,h.get? b=some o->H b=none->b∉ex->H' b=none
 there:∀b o,h.get? b=some o->b∉ex->∃o',h'.get? b=some o'
 tups:∀b xs,H b=some (.tup xs)->H' b=some (.tup xs)
 frzs:∀b o u,H b=some (.frz o u)->H' b=some (.frz o u)
 tbls:∀b ps,H b=some (.tbl ps)->∃more,H' b=some (.tbl (ps++more))
section
variable{fs fs' ex ex':List Addr}{H H1 H2:Hp}{h h1 h2 h':Heap}{a x e:Addr}{o:HO}
theorem Un.any(u:Un fs ex H H1 h h1){b:Addr}{ob:Obj}(q:h.get? b=some ob)(n:H b=none)(hx:b∉ex):∃sl,h1.get? b=some {ob with slots:=sl}:=by
 by_cases hb:b∈fs
 ·exact u.slot b ob q n hb hx
 ·exact⟨ob.slots,u.keep b ob q n hb hx⟩
theorem Un.trans(a:Un fs ex H H1 h h1)(b:Un fs ex H1 H2 h1 h2):Un fs ex H H2 h h2 where
 keep:=fun c ob q n hc hx=>b.keep c ob (a.keep c ob q n hc hx) (a.free c ob q n hx) hc hx
 slot:=fun c ob q n hc hx=>by
  obtain⟨sl,e1⟩:=a.slot c ob q n hc hx
  obtain⟨sl',e2⟩:=b.slot c _ e1 (a.free c ob q n hx) hc hx
  exact⟨sl',e2⟩
 free:=fun c ob q n hx=>by
  obtain⟨o',e1⟩:=a.there c ob q hx
  exact b.free c o' e1 (a.free c ob q n hx) hx
 there:=fun c ob q hx=>by
  obtain⟨o',e1⟩:=a.there c ob q hx
  exact b.there c o' e1 hx
 tups:=fun c xs q=>b.tups c xs (a.tups c xs q)
 frzs:=fun c ob xs q=>b.frzs c ob xs (a.frzs c ob xs q)
 tbls:=fun c ps q=>by
  obtain⟨m1,e1⟩:=a.tbls c ps q
  obtain⟨m2,e2⟩:=b.tbls c _ e1
  exact⟨m1++m2,by rw [e2,Array.append_assoc]⟩
theorem Un.kept(k:∀b u,h.get? b=some u->h'.get? b=some u):Un fs ex H H h h':=
 ⟨fun b ob q _ _ _=>k b ob q,fun b ob q _ _ _=>⟨ob.slots,k b ob q⟩,fun _ _ _ n _=>n,fun b ob q _=>⟨ob,k b ob q⟩,fun _ _ q=>q,fun _ _ _ q=>q,fun _ ps q=>⟨#[],by rw [q]; simp⟩⟩
theorem Un.refl:Un fs ex H H h h:=Un.kept fun _ _ q=>q
theorem Un.laid(k:∀b u,h.get? b=some u->h'.get? b=some u)(hp:h.objs.size<=a)(hn:H a=none):Un fs ex H (upd H a o) h h' where
 keep:=fun b u q _ _ _=>k b u q
 slot:=fun b u q _ _ _=>⟨u.slots,k b u q⟩
 free:=fun b u q n _=>by rw [z0a (Nat.ne_of_lt (Nat.lt_of_lt_of_le (Heap.lt_size q) hp))]; exact n
 there:=fun b u q _=>⟨u,k b u q⟩
 tups:=fun b xs q=>by rw [z0a (z0d q hn)]; exact q
 frzs:=fun b u xs q=>by rw [z0a (z0d q hn)]; exact q
 tbls:=fun b ps q=>⟨#[],by rw [z0a (z0d q hn),q]; simp⟩
theorem Un.write(mu:Mut (H x))(he:e=x\/H e=some (.own x))(k:∀b u,b≠e->h.get? b=some u->h'.get? b=some u)(heo:∃u,h'.get? e=some u):Un fs ex H (upd H x o) h h':=by
 have hx:∀b,H b=none->b≠x:=fun b n z=>by subst z; rw [n] at mu; exact mu
 have hb:∀b,H b=none->b≠e:=fun b n z=>by
  subst z
  rcases he with r | r
  ·exact hx b n r
  ·rw [n] at r; cases r
 have hm:∀b u,H b=some u->¬ Mut (some u)->b≠x:=fun b u q nm z=>by subst z; rw [q] at mu; exact nm mu
 refine⟨fun b u q n _ _=>k b u (hb b n) q,fun b u q n _ _=>⟨u.slots,k b u (hb b n) q⟩,fun b u q n _=>by rw [z0a (hx b n)]; exact n,fun b u q _=>?_,
  fun b xs q=>by rw [z0a (hm b _ q fun z=>z)]; exact q,fun b u xs q=>by rw [z0a (hm b _ q fun z=>z)]; exact q,fun b ps q=>⟨#[],by rw [z0a (hm b _ q fun z=>z),q]; simp⟩⟩
 by_cases hbe:b=e
 ·subst hbe; exact heo
 ·exact⟨u,k b u hbe q⟩
end
def trk(h:Heap)(H:Hp):List Addr:=(List.range h.objs.size).filter fun a=>(H a).isSome
def zps(h:Heap)(H:Hp):Heap:=PySem.W.hideAll h (trk h H)
theorem zn7(h:Heap)(H:Hp):(zps h H).objs.size=h.objs.size:=PySem.W.hideAll_size _ _
theorem zqz{h:Heap}{H:Hp}{b:Addr}{o:Obj}(e:h.get? b=some o)(n:H b=none):(zps h H).get? b=some o:=
 PySem.W.hideAll_get _ e fun hm=>by
  have q:(H b).isSome=true:=(List.mem_filter.mp hm).2
  rw [n] at q; simp at q
theorem zun{h:Heap}{H:Hp}{b:Addr}{o:Obj}(e:(zps h H).get? b=some o):h.get? b=some o/\H b=none:=by
 have e':h.get? b=some o:=PySem.W.of_hideAll (trk h H) e
 refine⟨e',?_⟩
 cases q:H b with
 | none=>rfl
 | some x=>
  have hm:b∈trk h H:=List.mem_filter.mpr ⟨List.mem_range.mpr (Heap.lt_size e'),by simp[q]⟩
  have z:(zps h H).get? b=none:=PySem.W.hideAll_none (trk h H) hm
  rw [z] at e; cases e
def q15(g h:Heap)(L:Addr):List (Addr×Obj):=(List.range h.objs.size).filterMap fun a=>if a=L\/(g.get? a).isSome=true then none else(h.get? a).map fun o=>(a,o)
def ztd(g h:Heap)(L d:Addr):List (Addr×Obj):=(q15 g h L).filter fun p=>decide (p.1≠d)
end L2
namespace L2
open PySem PySem.Spec PyProof.Rows
structure Mod(K:PySem.W.Frag)(mg:Str->Option Value)(base:Heap):Prop where
 kin:K.In base
 glob:base.Ns mainGlobals mg
 blt:∃mb,base.Ns builtinsNs mb/\∀x:Str,x≠"__name__"->mb x=bootBuiltins x
 nolimit:base.NoLimit
structure Cx where
 prog:Program
 w:World
 K:PySem.W.Frag
 mg:Str->Option Value
 base:Heap
 A:Around
 N:List Str
 s₀:Shared
 H₀:Hp
 env:Env
 outer:List Env
 stack:List Env
 ex:List Addr
 fn:Str->Bool
 calm:Bool
 pn:List (Addr×Obj)
 xe:Value->Shared->Prop
def frs(l:List Env):List Addr:=l.filterMap (·.frame)
abbrev Cx.fs(X:Cx):List Addr:=frs X.outer
def Vis(sc:Scope)(x:Str):Prop:=sc.names.lookup x=some .local\/sc.names.lookup x=some .cell\/sc.names.lookup x=some .free
def Loc(sc:Scope)(x:Str):Prop:=sc.names.lookup x=some .local\/sc.names.lookup x=some .cell
def Look(env:Env)(h:Heap)(m:Str->Option Value)(x:Str)(u:Value):Prop:=
 (env.kindOf x=some .local/\m x=some u)\/((env.kindOf x=some .cell\/env.kindOf x=some .free)/\∃c,env.cells.lookup x=some c/\h.IsCell c (some u))
structure Cx.Ok(X:Cx):Prop where
 mod:Mod X.K X.mg X.base
 kind:X.env.scope.kind=.function
 glob:X.env.globals=mainGlobals
 blt:X.env.builtins=builtinsNs
 above:X.s₀.heap.objs.size<=X.env.locals
 inj:∀x y c,X.env.cells.lookup x=some c->X.env.cells.lookup y=some c->x=y
 has:∀x,(X.env.kindOf x=some .cell\/X.env.kindOf x=some .free)->∃c,X.env.cells.lookup x=some c
 cab:∀x c,X.fn x=true->X.env.cells.lookup x=some c->X.s₀.heap.objs.size<=c
 hd:X.calm=true->X.A.handled=none
 frames:X.A.frames=some X.stack
 stk:X.stack=X.outer\/(X.stack=X.env::X.outer/\X.env.frame=some X.env.locals)
 exf:∀b∈X.ex,b≠X.env.locals/\∀x c,X.env.cells.lookup x=some c->c≠b
 bs:∀b o,X.base.get? b=some o->X.s₀.heap.get? b=some o/\X.H₀ b=none
 bsz:X.base.objs.size<=X.s₀.heap.objs.size
 noex:∀b o,X.base.get? b=some o->b∉X.ex
 exfs:∀b∈X.ex,b∉X.fs
 funs:X.s₀.heap.FunFrames X.base X.outer
 frf:∀b∈X.fs,X.H₀ b=none
structure Inv(X:Cx)(pins:List (Addr×Obj))(σ : List (Option V))(H:Hp)(s:Shared):Prop where
 ok:X.Ok
 os:s.os=X.s₀.os
 bare:AllBare s.gens
 base:Un X.fs X.ex X.H₀ H X.s₀.heap s.heap
 loc:∃m,s.heap.Ns X.env.locals m/\∀(i:Nat) (x:Str) (v:V),X.N[i]?=some x->σ[i]?=some (some v)->Vis X.env.scope x->∃u,RelV v u/\Look X.env s.heap m x u
 cell:∀x c,X.env.cells.lookup x=some c->∃v,s.heap.IsCell c v
 free:H X.env.locals=none
 freeC:∀x c,X.env.cells.lookup x=some c->H c=none
 pin:∀p∈X.pn++pins,s.heap.get? p.1=some p.2/\H p.1=none/\p.1≠X.env.locals/\p.1∉X.fs/\∀v,p.2.data≠.cell v
 hok:HOk X.prog X.w H s.heap
 len : σ.length=X.N.length
section
variable{X:Cx}{pins:List (Addr×Obj)}{σ : List (Option V)}{H H':Hp}{s:Shared}{h':Heap}
theorem Cx.Ok.nofr(ok:X.Ok){b:Addr}{o:Obj}(e:X.base.get? b=some o):b∉X.fs:=fun hb=>by
 have:=(ok.funs.mem hb).1
 rw [e] at this; cases this
theorem Inv.bs(I:Inv X pins σ H s):∀b o,X.base.get? b=some o->s.heap.get? b=some o/\H b=none:=fun b o e=>
 ⟨I.base.keep b o (I.ok.bs b o e).1 (I.ok.bs b o e).2 (I.ok.nofr e) (I.ok.noex b o e),I.base.free b o (I.ok.bs b o e).1 (I.ok.bs b o e).2 (I.ok.noex b o e)⟩
theorem Inv.bk(I:Inv X pins σ H s):∀b o,X.base.get? b=some o->s.heap.get? b=some o:=fun b o e=>(I.bs b o e).1
theorem Inv.mod(I:Inv X pins σ H s):Mod X.K X.mg X.base:=I.ok.mod
theorem Inv.kIn(I:Inv X pins σ H s):X.K.In s.heap:=I.ok.mod.kin.keeps I.bk
theorem Inv.nolimit(I:Inv X pins σ H s):s.heap.NoLimit:=I.ok.mod.nolimit.keeps I.bk
theorem Inv.lt(I:Inv X pins σ H s):X.env.locals < s.heap.objs.size:=let ⟨_,hn,_⟩:=I.loc; hn.lt
theorem Inv.sz(I:Inv X pins σ H s):X.s₀.heap.objs.size<=s.heap.objs.size:=Nat.le_trans I.ok.above (Nat.le_of_lt I.lt)
theorem Inv.nofs(I:Inv X pins σ H s){a:Addr}(h:s.heap.objs.size<=a):a∉X.fs:=fun hb=>by
 obtain⟨_,o,ho,_⟩:=I.ok.funs.mem hb
 exact absurd (Nat.lt_of_lt_of_le (Heap.lt_size ho) (Nat.le_trans I.sz h)) (Nat.lt_irrefl _)
theorem Inv.cne(I:Inv X pins σ H s):∀x c,X.env.cells.lookup x=some c->c≠X.env.locals:=fun x c e z=>by
 obtain⟨v,o,ho,hd⟩:=I.cell x c e
 obtain⟨m,⟨o',es,ep,ho',hd',_⟩,_⟩:=I.loc
 rw [z,ho'] at ho; cases ho; rw [hd'] at hd; cases hd
theorem Inv.funs(I:Inv X pins σ H s):s.heap.FunFrames X.base X.outer:=by
 have all:∀(l:List Env),(∀b∈frs l,b∈X.fs)->X.s₀.heap.FunFrames X.base l->s.heap.FunFrames X.base l:=by
  intro l
  induction l with
  | nil=>intro _ _; trivial
  | cons env r ih=>
   intro hs hl
   obtain⟨hk,⟨L,o,hf,hn,ho,hd⟩,hr⟩:=hl
   have hL:L∈X.fs:=hs L (by unfold frs; rw [List.filterMap_cons,hf]; exact List.mem_cons_self)
   obtain⟨sl,e⟩:=I.base.slot L o ho (I.ok.frf L hL) hL fun z=>I.ok.exfs L z hL
   exact⟨hk,⟨L,_,hf,hn,e,hd⟩,ih (fun b hb=>hs b (by unfold frs; rw [List.filterMap_cons,hf]; exact List.mem_cons_of_mem _ hb)) hr⟩
 exact all X.outer (fun _ hb=>hb) I.ok.funs
theorem Inv.stack(I:Inv X pins σ H s):s.heap.FunFrames X.base X.stack:=by
 rcases I.ok.stk with e | ⟨e,hf⟩
 ·rw [e]; exact I.funs
 ·rw [e]
  obtain⟨m,hn,_⟩:=I.loc
  refine .cons (by rw [I.ok.kind]; decide) hf hn ?_ I.funs
  exact Heap.get?_none_of_le (Nat.le_trans I.ok.bsz I.ok.above)
theorem Inv.stkSub(I:Inv X pins σ H s):∀b∈frs X.stack,b∈X.env.locals::X.fs:=fun b hb=>by
 rcases I.ok.stk with e | ⟨e,hf⟩
 ·rw [e] at hb; exact List.mem_cons_of_mem _ hb
 ·rw [e] at hb
  unfold frs at hb
  rw [List.filterMap_cons,hf] at hb
  exact hb
theorem Inv.stkFree(I:Inv X pins σ H s):∀b∈frs X.stack,H b=none:=fun b hb=>by
 rcases List.mem_cons.mp (I.stkSub b hb) with e | hb
 ·rw [e]; exact I.free
 ·obtain⟨_,o,ho,_⟩:=I.ok.funs.mem hb
  exact I.base.free b o ho (I.ok.frf b hb) fun z=>I.ok.exfs b z hb
theorem Inv.step{g':Array GenState}{t':Nat}{d':Drawn}{ch:List Addr}(I:Inv X pins σ H s)
  (hch:∀b∈ch,(b∈X.ex\/X.s₀.heap.objs.size<=b)/\b≠X.env.locals/\(∀x c,X.env.cells.lookup x=some c->c≠b)/\∀p∈X.pn++pins,p.1≠b)
  (keep:∀b o,b≠X.env.locals->b∉X.fs->b∉ch->s.heap.get? b=some o->H b=none->h'.get? b=some o)
  (slot:∀b o,b≠X.env.locals->b∈X.fs->b∉ch->s.heap.get? b=some o->H b=none->∃sl,h'.get? b=some {o with slots:=sl}) (free:∀b o,b∉ch->s.heap.get? b=some o->H b=none->H' b=none)
  (there:∀b o,b∉ch->s.heap.get? b=some o->∃o',h'.get? b=some o')
  (tups:∀b xs,H b=some (.tup xs)->H' b=some (.tup xs)) (frzs:∀b o u,H b=some (.frz o u)->H' b=some (.frz o u)) (tbls:∀b ps,H b=some (.tbl ps)->∃more,H' b=some (.tbl (ps++more)))
  (ns:∀m,s.heap.Ns X.env.locals m->h'.Ns X.env.locals m) (hok:HOk X.prog X.w H' h') (hg:AllBare g') :
  Inv X pins σ H' {s with heap:=h',gens:=g',drawn:=d',toks:=t'}:=by
 have neL:∀b o,X.s₀.heap.get? b=some o->b≠X.env.locals:=fun b o e=>Nat.ne_of_lt (Nat.lt_of_lt_of_le (Heap.lt_size e) I.ok.above)
 have neC:∀b o,X.s₀.heap.get? b=some o->b∉X.ex->b∉ch:=fun b o e hx hb=>by
  rcases(hch b hb).1 with z | z
  ·exact hx z
  ·exact absurd (Nat.lt_of_lt_of_le (Heap.lt_size e) z) (Nat.lt_irrefl _)
 have cellK:∀x c,X.env.cells.lookup x=some c->∀v,s.heap.IsCell c v->h'.IsCell c v:=fun x c e v ⟨o,ho,hd⟩=>by
  have nch:c∉ch:=fun z=>(hch c z).2.2.1 x c e rfl
  by_cases hc:c∈X.fs
  ·obtain⟨sl,q⟩:=slot c o (I.cne x c e) hc nch ho (I.freeC x c e)
   exact⟨_,q,hd⟩
  ·exact⟨o,keep c o (I.cne x c e) hc nch ho (I.freeC x c e),hd⟩
 refine⟨I.ok,I.os,hg,⟨fun b o e n hb hx=>?_,fun b o e n hb hx=>?_,fun b o e n hx=>?_,fun b o e hx=>?_,fun b xs e=>tups b xs (I.base.tups b xs e),fun b o xs e=>frzs b o xs (I.base.frzs b o xs e),fun b ps e=>?_⟩,?_,fun x c e=>?_,?_,fun x c e=>?_,fun p hp=>?_,hok,I.len⟩
 ·exact keep b o (neL b o e) hb (neC b o e hx) (I.base.keep b o e n hb hx) (I.base.free b o e n hx)
 ·obtain⟨sl,e1⟩:=I.base.slot b o e n hb hx
  obtain⟨sl',e2⟩:=slot b _ (neL b o e) hb (neC b o e hx) e1 (I.base.free b o e n hx)
  exact⟨sl',e2⟩
 ·obtain⟨o',e1⟩:=I.base.there b o e hx
  exact free b o' (neC b o e hx) e1 (I.base.free b o e n hx)
 ·obtain⟨o',e1⟩:=I.base.there b o e hx
  exact there b o' (neC b o e hx) e1
 ·obtain⟨m1,e1⟩:=I.base.tbls b ps e
  obtain⟨m2,e2⟩:=tbls b _ e1
  exact⟨m1++m2,by rw [e2,Array.append_assoc]⟩
 ·obtain⟨m,hn,hl⟩:=I.loc
  refine⟨m,ns m hn,fun i x v e1 e2 e3=>?_⟩
  obtain⟨u,r,l⟩:=hl i x v e1 e2 e3
  refine⟨u,r,?_⟩
  rcases l with l | ⟨k,c,e,z⟩
  ·exact .inl l
  ·exact .inr ⟨k,c,e,cellK x c e _ z⟩
 ·obtain⟨v,z⟩:=I.cell x c e
  exact⟨v,cellK x c e v z⟩
 ·obtain⟨m,⟨o,_,_,ho,_⟩,_⟩:=I.loc
  exact free _ o (fun z=>(hch _ z).2.1 rfl) ho I.free
 ·obtain⟨v,o,ho,hd⟩:=I.cell x c e
  exact free c o (fun z=>(hch c z).2.2.1 x c e rfl) ho (I.freeC x c e)
 ·obtain⟨e,n,ne,nf,d⟩:=I.pin p hp
  have nch:p.1∉ch:=fun z=>(hch p.1 z).2.2.2 p hp rfl
  exact⟨keep p.1 p.2 ne nf nch e n,free p.1 p.2 nch e n,ne,nf,d⟩
theorem Inv.un{t':Nat}(I:Inv X pins σ H s)(u:Un X.fs [] H H' s.heap h')(hok:HOk X.prog X.w H' h'):Inv X pins σ H' {s with heap:=h',toks:=t'}:=by
 obtain⟨m,⟨o,es,ep,ho,r⟩,_⟩:=id I.loc
 obtain⟨sl,hL⟩:=u.any ho I.free (by simp)
 exact I.step (g':=s.gens) (d':=s.drawn) (ch:=[]) (fun _ z=>nomatch z) (fun b o _ hb _ e n=>u.keep b o e n hb (by simp)) (fun b o _ hb _ e n=>u.slot b o e n hb (by simp)) (fun b o _ e n=>u.free b o e n (by simp)) (fun b o _ e=>u.there b o e (by simp)) u.tups u.frzs u.tbls (fun m' hm=>by
  obtain⟨o',es',ep',ho',r'⟩:=hm
  rw [ho] at ho'; cases ho'
  exact⟨_,es',ep',hL,r'⟩) hok I.bare
theorem Inv.call{g':Array GenState}{t':Nat}{d':Drawn}{ch:List Addr}(I:Inv X pins σ H s)(u:Un (frs X.stack) ch H H' s.heap h')(hok:HOk X.prog X.w H' h')(hg:AllBare g')
  (hch:∀b∈ch,(b∈X.ex\/X.s₀.heap.objs.size<=b)/\b≠X.env.locals/\(∀x c,X.env.cells.lookup x=some c->c≠b)/\∀p∈X.pn++pins,p.1≠b) :
  Inv X pins σ H' {s with heap:=h',gens:=g',drawn:=d',toks:=t'}:=by
 obtain⟨m,⟨o,es,ep,ho,r⟩,_⟩:=id I.loc
 obtain⟨sl,hL⟩:=u.any ho I.free fun z=>(hch _ z).2.1 rfl
 exact I.step (ch:=ch) hch (fun b o hL hb hc e n=>u.keep b o e n (fun z=>(List.mem_cons.mp (I.stkSub b z)).elim hL hb) hc) (fun b o _ _ hc e n=>u.any e n hc) (fun b o hc e n=>u.free b o e n hc) (fun b o hc e=>u.there b o e hc) u.tups u.frzs u.tbls (fun m' hm=>by
  obtain⟨o',es',ep',ho',r'⟩:=hm
  rw [ho] at ho'; cases ho'
  exact⟨_,es',ep',hL,r'⟩) hok hg
theorem Inv.turned{t':Nat}{it:Addr}(I:Inv X pins σ H s)(k:∀b o,b≠it->s.heap.get? b=some o->h'.get? b=some o)(hn:H it=none)(hL:it≠X.env.locals)
  (h1:it∈X.ex\/X.s₀.heap.objs.size<=it) (h2:∀x c,X.env.cells.lookup x=some c->c≠it) (h3:∀p∈X.pn++pins,p.1≠it):Inv X pins σ H {s with heap:=h',toks:=t'}:=by
 have nit:∀b u,H b=some u->b≠it:=fun b u e z=>by rw [z,hn] at e; cases e
 refine I.step (g':=s.gens) (d':=s.drawn) (ch:=[it]) (fun b hb=>?_) (fun b o _ _ hc e _=>k b o (fun z=>hc (by simp[z])) e) (fun b o _ _ hc e _=>⟨o.slots,k b o (fun z=>hc (by simp[z])) e⟩) (fun _ _ _ _ n=>n)
  (fun b o hc e=>⟨o,k b o (fun z=>hc (by simp[z])) e⟩) (fun _ _ e=>e) (fun _ _ _ e=>e) (fun b ps e=>⟨#[],by rw [e]; simp⟩) (fun m hm=>?_) (fun b u e=>?_) I.bare
 ·have e:b=it:=by simpa using hb
  subst e
  exact⟨h1,hL,h2,h3⟩
 ·obtain⟨o,es,ep,ho,r⟩:=hm
  exact⟨o,es,ep,k _ o (Ne.symm hL) ho,r⟩
 ·refine(I.hok b u e).stay (fun c v hc q=>k c v ?_ q) (fun _ q=>q) fun _ _ q=>q
  rcases hc with z | z
  ·rw [z]; exact nit b u e
  ·exact nit c _ z
theorem Inv.tok(I:Inv X pins σ H s)(t:Nat):Inv X pins σ H {s with toks:=t}:=I.un (h':=s.heap) (t':=t) Un.refl I.hok
theorem Inv.kept{t':Nat}(I:Inv X pins σ H s)(k:∀b u,s.heap.get? b=some u->h'.get? b=some u):Inv X pins σ H {s with heap:=h',toks:=t'}:=I.un (Un.kept k) (I.hok.kept k)
theorem Inv.laid{a:Addr}{o:HO}{t':Nat}(I:Inv X pins σ H s)(k:∀b u,s.heap.get? b=some u->h'.get? b=some u)(hp:s.heap.objs.size<=a)(new:ObjOk X.prog X.w (upd H a o) h' a o) :
  Inv X pins σ (upd H a o) {s with heap:=h',toks:=t'}:=I.un (Un.laid k hp (I.hok.fresh hp)) (I.hok.laid k hp new)
theorem Inv.write{x e:Addr}{o:HO}{t':Nat}(I:Inv X pins σ H s)(mu:Mut (H x))(he:e=x\/H e=some (.own x))(k:∀b u,b≠e->s.heap.get? b=some u->h'.get? b=some u)(heo:∃u,h'.get? e=some u)
  (new:ObjOk X.prog X.w (upd H x o) h' x o):Inv X pins σ (upd H x o) {s with heap:=h',toks:=t'}:=I.un (Un.write mu he k heo) (I.hok.write mu he k heo new)
theorem Inv.pins_of{pins':List (Addr×Obj)}(I:Inv X pins σ H s)(h:∀p∈pins',s.heap.get? p.1=some p.2/\H p.1=none/\p.1≠X.env.locals/\p.1∉X.fs/\∀v,p.2.data≠.cell v):Inv X pins' σ H s:=
 ⟨I.ok,I.os,I.bare,I.base,I.loc,I.cell,I.free,I.freeC,fun p hp=>(List.mem_append.mp hp).elim (fun z=>I.pin p (List.mem_append_left _ z)) (h p),I.hok,I.len⟩
theorem zl7{N:List Str}(hN:N.Nodup){i j:Nat}{x:Str}(a:N[i]?=some x)(b:N[j]?=some x):i=j:=by
 obtain⟨h1,e1⟩:=List.getElem?_eq_some_iff.mp a
 obtain⟨h2,e2⟩:=List.getElem?_eq_some_iff.mp b
 exact(List.getElem_inj hN).mp (e1.trans e2.symm)
theorem ztn{M:Model}{A:Around}{E:Value->Shared->Prop}{i:Nat}{x:Str}{v:V}{u:Value}{Q:Unit->Shared->Prop}(I:Inv X pins σ H s)(hN:X.N.Nodup)(hi:X.N[i]?=some x)(hx:Loc X.env.scope x)(r:RelV v u)
  (h:∀s',Inv X pins (σ.set i (some v)) H s'->(∃a,Heap.SameBut a s.heap s'.heap/\(a=X.env.locals\/X.env.cells.lookup x=some a))->Q () s') (hf:X.fn x=true\/X.env.scope.names.lookup x=some .local:=by first | exact .inl rfl | exact .inr rfl | assumption):wpAny M A (storeName X.env x u) Q E s:=by
 obtain⟨m,hn,hl⟩:=id I.loc
 have hcls:(X.env.scope.kind == .class || (X.env.scope.kind == .module && X.env.locals !=X.env.globals))=false:=by rw [I.ok.kind]; rfl
 have hiσ : i < σ.length:=by rw [I.len]; exact(List.getElem?_eq_some_iff.mp hi).1
 have cne:=I.cne
 have tracked:∀{a:Addr} {h':Heap},(∃o,s.heap.get? a=some o/\H a=none)->Heap.SameBut a s.heap h'->HOk X.prog X.w H h':=fun {a h'} ha hs b ob e=>by
  obtain⟨_,_,hfree⟩:=ha
  refine(I.hok b ob e).stay (fun c w' hc q=>(hs.2 c ?_).trans q) (fun _ q=>q) fun _ _ q=>q
  rintro rfl
  rcases hc with rfl | hc
  ·rw [hfree] at e; cases e
  ·rw [hfree] at hc; cases hc
 rcases hx with hk | hk
 ·refine wpAny_storeName_local hk hn (fun h' hn' hs=>?_) hcls
  obtain⟨oL,_,_,hoL,_⟩:=id hn
  refine h _ ⟨I.ok,I.os,I.bare,⟨fun b o e n hb hx=>?_,fun b o e n hb hx=>?_,I.base.free,fun b o e hx=>?_,I.base.tups,I.base.frzs,I.base.tbls⟩,⟨_,hn',fun j y v' e1 e2 e3=>?_⟩,fun y c e=>?_,I.free,I.freeC,fun p hp=>?_,tracked ⟨oL,hoL,I.free⟩ hs,by simpa using I.len⟩ ⟨_,hs,.inl rfl⟩
  ·exact(hs.2 b (Nat.ne_of_lt (Nat.lt_of_lt_of_le (Heap.lt_size e) I.ok.above))).trans (I.base.keep b o e n hb hx)
  ·obtain⟨sl,e1⟩:=I.base.slot b o e n hb hx
   exact⟨sl,(hs.2 b (Nat.ne_of_lt (Nat.lt_of_lt_of_le (Heap.lt_size e) I.ok.above))).trans e1⟩
  ·obtain⟨o',e1⟩:=I.base.there b o e hx
   exact⟨o',(hs.2 b (Nat.ne_of_lt (Nat.lt_of_lt_of_le (Heap.lt_size e) I.ok.above))).trans e1⟩
  ·by_cases hj:j=i
   ·subst hj
    rw [hi] at e1; cases e1
    rw [List.getElem?_set_self hiσ] at e2
    cases e2
    exact⟨u,r,.inl ⟨hk,by simp⟩⟩
   ·rw [List.getElem?_set_ne (Ne.symm hj)] at e2
    obtain⟨u',r',q⟩:=hl j y v' e1 e2 e3
    refine⟨u',r',?_⟩
    rcases q with⟨k,e⟩ | ⟨k,c,e,z⟩
    ·refine .inl ⟨k,?_⟩
     have:y≠x:=fun e=>hj (zl7 hN e1 (e ▸ hi))
     simp[this,e]
    ·exact .inr ⟨k,c,e,z.sameBut hs (cne y c e)⟩
  ·obtain⟨w',z⟩:=I.cell y c e
   exact⟨w',z.sameBut hs (cne y c e)⟩
  ·obtain⟨e,n,ne,nf,d⟩:=I.pin p hp
   exact⟨(hs.2 p.1 ne).trans e,n,ne,nf,d⟩
 ·have hfn:X.fn x=true:=by
   rcases hf with z | z
   ·exact z
   ·rw [z] at hk; cases hk
  obtain⟨c,hc⟩:=I.ok.has x (.inl hk)
  obtain⟨w',z⟩:=I.cell x c hc
  refine wpAny_storeName_cell I.ok.kind hk hc z (fun h' hc' hs=>?_)
  obtain⟨oc,hoc,hocd⟩:=id z
  refine h {s with heap:=h'} ⟨I.ok,I.os,I.bare,⟨fun b o e n hb hx=>?_,fun b o e n hb hx=>?_,I.base.free,fun b o e hx=>?_,I.base.tups,I.base.frzs,I.base.tbls⟩,⟨m,hn.sameBut hs (Ne.symm (cne x c hc)),fun j y v' e1 e2 e3=>?_⟩,fun y c' e=>?_,I.free,I.freeC,fun p hp=>?_,tracked ⟨oc,hoc,I.freeC x c hc⟩ hs,by simpa using I.len⟩ ⟨c,hs,.inr hc⟩
  ·exact(hs.2 b (Nat.ne_of_lt (Nat.lt_of_lt_of_le (Heap.lt_size e) (I.ok.cab x c hfn hc)))).trans (I.base.keep b o e n hb hx)
  ·obtain⟨sl,e1⟩:=I.base.slot b o e n hb hx
   exact⟨sl,(hs.2 b (Nat.ne_of_lt (Nat.lt_of_lt_of_le (Heap.lt_size e) (I.ok.cab x c hfn hc)))).trans e1⟩
  ·obtain⟨o',e1⟩:=I.base.there b o e hx
   exact⟨o',(hs.2 b (Nat.ne_of_lt (Nat.lt_of_lt_of_le (Heap.lt_size e) (I.ok.cab x c hfn hc)))).trans e1⟩
  ·by_cases hj:j=i
   ·subst hj
    rw [hi] at e1; cases e1
    rw [List.getElem?_set_self hiσ] at e2
    cases e2
    exact⟨u,r,.inr ⟨.inl hk,c,hc,hc'⟩⟩
   ·rw [List.getElem?_set_ne (Ne.symm hj)] at e2
    obtain⟨u',r',q⟩:=hl j y v' e1 e2 e3
    refine⟨u',r',?_⟩
    rcases q with q | ⟨k,c',e,z'⟩
    ·exact .inl q
    ·refine .inr ⟨k,c',e,z'.sameBut hs ?_⟩
     rintro rfl
     exact hj (zl7 hN e1 (I.ok.inj _ _ _ e hc ▸ hi))
  ·by_cases hcc:c'=c
   ·subst hcc; exact⟨_,hc'⟩
   ·obtain⟨w2,z2⟩:=I.cell y c' e
    exact⟨w2,z2.sameBut hs hcc⟩
  ·obtain⟨e,n,ne,nf,d⟩:=I.pin p hp
   refine⟨(hs.2 p.1 ?_).trans e,n,ne,nf,d⟩
   intro q
   rw [q,hoc] at e
   have q':oc=p.2:=Option.some.inj e
   exact d w' (by rw [<- q']; exact hocd)
theorem zki{M:Model}{A:Around}{E:Value->Shared->Prop}{i:Nat}{x:Str}{v:V}{u:Value}{Q:Unit->Shared->Prop}(I:Inv X pins σ H s)(hN:X.N.Nodup)(hi:X.N[i]?=some x)(hx:Loc X.env.scope x)(r:RelV v u)
  (h:∀s',Inv X pins (σ.set i (some v)) H s'->Q () s') (hf:X.fn x=true\/X.env.scope.names.lookup x=some .local:=by first | exact .inl rfl | exact .inr rfl | assumption):wpAny M A (storeName X.env x u) Q E s:=
 ztn I hN hi hx r (fun s' I' _=>h s' I') hf
theorem Inv.call'{s':Shared}{ch:List Addr}(I:Inv X pins σ H s)(ho:s'.os=s.os)(u:Un (frs X.stack) ch H H' s.heap s'.heap)(hok:HOk X.prog X.w H' s'.heap)(hg:AllBare s'.gens)
  (hch:∀b∈ch,(b∈X.ex\/X.s₀.heap.objs.size<=b)/\b≠X.env.locals/\(∀x c,X.env.cells.lookup x=some c->c≠b)/\∀p∈X.pn++pins,p.1≠b):Inv X pins σ H' s':=by
 obtain⟨h',g',d',t',o'⟩:=s'
 have e:o'=s.os:=ho
 subst e
 exact I.call (g':=g') (t':=t') (d':=d') u hok hg hch
end
abbrev XK:=Value->Option Addr->Hp->Prop
abbrev St:=List (Option V)
abbrev VK:=V->Hp->Prop
abbrev TE:=St->Hp->VK->Prop
abbrev TT:=St->Hp->(Bool->Hp->Prop)->Prop
abbrev TA:=St->Hp->(List V->Hp->Prop)->Prop
structure Ends where
 nx:St->Hp->Prop
 rt:VK
 bk:St->Hp->Prop:=fun _ _=>False
 ct:St->Hp->Prop:=fun _ _=>False
abbrev TS:=Ends->St->Hp->Prop
def EP(X:Cx)(pins:List (Addr×Obj))(σ : St)(Q:VK)(u:Value)(s':Shared):Prop:=∃v H',Inv X pins σ H' s'/\RelV v u/\Q v H'
def TP(X:Cx)(pins:List (Addr×Obj))(σ : St)(Q:Bool->Hp->Prop)(b:Bool)(s':Shared):Prop:=∃H',Inv X pins σ H' s'/\Q b H'
def AP(X:Cx)(pins:List (Addr×Obj))(σ : St)(Q:List V->Hp->Prop)(us:List Value)(s':Shared):Prop:=∃vs H',Inv X pins σ H' s'/\Vals vs us/\Q vs H'
def SP(X:Cx)(pins:List (Addr×Obj))(D:Ends)(f:Flow)(s':Shared):Prop:=
 match f with
 | .next=>∃ σ' H',Inv X pins σ' H' s'/\D.nx σ' H'
 | .brk=>∃ σ' H',Inv X pins σ' H' s'/\D.bk σ' H'
 | .cont=>∃ σ' H',Inv X pins σ' H' s'/\D.ct σ' H'
 | .ret u=>∃v σ' H',Inv X pins σ' H' s'/\RelV v u/\D.rt v H'
def PE(X:Cx)(e:Expr)(t:TE):Prop:=
 ∀(pins:List (Addr×Obj)) (s:Shared) (σ : St) (H:Hp) (Q:VK),Inv X pins σ H s->t σ H Q->wpAny (model X.prog X.w) X.A (eval e X.env) (EP X pins σ Q) X.xe s
def PT(X:Cx)(e:Expr)(t:TT):Prop:=
 ∀(pins:List (Addr×Obj)) (s:Shared) (σ : St) (H:Hp) (Q:Bool->Hp->Prop),Inv X pins σ H s->t σ H Q->wpAny (model X.prog X.w) X.A (isTrue e X.env (eval e X.env)) (TP X pins σ Q) X.xe s
def PW(X:Cx)(e:Expr)(t:TT):Prop:=
 ∀(whole:Sem Value) (pins:List (Addr×Obj)) (s:Shared) (σ : St) (H:Hp) (Q:Bool->Hp->Prop),Inv X pins σ H s->t σ H Q->wpAny (model X.prog X.w) X.A (isTrue e X.env whole) (TP X pins σ Q) X.xe s
theorem PW.pt{X:Cx}{e:Expr}{t:TT}(h:PW X e t):PT X e t:=h _
def PA(X:Cx)(es:List Expr)(t:TA):Prop:=
 ∀(pos:Pos) (pins:List (Addr×Obj)) (s:Shared) (σ : St) (H:Hp) (Q:List V->Hp->Prop),Inv X pins σ H s->t σ H Q->wpAny (model X.prog X.w) X.A (spliced (backTo pos (starEach es X.env))) (AP X pins σ Q) X.xe s
def PS(X:Cx)(st:Stmt)(t:TS):Prop:=
 ∀(pins:List (Addr×Obj)) (s:Shared) (σ : St) (H:Hp) (D:Ends),Inv X pins σ H s->t D σ H->wpAny (model X.prog X.w) X.A (exec st X.env) (SP X pins D) X.xe s
def PSs(X:Cx)(st:List Stmt)(t:TS):Prop:=
 ∀(pins:List (Addr×Obj)) (s:Shared) (σ : St) (H:Hp) (D:Ends),Inv X pins σ H s->t D σ H->wpAny (model X.prog X.w) X.A (execs st X.env) (SP X pins D) X.xe s
theorem thn{α : Type}{t:Sem α}{Q Q' : α->Shared->Prop}{M:Model}{A:Around}{E:Value->Shared->Prop}{s:Shared}(h:wpAny M A t Q E s)(hQ:∀a s,Q a s->Q' a s):wpAny M A t Q' E s:=wpAny_mono h hQ fun _ _ x=>x
end L2
namespace L2
open PySem PySem.Spec PyProof.Rows
section
variable{X:Cx}
def zq6(i:Nat):TE:=fun σ H Q=>∃v,σ[i]?=some (some v)/\Q v H
def tC(v:V):TE:=fun _ H Q=>Q v H
theorem z00{i:Nat}{x:Str}{pos:Pos}(hN:X.N[i]?=some x)(hv:Vis X.env.scope x) (hd:(x == ("__debug__" : Str))=false:=by decide) (hcd:(x == ("__classdict__" : Str))=false:=by decide):PE X (.Name x pos) (zq6 i):=by
 intro pins s σ H Q I h
 obtain⟨v,e,h⟩:=h
 obtain⟨m,hn,hl⟩:=I.loc
 obtain⟨u,r,l⟩:=hl i x v hN e hv
 have fin:EP X pins σ Q u s:=⟨v,H,I,r,h⟩
 rcases l with⟨hk,hm⟩ | ⟨hk,c,hc,hcell⟩
 ·exact wpAny_Name (wpAny_loadName_local I.ok.kind hk hn hm fin) hd
 ·rcases hk with hk | hk
  ·exact wpAny_Name (wpAny_loadName_cell I.ok.kind hk hc hcell fin) hd
  ·exact wpAny_Name (wpAny_loadName_free I.ok.kind hk hc hcell fin hcd) hd
theorem z02{i j pos}:PE X (.Constant (.int i) j pos) (tC (.int i)):=fun _ _ _ H _ I h=>wpAny_Constant_int ⟨.int i,H,I.tok _,⟨_,rfl⟩,h⟩
theorem zjb{b j pos}:PE X (.Constant (.bool b) j pos) (tC (.bl b)):=fun _ _ _ H _ I h=>Constant_bool ⟨.bl b,H,I,rfl,h⟩
theorem zdi{j pos}:PE X (.Constant .none j pos) (tC .non):=fun _ _ _ H _ I h=>Constant_none ⟨.non,H,I,rfl,h⟩
theorem z0i{x j pos}:PE X (.Constant (.str x) j pos) (tC (.str x)):=fun _ _ _ H _ I h=>Calls.Constant_str ⟨.str x,H,I.tok _,⟨_,rfl⟩,h⟩
def Gl(X:Cx)(x:Str):Prop:=X.env.kindOf x=some .globalImplicit
theorem z92{E:Value->Shared->Prop}{pins:List (Addr×Obj)}{s:Shared}{σ : St}{H:Hp}{x:Str}{u:Value}{pos:Pos}{Q:Value->Shared->Prop}(I:Inv X pins σ H s)(hg:Gl X x)(hm:X.mg x=some u)(h:Q u s)
  (hd:(x == ("__debug__" : Str))=false:=by decide):wpAny (model X.prog X.w) X.A (eval (.Name x pos) X.env) Q E s:=
 Calls.Name_function_global I.ok.kind hg (Calls.loadGlobal_global (by rw [I.ok.glob]; exact I.mod.glob.keeps I.bk) hm h) hd
theorem zig{E:Value->Shared->Prop}{pins:List (Addr×Obj)}{s:Shared}{σ : St}{H:Hp}{x:Str}{u:Value}{pos:Pos}{Q:Value->Shared->Prop}(I:Inv X pins σ H s)(hg:Gl X x)(hm:X.mg x=none)(hv:bootBuiltins x=some u)(h:Q u s)
  (hn:x≠"__name__":=by decide) (hd:(x == ("__debug__" : Str))=false:=by decide):wpAny (model X.prog X.w) X.A (eval (.Name x pos) X.env) Q E s:=by
 obtain⟨mb,h1,h2⟩:=I.mod.blt
 exact Calls.Name_function_global I.ok.kind hg (Calls.loadGlobal_builtin (by rw [I.ok.glob]; exact I.mod.glob.keeps I.bk) hm (by rw [I.ok.blt]; exact h1.keeps I.bk) ((h2 x hn).trans hv) h) hd
theorem zdq{x:Str}{v:V}{u:Value}{pos:Pos}(hg:Gl X x)(hm:X.mg x=some u)(r:RelV v u) (hd:(x == ("__debug__" : Str))=false:=by decide):PE X (.Name x pos) (tC v):=
 fun _ _ _ H _ I h=>z92 I hg hm ⟨v,H,I,r,h⟩ hd
theorem zl1{x:Str}{v:V}{u:Value}{pos:Pos}(hg:Gl X x)(hm:X.mg x=none)(hv:bootBuiltins x=some u)(r:RelV v u) (hn:x≠"__name__":=by decide) (hd:(x == ("__debug__" : Str))=false:=by decide):PE X (.Name x pos) (tC v):=
 fun _ _ _ H _ I h=>zig I hg hm hv ⟨v,H,I,r,h⟩ hn hd
variable{a b:Expr}{ta tb:TE}{pos:Pos}
def PC(X:Cx)(op:CmpOp)(a b:Expr)(t:TE):Prop:=
 ∀(pins:List (Addr×Obj)) (s:Shared) (σ : St) (H:Hp) (Q:VK),Inv X pins σ H s->t σ H Q->
  wpAny (model X.prog X.w) X.A (eval a X.env) (fun v s₁=>wpAny (model X.prog X.w) X.A (eval b X.env) (fun u s₂=>wpAny (model X.prog X.w) X.A (compareOp op v u) (EP X pins σ Q) X.xe s₂) X.xe s₁) X.xe s
theorem zxc(b:Expr){op:CmpOp}(h:op≠.In)(h2:op≠.NotIn):behindInMarks op b=false:=by
 have e1:(op == CmpOp.In)=false:=by cases op<;>first | rfl | exact absurd rfl h
 have e2:(op == CmpOp.NotIn)=false:=by cases op<;>first | rfl | exact absurd rfl h2
 cases b<;>simp[behindInMarks,e1,e2]
def tB(t:TE):TT:=fun σ H Q=>t σ H fun x H1=>∃c,x=.bl c/\Q c H1
theorem q25{op:CmpOp}{t:TE}(h:PC X op a b t)(h1:behindInMarks op b=false:=by first | exact zxc _ (by decide) (by decide) | rfl):PT X (.Compare a [op] [b] pos) (tB t):=by
 intro pins s σ H Q I hw
 refine wpAny_isTrue_Compare1 (thn (h pins s σ H _ I hw) fun v s1 h1=>thn h1 fun u s2 h2=>thn h2 fun c s3 ⟨x,H1,I1,r1,q1⟩=>?_) h1
 obtain⟨d,rfl,q⟩:=q1
 cases r1
 exact wpAny_truthy_bool ⟨H1,I1,q⟩
theorem zk0{e:Expr}{t:TE}(h:PE X e t)(he:∀whole,isTrue e X.env whole=(do let v <- whole; standAt e.pos; holding [v] (truthy v)):=by intro _; rfl):PT X e (tB t):=by
 intro pins s σ H Q I hw
 refine isTrue_plain (thn (h pins s σ H _ I hw) fun v s1 ⟨x,H1,I1,r1,q1⟩=>?_) (he _)
 obtain⟨d,rfl,q⟩:=q1
 cases r1
 exact wpAny_truthy_bool ⟨H1,I1,q⟩
variable{tA tB':TT}{ztd:List Expr}
def zzb(t u:TT):TT:=fun σ H Q=>t σ H fun c H1=>if c=true then u σ H1 Q else Q false H1
def tOr(t u:TT):TT:=fun σ H Q=>t σ H fun c H1=>if c=true then Q true H1 else u σ H1 Q
def zz9(t:TT):TT:=fun σ H Q=>t σ H fun c H1=>Q (!c) H1
theorem zp2(ha:PT X a tA):PW X (.BoolOp .And [a] pos) tA:=by
 intro wh pins s σ H Q I h
 refine isTrue_and (thn (ha pins s σ H Q I h) fun c s1 e=>?_)
 cases c with
 | true=>exact isTrue_and_nil e
 | false=>exact e
theorem zgf(ha:PT X a tA):PW X (.BoolOp .Or [a] pos) tA:=by
 intro wh pins s σ H Q I h
 refine isTrue_or (thn (ha pins s σ H Q I h) fun c s1 e=>?_)
 cases c with
 | false=>exact isTrue_or_nil e
 | true=>exact e
theorem zu2(ha:PT X a tA)(hb:PW X (.BoolOp .And (b::ztd) pos) tB'):PW X (.BoolOp .And (a::b::ztd) pos) (zzb tA tB'):=by
 intro wh pins s σ H Q I h
 refine isTrue_and (thn (ha pins s σ H _ I h) fun c s1 ⟨H1,I1,q1⟩=>?_)
 cases c with
 | true=>exact hb wh pins s1 σ H1 Q I1 q1
 | false=>exact⟨H1,I1,q1⟩
theorem zgu(ha:PT X a tA)(hb:PW X (.BoolOp .Or (b::ztd) pos) tB'):PW X (.BoolOp .Or (a::b::ztd) pos) (tOr tA tB'):=by
 intro wh pins s σ H Q I h
 refine isTrue_or (thn (ha pins s σ H _ I h) fun c s1 ⟨H1,I1,q1⟩=>?_)
 cases c with
 | true=>exact⟨H1,I1,q1⟩
 | false=>exact hb wh pins s1 σ H1 Q I1 q1
theorem zmh(ha:PT X a tA):PT X (.UnaryOp .Not a pos) (zz9 tA):=by
 intro pins s σ H Q I h
 exact isTrue_not (ha pins s σ H (fun c H1=>Q (!c) H1) I h)
def zon(ta tb:TE):TE:=fun σ H Q=>ta σ H fun x H1=>∃c,x=.bl c/\if c=true then tb σ H1 Q else Q (.bl false) H1
def q1d(ta tb:TE):TE:=fun σ H Q=>ta σ H fun x H1=>∃c,x=.bl c/\if c=true then Q (.bl true) H1 else tb σ H1 Q
def zoj(ta:TE):TE:=fun σ H Q=>ta σ H fun x H1=>∃c,x=.bl c/\Q (.bl (!c)) H1
theorem zu7{op}{t:TE}(h:PE X a t):PE X (.BoolOp op [a] pos) t:=fun pins s σ H Q I hw=>BoolOp_one (h pins s σ H Q I hw)
theorem zqr(ha:PE X a ta)(hb:PE X (.BoolOp .And (b::ztd) pos) tb):PE X (.BoolOp .And (a::b::ztd) pos) (zon ta tb):=by
 intro pins s σ H Q I h
 refine BoolOp_and (thn (ha pins s σ H _ I h) fun v s1 ⟨x,H1,I1,r1,q1⟩=>?_)
 obtain⟨c,rfl,q1⟩:=q1
 cases r1
 refine wpAny_truthy_bool ?_
 cases c with
 | true=>exact hb pins s1 σ H1 Q I1 q1
 | false=>exact⟨.bl false,H1,I1,rfl,q1⟩
theorem q26(ha:PE X a ta):PE X (.UnaryOp .Not a pos) (zoj ta):=by
 intro pins s σ H Q I h
 refine UnaryOp_ (thn (ha pins s σ H _ I h) fun v s1 ⟨x,H1,I1,r1,q1⟩=>?_)
 obtain⟨c,rfl,q1⟩:=q1
 cases r1
 exact not_of (wpAny_truthy_bool ⟨.bl (!c),H1,I1,rfl,q1⟩)
def tIf(t:TT)(ta tb:TE):TE:=fun σ H Q=>t σ H fun c H1=>if c=true then ta σ H1 Q else tb σ H1 Q
theorem zqp{c:Expr}(hc:PT X c tA)(ha:PE X a ta)(hb:PE X b tb):PE X (.IfExp c a b pos) (tIf tA ta tb):=by
 intro pins s σ H Q I h
 refine wpAny_IfExp (thn (hc pins s σ H _ I h) fun d s1 ⟨H1,I1,q1⟩=>?_)
 cases d with
 | true=>exact ha pins s1 σ H1 Q I1 q1
 | false=>exact hb pins s1 σ H1 Q I1 q1
end
end L2
namespace L2
open PySem PySem.Spec PyProof.Rows
def SqL(K:PySem.W.Frag)(H:Hp)(a:Addr)(xs:List V):Prop:=
 Rd H a (.lst xs)\/
  ∃(o:Obj) (its:Array Value) (n:Nat),K.lookup a=some o/\o.cls=.type "list"/\o.dict=none/\o.data=.seq its n/\its.size<=sizeLine/\Vals xs its.toList
def SqT(K:PySem.W.Frag)(H:Hp)(a:Addr)(xs:List V):Prop:=
 Rd H a (.tup xs)\/
  ∃(o:Obj) (its:Array Value) (n:Nat),K.lookup a=some o/\o.cls=.type "tuple"/\o.data=.seq its n/\its.size<=sizeLine/\Vals xs its.toList
def q5r:Value->Option V
 | .none=>some .non
 | .bool b=>some (.bl b)
 | .int i _=>some (.int i)
 | .str x _=>some (.str x)
 | .bytes b _=>some (.byt b)
 | .float b _=>some (.flt b)
 | .ref a=>some (.ref a)
 | .type n=>some (.ty n)
 | _=>none
theorem RelV.abs{x:V}{u:Value}(r:RelV x u):q5r u=some x:=by
 cases x with
 | non=>cases r; rfl
 | bl _=>cases r; rfl
 | int _=>obtain⟨t,rfl⟩:=r; rfl
 | str _=>obtain⟨t,rfl⟩:=r; rfl
 | byt _=>obtain⟨t,rfl⟩:=r; rfl
 | flt _=>obtain⟨t,rfl⟩:=r; rfl
 | ref _=>cases r; rfl
 | ty _=>cases r; rfl
theorem RelV.inj{x y:V}{u:Value}(r:RelV x u)(q:RelV y u):x=y:=Option.some.inj (r.abs.symm.trans q.abs)
theorem Vals.inj:∀{xs ys:List V} {us:List Value},Vals xs us->Vals ys us->xs=ys
 | _,_,_,.nil,.nil=>rfl
 | _,_,_,.cons r t,.cons r' t'=>by rw [r.inj r',Vals.inj t t']
section
variable{X:Cx}{pins:List (Addr×Obj)}{σ : St}{H:Hp}{s:Shared}{a:Addr}{xs ys:List V}
theorem SqL.of{K:PySem.W.Frag}(h:H a=some (.lst xs)):SqL K H a xs:=.inl (.inl h)
theorem SqT.of{K:PySem.W.Frag}(h:H a=some (.tup xs)):SqT K H a xs:=.inl (.inl h)
theorem Inv.list(I:Inv X pins σ H s)(h:SqL X.K H a xs):∃its:List Value,Vals xs its/\PlainL s.heap a its.toArray/\xs.length<=sizeLine:=by
 rcases h with h | ⟨o,its,n,hk,hc,hd,hs,hz,r⟩
 ·obtain⟨z,its,n,r,e⟩:=h.ok I.hok
  exact⟨its,r,⟨_,n,e,rfl,rfl,rfl⟩,z⟩
 ·refine⟨its.toList,r,⟨o,n,I.kIn a o hk,hc,hd,by simpa using hs⟩,?_⟩
  have e:=r.length
  simp only[Array.length_toList] at e
  omega
theorem Inv.tuple(I:Inv X pins σ H s)(h:SqT X.K H a xs):∃its:List Value,Vals xs its/\IsTup s.heap a its.toArray/\xs.length<=sizeLine:=by
 rcases h with h | ⟨o,its,n,hk,hc,hs,hz,r⟩
 ·obtain⟨z,its,r,p⟩:=h.ok I.hok
  exact⟨its,r,p,z⟩
 ·refine⟨its.toList,r,⟨o,I.kIn a o hk,hc,n,by simpa using hs⟩,?_⟩
  have e:=r.length
  simp only[Array.length_toList] at e
  omega
theorem Inv.list_inj(I:Inv X pins σ H s)(h:SqL X.K H a xs)(h':SqL X.K H a ys):xs=ys:=by
 obtain⟨its,r,⟨o,n,e,_,_,d⟩,_⟩:=I.list h
 obtain⟨its',r',⟨o',n',e',_,_,d'⟩,_⟩:=I.list h'
 rw [e] at e'; cases e'
 rw [d] at d'
 injection d' with d1 _
 have:its=its':=by simpa using congrArg Array.toList d1
 subst this
 exact r.inj r'
theorem Inv.tuple_inj(I:Inv X pins σ H s)(h:SqT X.K H a xs)(h':SqT X.K H a ys):xs=ys:=by
 obtain⟨its,r,⟨o,e,_,n,d⟩,_⟩:=I.tuple h
 obtain⟨its',r',⟨o',e',_,n',d'⟩,_⟩:=I.tuple h'
 rw [e] at e'; cases e'
 rw [d] at d'
 injection d' with d1 _
 have:its=its':=by simpa using congrArg Array.toList d1
 subst this
 exact r.inj r'
end
abbrev Cx.wish(X:Cx)(E:Value->Shared->Prop):Cx:={X with xe:=E}
abbrev Cx.nox(X:Cx):Cx:=X.wish fun _ _=>False
theorem Cx.Ok.wish{X:Cx}(ok:X.Ok)(E:Value->Shared->Prop):(X.wish E).Ok:=
 ⟨ok.mod,ok.kind,ok.glob,ok.blt,ok.above,ok.inj,ok.has,ok.cab,ok.hd,ok.frames,ok.stk,ok.exf,ok.bs,ok.bsz,ok.noex,ok.exfs,ok.funs,ok.frf⟩
theorem Cx.Ok.unwish{X:Cx}{E:Value->Shared->Prop}(ok:(X.wish E).Ok):X.Ok:=
 ⟨ok.mod,ok.kind,ok.glob,ok.blt,ok.above,ok.inj,ok.has,ok.cab,ok.hd,ok.frames,ok.stk,ok.exf,ok.bs,ok.bsz,ok.noex,ok.exfs,ok.funs,ok.frf⟩
section
variable{X:Cx}{pins:List (Addr×Obj)}{σ : St}{H:Hp}{s:Shared}{E:Value->Shared->Prop}
theorem Inv.wish(I:Inv X pins σ H s)(E:Value->Shared->Prop):Inv (X.wish E) pins σ H s:=⟨I.ok.wish E,I.os,I.bare,I.base,I.loc,I.cell,I.free,I.freeC,I.pin,I.hok,I.len⟩
theorem Inv.unwish(I:Inv (X.wish E) pins σ H s):Inv X pins σ H s:=⟨I.ok.unwish,I.os,I.bare,I.base,I.loc,I.cell,I.free,I.freeC,I.pin,I.hok,I.len⟩
theorem SP.unwish{D:Ends}{f:Flow}{s':Shared}(h:SP (X.wish E) pins D f s'):SP X pins D f s':=by
 cases f with
 | next=>obtain⟨σ',H',I,q⟩:=h; exact⟨σ',H',I.unwish,q⟩
 | brk=>obtain⟨σ',H',I,q⟩:=h; exact⟨σ',H',I.unwish,q⟩
 | cont=>obtain⟨σ',H',I,q⟩:=h; exact⟨σ',H',I.unwish,q⟩
 | ret u=>obtain⟨v,σ',H',I,r,q⟩:=h; exact⟨v,σ',H',I.unwish,r,q⟩
theorem PE.nox{e:Expr}{t:TE}(h:PE X.nox e t):PE X e t:=fun pins s σ H Q I hw=>
 wpAny_mono (h pins s σ H Q (I.wish _) hw) (fun _ _ ⟨v,H',I',r,q⟩=>⟨v,H',I'.unwish,r,q⟩) fun _ _ z=>False.elim z
theorem PT.nox{e:Expr}{t:TT}(h:PT X.nox e t):PT X e t:=fun pins s σ H Q I hw=>
 wpAny_mono (h pins s σ H Q (I.wish _) hw) (fun _ _ ⟨H',I',q⟩=>⟨H',I'.unwish,q⟩) fun _ _ z=>False.elim z
theorem PSs.nox{st:List Stmt}{t:TS}(h:PSs X.nox st t):PSs X st t:=fun pins s σ H D I hw=>
 wpAny_mono (h pins s σ H D (I.wish _) hw) (fun _ _ q=>q.unwish) fun _ _ z=>False.elim z
end
section
variable{X:Cx}{st:Stmt}{ztd:List Stmt}{t u:TS}{e:Expr}{te:TE}{pos:Pos}
def zok:TS:=fun D σ H=>D.nx σ H
def zq7(t u:TS):TS:=fun D σ H=>t {D with nx:=u D} σ H
theorem z0l:PSs X [] zok:=fun _ _ σ H _ I h=>wpAny_execs_nil ⟨σ,H,I,h⟩
theorem z03(h1:PS X st t)(h2:PSs X ztd u):PSs X (st::ztd) (zq7 t u):=by
 intro pins s σ H D I h
 refine wpAny_execs_cons (thn (h1 pins s σ H {D with nx:=u D} I h) fun f s1 q=>?_)
 cases f with
 | next=>
  obtain⟨σ',H',I',q⟩:=q
  exact h2 pins s1 σ' H' D I' q
 | ret v=>exact q
 | brk=>exact q
 | cont=>exact q
theorem z07(h1:PS X st t):PSs X [st] t:=by
 intro pins s σ H D I h
 refine wpAny_execs_cons (thn (h1 pins s σ H D I h) fun f s1 q=>?_)
 cases f with
 | next=>exact wpAny_execs_nil q
 | ret v=>exact q
 | brk=>exact q
 | cont=>exact q
def zjv:TS:=fun D σ H=>D.bk σ H
def zrw:TS:=fun D σ H=>D.ct σ H
theorem Inv.quiet{pins:List (Addr×Obj)}{σ : St}{H:Hp}{s:Shared}(I:Inv X pins σ H s):interactive X.env=false:=by simp[interactive,I.ok.kind]
def zol(te:TE):TS:=fun D σ H=>te σ H fun _ H1=>D.nx σ H1
theorem z7p(he:PE X e te)(hs:swapsWith e none pos.line X.env=pure false:=by rfl):PS X (.Expr e pos) (zol te):=by
 intro pins s σ H D I h
 exact wpAny_Expr_any (thn (he pins s σ H _ I h) fun v s1 ⟨x,H1,I1,r1,q1⟩=>⟨σ,H1,I1,q1⟩) I.quiet hs
def zz8(te:TE):TS:=fun D σ H=>te σ H D.rt
theorem z0h(he:PE X e te):PS X (.Return (some e) pos) (zz8 te):=by
 intro pins s σ H D I h
 exact wpAny_Return_some (thn (he pins s σ H _ I h) fun v s1 ⟨x,H1,I1,r1,q1⟩=>⟨x,σ,H1,I1,r1,q1⟩)
def zrs:TS:=fun D _ H=>D.rt .non H
def ztc(c:TT)(t u:TS):TS:=fun D σ H=>c σ H fun b H1=>if b=true then t D σ H1 else u D σ H1
theorem z2g{c:Expr}{a b:List Stmt}{tc:TT}(hc:PT X c tc)(ha:PSs X a t)(hb:PSs X b u):PS X (.If c a b pos) (ztc tc t u):=by
 intro pins s σ H D I h
 refine wpAny_If (thn (hc pins s σ H _ I h) fun d s1 ⟨H1,I1,q1⟩=>?_)
 cases d with
 | true=>exact ha pins s1 σ H1 D I1 q1
 | false=>exact hb pins s1 σ H1 D I1 q1
def zhm:TS:=fun _ _ _=>False
theorem zhb:PS X st zhm:=fun _ _ _ _ _ _ h=>h.elim
end
abbrev TG:=V->St->Hp->(St->Hp->Prop)->Prop
abbrev TGs:=List V->St->Hp->(St->Hp->Prop)->Prop
def PG(X:Cx)(target:Expr)(t:TG):Prop:=
 ∀(pins:List (Addr×Obj)) (s:Shared) (σ : St) (H:Hp) (v:V) (u:Value) (Q:St->Hp->Prop),Inv X pins σ H s->RelV v u->t v σ H Q->
  wpAny (model X.prog X.w) X.A (assign target X.env u) (fun _ s'=>∃ σ' H',Inv X pins σ' H' s'/\Q σ' H') X.xe s
def PGs(X:Cx)(ts:List Expr)(t:TGs):Prop:=
 ∀(pins:List (Addr×Obj)) (s:Shared) (σ : St) (H:Hp) (vs:List V) (us:List Value) (Q:St->Hp->Prop),Inv X pins σ H s->Vals vs us->t vs σ H Q->
  wpAny (model X.prog X.w) X.A (assignInOrder ((assignEach ts X.env).map (·.2)) us) (fun _ s'=>∃ σ' H',Inv X pins σ' H' s'/\Q σ' H') X.xe s
section
variable{X:Cx}{pos:Pos}
def zll(i:Nat):TG:=fun v σ H Q=>Q (σ.set i (some v)) H
theorem z1u{i:Nat}{x:Str}(hN:X.N.Nodup)(hi:X.N[i]?=some x)(hx:Loc X.env.scope x)(hf:X.fn x=true\/X.env.scope.names.lookup x=some .local:=by first | exact .inl rfl | exact .inr rfl | assumption):PG X (.Name x pos) (zll i):=by
 intro pins s σ H v u Q I r h
 exact wpAny_assign_Name (zki I hN hi hx r (fun s' I'=>⟨_,H,I',h⟩) hf)
def q0l:TGs:=fun vs σ H Q=>vs=[]/\Q σ H
def zpu(t:TG)(u:TGs):TGs:=fun vs σ H Q=>∃v r,vs=v::r/\t v σ H fun σ' H'=>u r σ' H' Q
theorem z7q:PGs X [] q0l:=by
 intro pins s σ H vs us Q I r h
 obtain⟨e,h⟩:=h
 subst e
 cases r
 exact assignInOrder_nil ⟨σ,H,I,h⟩
theorem z24{e:Expr}{es:List Expr}{t:TG}{u:TGs}(h1:PG X e t)(h2:PGs X es u)
  (hs:(assignEach (e::es) X.env).map (·.2)=assign e X.env::(assignEach es X.env).map (·.2):=by rfl):PGs X (e::es) (zpu t u):=by
 intro pins s σ H vs us Q I r h
 obtain⟨v,vr,e1,h⟩:=h
 subst e1
 cases r with
 | cons r rr=>
  rw [hs]
  refine assignInOrder_cons (thn (h1 pins s σ H _ _ _ I r h) fun _ s1 ⟨σ1,H1,I1,q1⟩=>?_)
  exact h2 pins s1 σ1 H1 _ _ Q I1 rr q1
def zyw(K:PySem.W.Frag)(n:Nat)(t:TGs):TG:=fun v σ H Q=>∃a xs,v=.ref a/\SqT K H a xs/\xs.length=n/\t xs σ H Q
theorem zel{es:List Expr}{k:Nat}{t:TGs}{n:Nat}(hc:X.calm=true)(h:PGs X es t)
  (hn:(assignEach es X.env).length=n:=by rfl) (hst:(assignEach es X.env).findIdx? (·.1)=none:=by rfl):PG X (.Tuple es k pos) (zyw X.K n t):=by
 intro pins s σ H v u Q I r hw
 obtain⟨a,xs,e1,hq,hl,hw⟩:=hw
 subst e1
 cases r
 obtain⟨its,rv,ht,hz⟩:=I.tuple hq
 refine assign_Tuple_tuple (I.ok.hd hc) ht (by simp[hn,<- hl,rv.length]) hst fun h' hx=>?_
 have I1:Inv X pins σ H {s with heap:=h'}:=I.kept (t':=s.toks) fun b o e=>hx b o (Nat.ne_of_lt (Heap.lt_size e)) e
 exact h pins _ σ H xs _ Q I1 (by simpa using rv) hw
def zya(te:TE)(g:TG):TS:=fun D σ H=>te σ H fun x H1=>g x σ H1 D.nx
theorem zyk{tg e:Expr}{te:TE}{g:TG}(he:PE X e te)(hg:PG X tg g)(hs:swapsWithSole [tg] e pos.line X.env=pure false:=by rfl)(hw:swappedStores [tg] e X.env=pure none:=by rfl)
  (h1:(assignEach [tg] X.env).map (·.2)=[assign tg X.env]:=by rfl):PS X (.Assign [tg] e pos) (zya te g):=by
 intro pins s σ H D I h
 refine wpAny_Assign_stores (thn (he pins s σ H _ I h) fun v s1 ⟨x,H1,I1,r1,q1⟩=>?_) hs hw
 rw [h1]
 exact thn (hg pins s1 σ H1 x v _ I1 r1 q1) fun _ s2 q=>q
theorem z18{i:Nat}{x:Str}{e:Expr}{te:TE}{pos':Pos}(hN:X.N.Nodup)(hi:X.N[i]?=some x)(hx:Loc X.env.scope x)(he:PE X e te)(hs:swapsWith e (some (.Name x pos')) pos.line X.env=pure false:=by rfl)(hf:X.fn x=true\/X.env.scope.names.lookup x=some .local:=by first | exact .inl rfl | exact .inr rfl | assumption) :
  PS X (.Assign [.Name x pos'] e pos) (zya te (zll i)):=by
 intro pins s σ H D I h
 refine wpAny_Assign_Name (thn (he pins s σ H _ I h) fun v s1 ⟨y,H1,I1,r1,q1⟩=>?_) hs
 exact zki I1 hN hi hx r1 (fun s2 I2=>⟨_,H1,I2,q1⟩) hf
end
section
variable{X:Cx}{pos:Pos}
def q1u(c:TT)(tb:TS):TS:=fun D σ H=>∃W:Nat->St->Hp->Prop,(∃m,W m σ H)/\∀m σ H,W m σ H->
 c σ H fun b H1=>if b=true then ∃N:St->Hp->Prop,(∀ σ' H',N σ' H'->∃m',m' < m/\W m' σ' H')/\tb {D with nx:=N,ct:=N,bk:=D.nx} σ H1 else D.nx σ H1
theorem zwy{c:Expr}{body:List Stmt}{tc:TT}{tb:TS}(hp:PassesOwn (model X.prog X.w) X.A X.env X.xe)(hc:PT X c tc)(hb:PSs X body tb):PS X (.While c body [] pos) (q1u tc tb):=by
 intro pins s σ H D I h
 obtain⟨W,⟨m0,w0⟩,turn⟩:=h
 refine wpAny_While (codeAny_whileLoop (fun n s'=>∃ σ' H',Inv X pins σ' H' s'/\W n σ' H') ?_ m0 ⟨σ,H,I,w0⟩)
 rintro n s1 ⟨σ1,H1,I1,w1⟩
 refine wpAny_passesOwn hp (thn (hc pins s1 σ1 H1 _ I1 (turn n σ1 H1 w1)) fun b s2 ⟨H2,I2,q2⟩=>?_)
 cases b with
 | true=>
  obtain⟨N,hN,q2⟩:=q2
  rw [if_pos rfl]
  refine wpAny_passesOwn hp (thn (hb pins s2 σ1 H2 _ I2 q2) fun f s3 q3=>?_)
  cases f with
  | next=>
   obtain⟨σ3,H3,I3,n3⟩:=q3
   obtain⟨m',hm,w3⟩:=hN σ3 H3 n3
   exact⟨m',hm,σ3,H3,I3,w3⟩
  | cont=>
   obtain⟨σ3,H3,I3,n3⟩:=q3
   obtain⟨m',hm,w3⟩:=hN σ3 H3 n3
   exact⟨m',hm,σ3,H3,I3,w3⟩
  | brk=>exact q3
  | ret v=>exact q3
 | false=>
  rw [if_neg Bool.false_ne_true]
  exact wpAny_execs_nil ⟨σ1,H2,I2,q2⟩
end
structure It where
 go:Nat->Hp->Prop
 yld:Nat->Hp->V->Hp->Prop
 stop:Nat->Hp->Prop
def FpOk(X:Cx)(pins:List (Addr×Obj))(H:Hp)(b:Addr):Prop:=
 H b=none/\b≠X.env.locals/\b∉X.fs/\(b∈X.ex\/X.s₀.heap.objs.size<=b)/\(∀x c,X.env.cells.lookup x=some c->c≠b)/\∀p∈X.pn++pins,p.1≠b
theorem Inv.fpOk{X:Cx}{pins:List (Addr×Obj)}{σ : St}{H H':Hp}{s:Shared}{b:Addr}(I:Inv X pins σ H s)(hb:s.heap.objs.size<=b)(hn:H' b=none):FpOk X pins H' b:=by
 refine⟨hn,Nat.ne_of_gt (Nat.lt_of_lt_of_le I.lt hb),I.nofs hb,.inr (Nat.le_trans I.sz hb),fun x c e z=>?_,fun p hp z=>?_⟩
 ·obtain⟨v,q⟩:=I.cell x c e
  exact absurd (Nat.lt_of_lt_of_le q.lt (by rw [z]; exact hb)) (Nat.lt_irrefl _)
 ·exact absurd (Nat.lt_of_lt_of_le (Heap.lt_size (I.pin p hp).1) (by rw [z]; exact hb)) (Nat.lt_irrefl _)
structure Turn(P:Program)(w:World)(K:PySem.W.Frag)(tg:Expr)(J:It)(fp:List Addr)(it:Addr)(tn:Nat->Heap->Prop):Prop where
 mem:it∈fp
 obj:∀i h,tn i h->∀b∈fp,∃o,h.get? b=some o/\∀v,o.data≠.cell v
 keep:∀i h h',tn i h->(∀b∈fp,∀o,h.get? b=some o->h'.get? b=some o)->tn i h'
 item:∀(X:Cx),X.prog=P->X.w=w->X.K=K->X.calm=true->∀(i:Nat) (pins:List (Addr×Obj)) (s:Shared) (σ : St) (H:Hp) (E:Value->Shared->Prop),Inv X pins σ H s->(∀b∈fp,FpOk X pins H b)->tn i s.heap->J.go i H->
  wpAny (model P w) X.A (pyNext (.ref it)) (fun r s1=>∃u,r=some u/\
   wpAny (model P w) X.A (letOwnedTupleGo tg (.ref it) u) (fun _ s2=>∃x H',Inv X pins σ H' s2/\RelV x u/\J.yld i H x H'/\tn (i+1) s2.heap/\∀b∈fp,H' b=none) E s1) E s
 done:∀(X:Cx),X.prog=P->X.w=w->X.K=K->X.calm=true->∀(i:Nat) (pins:List (Addr×Obj)) (s:Shared) (σ : St) (H:Hp) (E:Value->Shared->Prop),Inv X pins σ H s->(∀b∈fp,FpOk X pins H b)->tn i s.heap->J.stop i H->
  wpAny (model P w) X.A (pyNext (.ref it)) (fun r s1=>r=none/\Inv X pins σ H s1) E s
 self:∀(A:Around) (i:Nat) (s:Shared) (Q:Value->Shared->Prop) (E:Value->Shared->Prop),tn i s.heap->Q (.ref it) s->wpAny (model P w) A (pyIter (.ref it)) Q E s
abbrev TI:=St->Hp->(It->Hp->Prop)->Prop
def PIE(X:Cx)(pins:List (Addr×Obj))(σ : St)(tg:Expr)(R:It->Hp->Prop)(itv:Value)(s2:Shared):Prop:=
 ∃(it:Addr) (fp:List Addr) (tn:Nat->Heap->Prop) (J:It) (H':Hp),itv=.ref it/\Inv X pins σ H' s2/\Turn X.prog X.w X.K tg J fp it tn/\tn 0 s2.heap/\(∀b∈fp,FpOk X pins H' b)/\R J H'
def PI(X:Cx)(tg iter:Expr)(wi:TI):Prop:=
 ∀(pins:List (Addr×Obj)) (s:Shared) (σ : St) (H:Hp) (R:It->Hp->Prop),Inv X pins σ H s->wi σ H R->
  wpAny (model X.prog X.w) X.A (eval iter X.env) (fun v s1=>wpAny (model X.prog X.w) X.A (pyIter v) (PIE X pins σ tg R) X.xe s1) X.xe s
theorem q0j{M:Model}{A:Around}{E:Value->Shared->Prop}{s:Shared}{tg:Expr}{it:Addr}{u:Value}{o:Obj}{n:String}{vs:Array Value}{Q:Unit->Shared->Prop}(ho:s.heap.get? it=some o)(hc:o.cls=.type n)(hd:o.data=.fields vs)
    (hn:["enumerate","zip","dict_itemiterator","dict_reverseitemiterator","odict_iterator","itertools.zip_longest","itertools.pairwise"].contains n=false) (hQ:Q () s):wpAny M A (letOwnedTupleGo tg (.ref it) u) Q E s:=by
  unfold letOwnedTupleGo
  cases tg<;>first
    | exact wpAny_pure hQ
    | (cases u<;>first
        | exact wpAny_pure hQ
        | (refine wpAny_bind (wpAny_load ho ?_)
           rw [hc,hd]
           show wpAny M A (if(["enumerate","zip","dict_itemiterator","dict_reverseitemiterator","odict_iterator","itertools.zip_longest","itertools.pairwise"].contains n && vs[0]? == some (rawInt _))=true then _ else _) Q E s
           rw [if_neg (by intro h; rw [hn,Bool.false_and] at h; cases h)]
           exact wpAny_pure hQ))
def Itl(K:PySem.W.Frag)(a:Addr):It:=
 ⟨fun i H=>∃xs x,SqL K H a xs/\xs[i]?=some x,fun i H x H'=>H'=H/\∀xs,SqL K H a xs->xs[i]?=some x,fun i H=>∃xs,SqL K H a xs/\xs.length<=i⟩
def Itt(K:PySem.W.Frag)(a:Addr):It:=
 ⟨fun i H=>∃xs x,SqT K H a xs/\xs[i]?=some x,fun i H x H'=>H'=H/\∀xs,SqT K H a xs->xs[i]?=some x,fun i H=>∃xs,SqT K H a xs/\xs.length<=i⟩
def Itr(lo:Int)(n:Nat):It:=⟨fun i _=>i < n,fun i H x H'=>H'=H/\x=.int (lo+i),fun i _=>n<=i⟩
theorem ztj{P:Program}{w:World}{K:PySem.W.Frag}{tg:Expr}(a it:Addr):Turn P w K tg (Itl K a) [it] it (fun i h=>h.IsListIter it a i) where
 mem:=by simp
 obj:=fun i h st b hb=>by
  have e:b=it:=by simpa using hb
  subst e
  obtain⟨o,e,c,d⟩:=st
  exact⟨o,e,fun v z=>by rw [d] at z; cases z⟩
 keep:=fun i h h' st k=>st.at fun o e=>k it (by simp) o e
 item:=by
  intro X hP hw hK hc i pins s σ H E I hf st hg
  subst hP hw hK
  obtain⟨xs,x,hq,hx⟩:=hg
  obtain⟨its,rv,p,hz⟩:=I.list hq
  obtain⟨u,hu,ru⟩:=rv.get hx
  obtain⟨f0,f1,f2,f3,f4,f5⟩:=hf it (by simp)
  refine wpAny_pyNext_list_item st p.isList (x:=u) (by simpa using hu) fun h' st' sb=>?_
  have I1:Inv X pins σ H {s with heap:=h'}:=I.turned (t':=s.toks) (fun b o hb e=>(sb.2 b hb).trans e) f0 f1 f3 f4 f5
  obtain⟨o,e,c,d⟩:=id st'
  exact⟨u,rfl,q0j (s:={s with heap:=h'}) e c d (by decide) ⟨x,H,I1,ru,⟨rfl,fun ys hy=>by rw [I.list_inj hy hq]; exact hx⟩,st',fun b hb=>(hf b hb).1⟩⟩
 done:=by
  intro X hP hw hK hc i pins s σ H E I hf st hg
  subst hP hw hK
  obtain⟨xs,hq,hx⟩:=hg
  obtain⟨its,rv,p,hz⟩:=I.list hq
  obtain⟨f0,f1,f2,f3,f4,f5⟩:=hf it (by simp)
  have hl:=rv.length
  exact wpAny_pyNext_list_end (I.ok.hd hc) st p.isList (by simp; omega) fun h' eb=>⟨rfl,I.turned (t':=s.toks) (fun b o hb e=>eb b o hb e) f0 f1 f3 f4 f5⟩
 self:=fun _ _ _ _ _ st h=>wpAny_pyIter_listiter st h
theorem zrp{P:Program}{w:World}{K:PySem.W.Frag}{tg:Expr}(a it:Addr):Turn P w K tg (Itt K a) [it] it (fun i h=>h.IsTupleIter it a i) where
 mem:=by simp
 obj:=fun i h st b hb=>by
  have e:b=it:=by simpa using hb
  subst e
  obtain⟨o,e,c,d⟩:=st
  exact⟨o,e,fun v z=>by rw [d] at z; cases z⟩
 keep:=fun i h h' st k=>st.at fun o e=>k it (by simp) o e
 item:=by
  intro X hP hw hK hc i pins s σ H E I hf st hg
  subst hP hw hK
  obtain⟨xs,x,hq,hx⟩:=hg
  obtain⟨its,rv,p,hz⟩:=I.tuple hq
  obtain⟨u,hu,ru⟩:=rv.get hx
  obtain⟨f0,f1,f2,f3,f4,f5⟩:=hf it (by simp)
  refine wpAny_pyNext_tuple_item st (show s.heap.IsTuple a its.toArray from p) (x:=u) (by simpa using hu) fun h' st' sb=>?_
  have I1:Inv X pins σ H {s with heap:=h'}:=I.turned (t':=s.toks) (fun b o hb e=>(sb.2 b hb).trans e) f0 f1 f3 f4 f5
  obtain⟨o,e,c,d⟩:=id st'
  exact⟨u,rfl,q0j (s:={s with heap:=h'}) e c d (by decide) ⟨x,H,I1,ru,⟨rfl,fun ys hy=>by rw [I.tuple_inj hy hq]; exact hx⟩,st',fun b hb=>(hf b hb).1⟩⟩
 done:=by
  intro X hP hw hK hc i pins s σ H E I hf st hg
  subst hP hw hK
  obtain⟨xs,hq,hx⟩:=hg
  obtain⟨its,rv,p,hz⟩:=I.tuple hq
  obtain⟨f0,f1,f2,f3,f4,f5⟩:=hf it (by simp)
  have hl:=rv.length
  exact wpAny_pyNext_tuple_end (I.ok.hd hc) st (show s.heap.IsTuple a its.toArray from p) (by simp; omega) fun h' eb=>⟨rfl,I.turned (t':=s.toks) (fun b o hb e=>eb b o hb e) f0 f1 f3 f4 f5⟩
 self:=fun _ _ _ _ _ st h=>wpAny_pyIter_tupleiter st h
theorem zrq{P:Program}{w:World}{K:PySem.W.Frag}{tg:Expr}(it:Addr)(lo:Int)(n:Nat):Turn P w K tg (Itr lo n) [it] it (fun i h=>IsRangeIter h it (lo+(i:Nat) * 1) ((n:Int) - (i:Nat)) 1) where
 mem:=by simp
 obj:=fun i h st b hb=>by
  have e:b=it:=by simpa using hb
  subst e
  exact⟨_,st,fun v z=>by
   have z':Data.fields _=Data.cell v:=z
   cases z'⟩
 keep:=fun i h h' st k=>k it (by simp) _ st
 item:=by
  intro X hP hw hK hc i pins s σ H E I hf st hg
  subst hP hw hK
  obtain⟨f0,f1,f2,f3,f4,f5⟩:=hf it (by simp)
  have W:=Walks.range (prog:=X.prog) (w:=X.w) (I.ok.hd hc) it lo 1 n
  refine W.item i s _ _ hg st fun v h' tk hv st' kk=>?_
  obtain⟨t,rfl⟩:=hv
  have I1:Inv X pins σ H {s with heap:=h',toks:=tk}:=I.turned (fun b o hb e=>kk b o (by simpa using hb) e) f0 f1 f3 f4 f5
  refine⟨_,rfl,q0j (s:={s with heap:=h',toks:=tk}) (n:="range_iterator") st' rfl rfl (by decide) ⟨.int (lo+i),H,I1,⟨t,?_⟩,⟨rfl,rfl⟩,st',fun b hb=>(hf b hb).1⟩⟩
  rw [Int.mul_one]
 done:=by
  intro X hP hw hK hc i pins s σ H E I hf st hg
  subst hP hw hK
  obtain⟨f0,f1,f2,f3,f4,f5⟩:=hf it (by simp)
  exact wpAny_pyNext_range_end (I.ok.hd hc) st (by have:n<=i:=hg; omega) fun h' eb=>⟨rfl,I.turned (t':=s.toks) (fun b o hb e=>eb b o hb e) f0 f1 f3 f4 f5⟩
 self:=fun _ _ _ _ _ st h=>wpAny_pyIter_rangeiter st h
end L2
namespace L2
open PySem PySem.Spec PyProof.Rows
section
variable{X:Cx}{tg:Expr}
def q0i(K:PySem.W.Frag)(tl:TE):TI:=fun σ H R=>tl σ H fun x H1=>∃a,x=.ref a/\(∃xs,SqL K H1 a xs)/\R (Itl K a) H1
def q4f(K:PySem.W.Frag)(tl:TE):TI:=fun σ H R=>tl σ H fun x H1=>∃a,x=.ref a/\(∃xs,SqT K H1 a xs)/\R (Itt K a) H1
theorem zfx{l:Expr}{tl:TE}(hl:PE X l tl):PI X tg l (q0i X.K tl):=by
 intro pins s σ H R I h
 refine thn (hl pins s σ H _ I h) fun v s1 ⟨x,H1,I1,r1,q1⟩=>?_
 obtain⟨a,e,⟨xs,hq⟩,q⟩:=q1
 subst e
 cases r1
 obtain⟨its,rv,p,hz⟩:=I1.list hq
 refine wpAny_pyIter_list p.isList ?_
 refine⟨s1.heap.objs.size,[s1.heap.objs.size],_,_,H1,rfl,I1.kept (t':=s1.toks) fun b o e=>Heap.get?_push_of_some _ e,ztj a _,⟨_,Heap.get?_push_size _ rfl,rfl,rfl⟩,fun b hb=>?_,q⟩
 have e:b=s1.heap.objs.size:=by simpa using hb
 subst e
 exact I1.fpOk (Nat.le_refl _) (I1.hok.fresh (Nat.le_refl _))
theorem zyl{l:Expr}{tl:TE}(hl:PE X l tl):PI X tg l (q4f X.K tl):=by
 intro pins s σ H R I h
 refine thn (hl pins s σ H _ I h) fun v s1 ⟨x,H1,I1,r1,q1⟩=>?_
 obtain⟨a,e,⟨xs,hq⟩,q⟩:=q1
 subst e
 cases r1
 obtain⟨its,rv,p,hz⟩:=I1.tuple hq
 refine wpAny_pyIter_tuple (show s1.heap.IsTuple a its.toArray from p) ?_
 refine⟨s1.heap.objs.size,[s1.heap.objs.size],_,_,H1,rfl,I1.kept (t':=s1.toks) fun b o e=>Heap.get?_push_of_some _ e,zrp a _,⟨_,Heap.get?_push_size _ rfl,rfl,rfl⟩,fun b hb=>?_,q⟩
 have e:b=s1.heap.objs.size:=by simpa using hb
 subst e
 exact I1.fpOk (Nat.le_refl _) (I1.hok.fresh (Nat.le_refl _))
theorem zqj{pins:List (Addr×Obj)}{σ : St}{H:Hp}{s:Shared}{R:It->Hp->Prop}{E:Value->Shared->Prop}{lo hi:Int}{t u v:Tok}{tk:Nat}(I:Inv X pins σ H s)(h1 : -(2 ^ 62)<=lo)(h2:lo < 2 ^ 62)(h3 : -(2 ^ 62)<=hi)(h4:hi < 2 ^ 62)
  (q:R (Itr lo (hi - lo).toNat) H):wpAny (model X.prog X.w) X.A (pyIter (.ref s.heap.objs.size)) (PIE X pins σ tg R) E {s with heap:=s.heap.push {cls:=.type "range",data:=.fields #[.int lo t,.int hi u,.int 1 v]},toks:=tk}:=by
 refine wpAny_pyIter_range (IsRange.new ..) (small_one h1 h2 h3 h4) ?_
 have I1:Inv X pins σ H {s with heap:=s.heap.push {cls:=.type "range",data:=.fields #[.int lo t,.int hi u,.int 1 v]},toks:=tk}:=I.kept fun b o e=>Heap.get?_push_of_some _ e
 refine⟨(s.heap.push {cls:=.type "range",data:=.fields #[.int lo t,.int hi u,.int 1 v]}).objs.size,[(s.heap.push {cls:=.type "range",data:=.fields #[.int lo t,.int hi u,.int 1 v]}).objs.size],_,_,H,rfl,
  I1.kept (t':=tk) fun b o e=>Heap.get?_push_of_some _ e,zrq _ lo (hi - lo).toNat,?_,fun b hb=>?_,q⟩
 ·have e1:lo+((0:Nat):Int) * 1=lo:=by simp
  have e2:(((hi - lo).toNat:Nat):Int) - ((0:Nat):Int)=Builtin.Range.rangeSize lo hi 1:=by rw [rangeSize_one]; split<;>omega
  show IsRangeIter _ _ (lo+((0:Nat):Int) * 1) ((((hi - lo).toNat:Nat):Int) - ((0:Nat):Int)) 1
  rw [e1,e2]
  exact Heap.get?_push_size _ rfl
 ·have e:b=(s.heap.push {cls:=.type "range",data:=.fields #[.int lo t,.int hi u,.int 1 v]}).objs.size:=by simpa using hb
  subst e
  exact I1.fpOk (Nat.le_refl _) (I1.hok.fresh (Nat.le_refl _))
def q2x(ta:TA):TI:=fun σ H R=>ta σ H fun vs H1=>∃j:Int,vs=[.int j]/\-(2 ^ 62)<=j/\j < 2 ^ 62/\R (Itr 0 j.toNat) H1
def q0h(ta:TA):TI:=fun σ H R=>ta σ H fun vs H1=>∃i j:Int,vs=[.int i,.int j]/\(-(2 ^ 62)<=i/\i < 2 ^ 62/\-(2 ^ 62)<=j/\j < 2 ^ 62)/\R (Itr i (j - i).toNat) H1
theorem zi1{a:Expr}{ta:TA}{p pos:Pos} (hg:Gl X "range") (hm:X.mg "range" = none) (ha:PA X [a] ta) (hs:starEach [a] X.env=[(false,eval a X.env)]:=by rfl):PI X tg (.Call (.Name "range" p) [a] [] pos) (q2x ta):=by
 intro pins s σ H R I h
 refine Call_ (zig I hg hm boot_range (PyProof.Rows.callWith_type1 (thn (ha pos pins s σ H _ I h) fun us s1 ⟨vs,H1,I1,r1,q1⟩=>?_) hs rfl))
 obtain⟨j,e,q1,q2,q⟩:=q1
 subst e
 cases r1 with
 | cons r rr=>
  cases rr
  obtain⟨t,rfl⟩:=r
  exact call_range_1 (zqj I1 (by omega) (by omega) q1 q2 (by simpa using q))
theorem zmj{a b:Expr}{ta:TA}{p pos:Pos} (hg:Gl X "range") (hm:X.mg "range" = none) (ha:PA X [a,b] ta) (hs:starEach [a,b] X.env=[(false,eval a X.env),(false,eval b X.env)]:=by rfl) (hs2:starEach [b] X.env=[(false,eval b X.env)]:=by rfl) :
  PI X tg (.Call (.Name "range" p) [a,b] [] pos) (q0h ta):=by
 intro pins s σ H R I h
 refine Call_ (zig I hg hm boot_range (PyProof.Rows.callWith_type1 (thn (ha pos pins s σ H _ I h) fun us s1 ⟨vs,H1,I1,r1,q1⟩=>?_) (by rw [hs,hs2]) (by rw [hs2]; rfl)))
 obtain⟨i,j,e,⟨q1,q2,q3,q4⟩,q⟩:=q1
 subst e
 cases r1 with
 | cons r rr=>
  cases rr with
  | cons r' rr=>
   cases rr
   obtain⟨t,rfl⟩:=r
   obtain⟨t',rfl⟩:=r'
   exact call_range_2 (zqj I1 q1 q2 q3 q4 q)
def zwq(wi:TI)(g:TG)(tb:TS):TS:=fun D σ H=>wi σ H fun J H1=>∃W:Nat->Nat->St->Hp->Prop,(∃m,W 0 m σ H1)/\∀i m σ H,W i m σ H->
 (J.stop i H/\D.nx σ H)\/(J.go i H/\∃N:St->Hp->Prop,(∀ σ' H',N σ' H'->∃m',m' < m/\W (i+1) m' σ' H')/\∀x H',J.yld i H x H'->g x σ H' fun σ2 H2=>tb {D with nx:=N,ct:=N,bk:=D.nx} σ2 H2)
def zmi(fp:List Addr)(h:Heap):List (Addr×Obj):=fp.filterMap fun b=>(h.get? b).map fun o=>(b,o)
theorem zcu{fp:List Addr}{h:Heap}{b:Addr}{o:Obj}(hb:b∈fp)(e:h.get? b=some o):(b,o)∈zmi fp h:=List.mem_filterMap.mpr ⟨b,hb,by rw [e]; rfl⟩
theorem zum{fp:List Addr}{h:Heap}{p:Addr×Obj}(hp:p∈zmi fp h):p.1∈fp/\h.get? p.1=some p.2:=by
 obtain⟨b,hb,e⟩:=List.mem_filterMap.mp hp
 cases q:h.get? b with
 | none=>rw [q] at e; cases e
 | some o=>
  rw [q] at e
  have e':(b,o)=p:=Option.some.inj e
  subst e'
  exact⟨hb,q⟩
theorem Inv.pinned{pins:List (Addr×Obj)}{σ : St}{H:Hp}{s:Shared}{fp:List Addr}(I:Inv X pins σ H s)(hf:∀b∈fp,FpOk X pins H b)(ho:∀b∈fp,∃o,s.heap.get? b=some o/\∀v,o.data≠.cell v):Inv X (pins++zmi fp s.heap) σ H s:=
 I.pins_of fun p hp=>(List.mem_append.mp hp).elim (fun z=>I.pin p (List.mem_append_right _ z)) fun z=>by
  obtain⟨hb,e⟩:=zum z
  obtain⟨f0,f1,f2,_⟩:=hf p.1 hb
  obtain⟨o,e',d⟩:=ho p.1 hb
  rw [e] at e'; cases e'
  exact⟨e,f0,f1,f2,d⟩
theorem Inv.unpinned{pins pl:List (Addr×Obj)}{σ : St}{H:Hp}{s:Shared}(I:Inv X (pins++pl) σ H s):Inv X pins σ H s:=I.pins_of fun p hp=>I.pin p (List.mem_append_right _ (List.mem_append_left _ hp))
theorem zbz{iter:Expr}{body:List Stmt}{wi:TI}{g:TG}{tb:TS}{pos:Pos}(hp:PassesOwn (model X.prog X.w) X.A X.env X.xe)(hc:X.calm=true)(hi:PI X tg iter wi)(hg:PG X tg g)(hb:PSs X body tb)
  (hs:∀x,foldedSetIterable iter X.env x=pure x:=by intro _; rfl):PS X (.For tg iter body [] pos) (zwq wi g tb):=by
 intro pins s σ H D I h
 refine wpAny_For (thn (hi pins s σ H _ I h) fun v s1 h1=>thn h1 fun itv s2 h2=>?_) hs
 obtain⟨it,fp,tn,J,H2,e,I2,T,st2,f2,W,⟨m0,w0⟩,turn⟩:=h2
 subst e
 have stat:∀{H':Hp},(∀b∈fp,H' b=none)->∀b∈fp,FpOk X pins H' b:=fun hn b hb=>⟨hn b hb,(f2 b hb).2⟩
 refine codeAny_forLoop_any (fun n s'=>∃i σ' H',Inv X pins σ' H' s'/\tn i s'.heap/\(∀b∈fp,H' b=none)/\W i n σ' H') ?_ m0 ⟨0,σ,H2,I2,st2,fun b hb=>(f2 b hb).1,w0⟩
 rintro n s3 ⟨i,σ3,H3,I3,st3,fr3,w3⟩
 rcases turn i n σ3 H3 w3 with⟨stop,qn⟩ | ⟨go,N,hN,step⟩
 ·refine wpAny_passesOwn hp (thn (T.done X rfl rfl rfl hc i pins s3 σ3 H3 X.xe I3 (stat fr3) st3 stop) fun r s4 ⟨hr,I4⟩=>?_)
  subst hr
  exact wpAny_execs_nil ⟨σ3,H3,I4,qn⟩
 ·refine wpAny_passesOwn hp (thn (T.item X rfl rfl rfl hc i pins s3 σ3 H3 X.xe I3 (stat fr3) st3 go) fun r s4 ⟨u,hr,h4⟩=>?_)
  subst hr
  refine wpAny_passesOwn hp (thn h4 fun _ s5 ⟨x,H5,I5,r5,y5,st5,fr5⟩=>?_)
  have I5':=I5.pinned (stat fr5) (T.obj _ _ st5)
  refine wpAny_passesOwn hp (thn (hg _ s5 σ3 H5 x u _ I5' r5 (step x H5 y5)) fun _ s6 ⟨σ6,H6,I6,q6⟩=>?_)
  refine wpAny_passesOwn hp (thn (hb _ s6 σ6 H6 _ I6 q6) fun f s7 q7=>?_)
  have again:∀{σ7:St} {H7:Hp},Inv X (pins++zmi fp s5.heap) σ7 H7 s7->N σ7 H7->∃m,m < n/\∃i σ' H',Inv X pins σ' H' s7/\tn i s7.heap/\(∀b∈fp,H' b=none)/\W i m σ' H':=fun {σ7 H7} I7 n7=>by
   obtain⟨m',hm,w7⟩:=hN σ7 H7 n7
   refine⟨m',hm,i+1,σ7,H7,I7.unpinned,T.keep _ _ _ st5 fun b hb o e=>(I7.pin (b,o) (List.mem_append_right _ (List.mem_append_right _ (zcu hb e)))).1,fun b hb=>?_,w7⟩
   obtain⟨o,e,d⟩:=T.obj _ _ st5 b hb
   exact(I7.pin (b,o) (List.mem_append_right _ (List.mem_append_right _ (zcu hb e)))).2.1
  cases f with
  | next=>obtain⟨σ7,H7,I7,n7⟩:=q7; exact again I7 n7
  | cont=>obtain⟨σ7,H7,I7,n7⟩:=q7; exact again I7 n7
  | brk=>obtain⟨σ7,H7,I7,q7⟩:=q7; exact⟨σ7,H7,I7.unpinned,q7⟩
  | ret v=>obtain⟨x7,σ7,H7,I7,r7,q7⟩:=q7; exact⟨x7,σ7,H7,I7.unpinned,r7,q7⟩
end
theorem zr1{K:PySem.W.Frag}{a:Addr}{xs:List V}{g:TG}{tb:TS}{D:Ends}{σ : St}{H:Hp}(Pv:Nat->St->Hp->Prop)(h0:Pv 0 σ H)(hl:∀i σ H,i<=xs.length->Pv i σ H->SqL K H a xs)
  (hs:∀i x σ H,xs[i]?=some x->Pv i σ H->g x σ H fun σ2 H2=>tb {D with nx:=Pv (i+1),ct:=Pv (i+1),bk:=D.nx} σ2 H2) (hd:∀ σ H,Pv xs.length σ H->D.nx σ H) :
  ∃W:Nat->Nat->St->Hp->Prop,(∃m,W 0 m σ H)/\∀i m σ H,W i m σ H->
   ((Itl K a).stop i H/\D.nx σ H)\/((Itl K a).go i H/\∃N:St->Hp->Prop,(∀ σ' H',N σ' H'->∃m',m' < m/\W (i+1) m' σ' H')/\∀x H',(Itl K a).yld i H x H'->g x σ H' fun σ2 H2=>tb {D with nx:=N,ct:=N,bk:=D.nx} σ2 H2):=by
 refine⟨fun i m σ H=>m=xs.length - i/\i<=xs.length/\Pv i σ H,⟨xs.length,by simp,Nat.zero_le _,h0⟩,?_⟩
 rintro i m σ H ⟨rfl,hi,p⟩
 have q:=hl i σ H hi p
 by_cases hlt:i < xs.length
 ·refine .inr ⟨⟨xs,xs[i],q,by simp[hlt]⟩,Pv (i+1),fun σ' H' p'=>⟨xs.length - (i+1),by omega,rfl,hlt,p'⟩,fun x H' y=>?_⟩
  obtain⟨e,y⟩:=y
  subst e
  exact hs i x σ _ (y xs q) p
 ·have e:i=xs.length:=by omega
  subst e
  exact .inl ⟨⟨xs,q,Nat.le_refl _⟩,hd σ H p⟩
theorem zcg{lo:Int}{n:Nat}{g:TG}{tb:TS}{D:Ends}{σ : St}{H:Hp}(Pv:Nat->St->Hp->Prop)(h0:Pv 0 σ H)
  (hs:∀i σ H,i < n->Pv i σ H->g (.int (lo+i)) σ H fun σ2 H2=>tb {D with nx:=Pv (i+1),ct:=Pv (i+1),bk:=D.nx} σ2 H2) (hd:∀ σ H,Pv n σ H->D.nx σ H) :
  ∃W:Nat->Nat->St->Hp->Prop,(∃m,W 0 m σ H)/\∀i m σ H,W i m σ H->
   ((Itr lo n).stop i H/\D.nx σ H)\/((Itr lo n).go i H/\∃N:St->Hp->Prop,(∀ σ' H',N σ' H'->∃m',m' < m/\W (i+1) m' σ' H')/\∀x H',(Itr lo n).yld i H x H'->g x σ H' fun σ2 H2=>tb {D with nx:=N,ct:=N,bk:=D.nx} σ2 H2):=by
 refine⟨fun i m σ H=>m=n - i/\i<=n/\Pv i σ H,⟨n,by simp,Nat.zero_le _,h0⟩,?_⟩
 rintro i m σ H ⟨rfl,hi,p⟩
 by_cases hlt:i < n
 ·refine .inr ⟨hlt,Pv (i+1),fun σ' H' p'=>⟨n - (i+1),by omega,rfl,hlt,p'⟩,fun x H' y=>?_⟩
  obtain⟨e,y⟩:=y
  subst e y
  exact hs i σ _ hlt p
 ·have e:i=n:=by omega
  subst e
  exact .inl ⟨Nat.le_refl _,hd σ H p⟩
end L2
namespace L2
open PySem PySem.Spec PyProof.Rows
abbrev R2:=V->V->Hp->VK->Prop
def OpR(X:Cx)(f:Value->Value->Sem Value)(r:R2):Prop:=
 ∀(pins:List (Addr×Obj)) (s:Shared) (σ : St) (H:Hp) (x y:V) (v u:Value) (Q:VK),Inv X pins σ H s->RelV x v->RelV y u->r x y H Q->
  wpAny (model X.prog X.w) X.A (f v u) (EP X pins σ Q) X.xe s
def UnR(X:Cx)(f:Value->Sem Value)(r:V->Hp->VK->Prop):Prop:=
 ∀(pins:List (Addr×Obj)) (s:Shared) (σ : St) (H:Hp) (x:V) (v:Value) (Q:VK),Inv X pins σ H s->RelV x v->r x H Q->
  wpAny (model X.prog X.w) X.A (f v) (EP X pins σ Q) X.xe s
def CallR(X:Cx)(f:Value)(r:List V->Hp->VK->Prop):Prop:=
 ∀(pins:List (Addr×Obj)) (s:Shared) (σ : St) (H:Hp) (xs:List V) (us:List Value) (Q:VK),Inv X pins σ H s->Vals xs us->r xs H Q->
  wpAny (model X.prog X.w) X.A (call f us) (EP X pins σ Q) X.xe s
def tOp(r:R2)(ta tb:TE):TE:=fun σ H Q=>ta σ H fun x H1=>tb σ H1 fun y H2=>r x y H2 Q
def tUn(r:V->Hp->VK->Prop)(ta:TE):TE:=fun σ H Q=>ta σ H fun x H1=>r x H1 Q
def rI(C:Int->Int->Prop)(g:Int->Int->V):R2:=fun x y H Q=>∃i j,x=.int i/\y=.int j/\C i j/\Q (g i j) H
def rI0(g:Int->Int->V):R2:=fun x y H Q=>∃i j,x=.int i/\y=.int j/\Q (g i j) H
def rU(g:Int->V):V->Hp->VK->Prop:=fun x H Q=>∃i,x=.int i/\Q (g i) H
section
variable{X:Cx}{a b c:Expr}{ta tb tc:TE}{pos:Pos}
theorem q4i(ha:PE X a ta)(hb:PE X b tb){pins:List (Addr×Obj)}{s:Shared}{σ : St}{H:Hp}{R:V->V->Hp->Prop}(I:Inv X pins σ H s)
  (h:ta σ H fun x H1=>tb σ H1 fun y H2=>R x y H2) {Q:Value->Shared->Prop} {f:Value->Value->Sem Value}
  (hf:∀v u s2 x y H2,Inv X pins σ H2 s2->RelV x v->RelV y u->R x y H2->wpAny (model X.prog X.w) X.A (f v u) Q X.xe s2) :
  wpAny (model X.prog X.w) X.A (eval a X.env) (fun v s₁=>wpAny (model X.prog X.w) X.A (eval b X.env) (fun u s₂=>wpAny (model X.prog X.w) X.A (f v u) Q X.xe s₂) X.xe s₁) X.xe s:=by
 refine thn (ha pins s σ H _ I h) fun v s1 ⟨x,H1,I1,r1,q1⟩=>?_
 refine thn (hb pins s1 σ H1 _ I1 q1) fun u s2 ⟨y,H2,I2,r2,q2⟩=>?_
 exact hf v u s2 x y H2 I2 r1 r2 q2
theorem z0o{op:Operator}{r:R2}(ho:OpR X (binaryOp op) r)(ha:PE X a ta)(hb:PE X b tb):PE X (.BinOp a op b pos) (tOp r ta tb):=by
 intro pins s σ H Q I h
 exact wpAny_BinOp (q4i ha hb I h fun v u s2 x y H2 I2 rx ry q=>ho pins s2 σ H2 x y v u Q I2 rx ry q)
theorem zp9{op:UnaryOp}{r:V->Hp->VK->Prop}(ho:UnR X (unaryOp op) r)(ha:PE X a ta):PE X (.UnaryOp op a pos) (tUn r ta):=by
 intro pins s σ H Q I h
 exact UnaryOp_ (thn (ha pins s σ H _ I h) fun v s1 ⟨x,H1,I1,r1,q1⟩=>ho pins s1 σ H1 x v Q I1 r1 q1)
theorem opI{f:Value->Value->Sem Value}{C:Int->Int->Prop}{g:Int->Int->Int}
  (rule:∀(i j:Int) (t u:Tok) (s:Shared) (Q:Value->Shared->Prop) (E:Value->Shared->Prop),C i j->Q (.int (g i j) s.toks) {s with toks:=s.toks+1}->wpAny (model X.prog X.w) X.A (f (.int i t) (.int j u)) Q E s) :
  OpR X f (rI C fun i j=>.int (g i j)):=by
 intro pins s σ H x y v u Q I rx ry h
 obtain⟨i,j,rfl,rfl,hc,q⟩:=h
 obtain⟨t,rfl⟩:=rx
 obtain⟨t',rfl⟩:=ry
 exact rule i j t t' s _ _ hc ⟨.int (g i j),H,I.tok _,⟨_,rfl⟩,q⟩
theorem q4v{f:Value->Value->Sem Value}{g:Int->Int->Int}
  (rule:∀(i j:Int) (t u:Tok) (s:Shared) (Q:Value->Shared->Prop) (E:Value->Shared->Prop),Q (.int (g i j) s.toks) {s with toks:=s.toks+1}->wpAny (model X.prog X.w) X.A (f (.int i t) (.int j u)) Q E s) :
  OpR X f (rI0 fun i j=>.int (g i j)):=by
 intro pins s σ H x y v u Q I rx ry h
 obtain⟨i,j,rfl,rfl,q⟩:=h
 obtain⟨t,rfl⟩:=rx
 obtain⟨t',rfl⟩:=ry
 exact rule i j t t' s _ _ ⟨.int (g i j),H,I.tok _,⟨_,rfl⟩,q⟩
theorem q42{f:Value->Value->Sem Value}{g:Int->Int->Bool}
  (rule:∀(i j:Int) (t u:Tok) (s:Shared) (Q:Value->Shared->Prop) (E:Value->Shared->Prop),Q (.bool (g i j)) s->wpAny (model X.prog X.w) X.A (f (.int i t) (.int j u)) Q E s) :
  OpR X f (rI0 fun i j=>.bl (g i j)):=by
 intro pins s σ H x y v u Q I rx ry h
 obtain⟨i,j,rfl,rfl,q⟩:=h
 obtain⟨t,rfl⟩:=rx
 obtain⟨t',rfl⟩:=ry
 exact rule i j t t' s _ _ ⟨.bl (g i j),H,I,rfl,q⟩
def q60(i j:Int):Prop:=0 < j/\j < 1073741824
def q3x(i j:Int):Prop:=j≠0/\j.natAbs < 1073741824
def CMul(i j:Int):Prop:=(-(2 ^ 64) < i/\i < 2 ^ 64)\/(-(2 ^ 64) < j/\j < 2 ^ 64)
theorem CMul.ok{i j:Int}(h:CMul i j):IntMulOk i j:=by
 rcases h with⟨h1,h2⟩ | ⟨h1,h2⟩
 ·exact .of_left (intBits_le_64 h1 h2)
 ·exact .of_right (intBits_le_64 h1 h2)
theorem z1h:OpR X (binaryOp .Add) (rI0 fun i j=>.int (i+j)):=q4v fun _ _ _ _ _ _ _ q=>add_int q
theorem z8d:OpR X (binaryOp .Sub) (rI0 fun i j=>.int (i - j)):=q4v fun _ _ _ _ _ _ _ q=>sub_int q
theorem zc0:OpR X (binaryOp .Mult) (rI CMul fun i j=>.int (i * j)):=opI fun _ _ _ _ _ _ _ hc q=>mul_int q hc.ok
theorem q03:OpR X (binaryOp .FloorDiv) (rI q60 fun i j=>.int (i / j)):=opI fun i j _ _ _ _ _ hc q=>by
 have h1:(0:Int) < j:=hc.1
 have h2:j < 1073741824:=hc.2
 exact floordiv_int (by omega) (by rw [Int.fdiv_eq_ediv_of_nonneg i (by omega)]; exact q) (.inl (PyProof.noPylong_small (by omega)))
theorem zhd:OpR X (binaryOp .FloorDiv) (rI q3x fun i j=>.int (i.fdiv j)):=opI fun _ _ _ _ _ _ _ hc q=>floordiv_int hc.1 q (.inl (PyProof.noPylong_small hc.2))
theorem zk1:OpR X (binaryOp .Mod) (rI (fun _ j=>0 < j) fun i j=>.int (i % j)):=opI fun i j _ _ _ _ _ hc q=>by
 have h1:(0:Int) < j:=hc
 exact mod_int' (by omega) (by rw [Int.fmod_eq_emod_of_nonneg i (by omega)]; exact q)
theorem unI{f:Value->Sem Value}{g:Int->Int}
  (rule:∀(i:Int) (t:Tok) (s:Shared) (Q:Value->Shared->Prop) (E:Value->Shared->Prop),Q (.int (g i) s.toks) {s with toks:=s.toks+1}->wpAny (model X.prog X.w) X.A (f (.int i t)) Q E s) :
  UnR X f (rU fun i=>.int (g i)):=by
 intro pins s σ H x v Q I rx h
 obtain⟨i,rfl,q⟩:=h
 obtain⟨t,rfl⟩:=rx
 exact rule i t s _ _ ⟨.int (g i),H,I.tok _,⟨_,rfl⟩,q⟩
theorem zhl:UnR X (unaryOp .USub) (rU fun i=>.int (-i)):=unI fun _ _ _ _ _ q=>neg_int q
end
def q40:V->V->Bool
 | .non,.non=>true | .non,.int _=>true | .int _,.non=>true | .non,.bl _=>true | .bl _,.non=>true | .non,.str _=>true | .str _,.non=>true
 | .int _,.int _=>true | .bl _,.bl _=>true | .str _,.str _=>true | .byt _,.byt _=>true
 | .int _,.str _=>true | .str _,.int _=>true | .bl _,.str _=>true | .str _,.bl _=>true
 | _,_=>false
def rEq:R2:=fun x y H Q=>q40 x y=true/\Q (.bl (decide (x=y))) H
def rNe:R2:=fun x y H Q=>q40 x y=true/\Q (.bl (!decide (x=y))) H
theorem zvr{i j:Int}:decide (V.int i=V.int j)=(i == j):=by
 rw [Bool.eq_iff_iff]
 simp
theorem zyz{i j:Bool}:decide (V.bl i=V.bl j)=(i == j):=by
 rw [Bool.eq_iff_iff]
 simp
theorem zvq{i j:Str}:decide (V.str i=V.str j)=(i == j):=by
 rw [Bool.eq_iff_iff]
 simp
theorem zvs{i j:Array UInt8}:decide (V.byt i=V.byt j)=(i.toList == j.toList):=by
 rw [Bool.eq_iff_iff]
 cases i
 cases j
 simp
section
variable{X:Cx}{a b c:Expr}{ta tb tc:TE}{pos:Pos}
theorem z2z{pins:List (Addr×Obj)}{σ : St}{H:Hp}{s:Shared}{Q:VK}{k k':Bool}(I:Inv X pins σ H s)(q:Q (.bl k) H)(e:k=k'):EP X pins σ Q (.bool k') s:=by
 subst e
 exact⟨.bl k,H,I,rfl,q⟩
theorem q2f:OpR X (compareOp .Eq) rEq:=by
 intro pins s σ H x y v u Q I rx ry h
 obtain⟨hs,q⟩:=h
 cases x with
 | non=>
  cases rx
  cases y with
  | non=>cases ry; exact PySem.EqNone.eq_none_none (z2z I q (by simp))
  | bl j=>cases ry; exact PySem.EqNone.eq_none_bool (z2z I q (by simp))
  | int j=>obtain⟨t',rfl⟩:=ry; exact PySem.EqNone.eq_none_int (z2z I q (by simp))
  | str j=>obtain⟨t',rfl⟩:=ry; exact PySem.EqNone.eq_none_str (z2z I q (by simp))
  | _=>exact absurd (show false=true from hs) Bool.false_ne_true
 | bl i=>
  cases rx
  cases y with
  | non=>cases ry; exact PySem.EqNone.eq_bool_none (z2z I q (by simp))
  | bl j=>cases ry; exact eq_bool (z2z I q zyz)
  | str j=>obtain⟨t',rfl⟩:=ry; exact PySem.EqMixed.eq_bool_str (z2z I q (by simp))
  | _=>exact absurd (show false=true from hs) Bool.false_ne_true
 | int i=>
  obtain⟨t,rfl⟩:=rx
  cases y with
  | non=>cases ry; exact PySem.EqNone.eq_int_none (z2z I q (by simp))
  | int j=>obtain⟨t',rfl⟩:=ry; exact eq_int (z2z I q zvr)
  | str j=>obtain⟨t',rfl⟩:=ry; exact PySem.EqMixed.eq_int_str (z2z I q (by simp))
  | _=>exact absurd (show false=true from hs) Bool.false_ne_true
 | str i=>
  obtain⟨t,rfl⟩:=rx
  cases y with
  | non=>cases ry; exact PySem.EqNone.eq_str_none (z2z I q (by simp))
  | bl j=>cases ry; exact PySem.EqMixed.eq_str_bool (z2z I q (by simp))
  | int j=>obtain⟨t',rfl⟩:=ry; exact PySem.EqMixed.eq_str_int (z2z I q (by simp))
  | str j=>obtain⟨t',rfl⟩:=ry; exact eq_str (z2z I q zvq)
  | _=>exact absurd (show false=true from hs) Bool.false_ne_true
 | byt i=>
  obtain⟨t,rfl⟩:=rx
  cases y with
  | byt j=>obtain⟨t',rfl⟩:=ry; exact PySem.W.eq_bytes (z2z I q zvs)
  | _=>exact absurd (show false=true from hs) Bool.false_ne_true
 | _=>cases y<;>exact absurd (show false=true from hs) Bool.false_ne_true
theorem q2a:OpR X (compareOp .NotEq) rNe:=by
 intro pins s σ H x y v u Q I rx ry h
 obtain⟨hs,q⟩:=h
 cases x with
 | non=>
  cases rx
  cases y with
  | non=>cases ry; exact PySem.EqNone.ne_none_none (z2z I q (by simp))
  | bl j=>cases ry; exact PySem.EqNone.ne_none_bool (z2z I q (by simp))
  | int j=>obtain⟨t',rfl⟩:=ry; exact PySem.EqNone.ne_none_int (z2z I q (by simp))
  | str j=>obtain⟨t',rfl⟩:=ry; exact PySem.EqNone.ne_none_str (z2z I q (by simp))
  | _=>exact absurd (show false=true from hs) Bool.false_ne_true
 | bl i=>
  cases rx
  cases y with
  | non=>cases ry; exact PySem.EqNone.ne_bool_none (z2z I q (by simp))
  | bl j=>cases ry; exact ne_bool (z2z I q (congrArg not zyz))
  | str j=>obtain⟨t',rfl⟩:=ry; exact PySem.EqMixed.ne_bool_str (z2z I q (by simp))
  | _=>exact absurd (show false=true from hs) Bool.false_ne_true
 | int i=>
  obtain⟨t,rfl⟩:=rx
  cases y with
  | non=>cases ry; exact PySem.EqNone.ne_int_none (z2z I q (by simp))
  | int j=>obtain⟨t',rfl⟩:=ry; exact ne_int (z2z I q (congrArg not zvr))
  | str j=>obtain⟨t',rfl⟩:=ry; exact PySem.EqMixed.ne_int_str (z2z I q (by simp))
  | _=>exact absurd (show false=true from hs) Bool.false_ne_true
 | str i=>
  obtain⟨t,rfl⟩:=rx
  cases y with
  | non=>cases ry; exact PySem.EqNone.ne_str_none (z2z I q (by simp))
  | bl j=>cases ry; exact PySem.EqMixed.ne_str_bool (z2z I q (by simp))
  | int j=>obtain⟨t',rfl⟩:=ry; exact PySem.EqMixed.ne_str_int (z2z I q (by simp))
  | str j=>obtain⟨t',rfl⟩:=ry; exact ne_str (z2z I q (congrArg not zvq))
  | _=>exact absurd (show false=true from hs) Bool.false_ne_true
 | byt i=>
  obtain⟨t,rfl⟩:=rx
  cases y with
  | byt j=>obtain⟨t',rfl⟩:=ry; exact PySem.W.ne_bytes (z2z I q (congrArg not zvs))
  | _=>exact absurd (show false=true from hs) Bool.false_ne_true
 | _=>cases y<;>exact absurd (show false=true from hs) Bool.false_ne_true
theorem zpe:OpR X (compareOp .Lt) (rI0 fun i j=>.bl (decide (i < j))):=q42 fun _ _ _ _ _ _ _ q=>lt_int q
theorem q2b:OpR X (compareOp .LtE) (rI0 fun i j=>.bl (decide (i<=j))):=q42 fun _ _ _ _ _ _ _ q=>le_int q
theorem q2d:OpR X (compareOp .Gt) (rI0 fun i j=>.bl (decide (j < i))):=q42 fun _ _ _ _ _ _ _ q=>gt_int q
theorem q4e:OpR X (compareOp .GtE) (rI0 fun i j=>.bl (decide (j<=i))):=q42 fun _ _ _ _ _ _ _ q=>ge_int q
theorem zuf:OpR X (compareOp .In) (fun x y H Q=>∃i j,x=.str i/\y=.str j/\Q (.bl (!(Builtin.Str.occurrences j i 0 j.length 1).isEmpty)) H):=by
 intro pins s σ H x y v u Q I rx ry h
 obtain⟨i,j,rfl,rfl,q⟩:=h
 obtain⟨t,rfl⟩:=rx
 obtain⟨t',rfl⟩:=ry
 exact in_str (z2z I q rfl)
theorem q2c:OpR X (compareOp .Is) (fun x y H Q=>y=.non/\Q (.bl (decide (x=.non))) H):=by
 intro pins s σ H x y v u Q I rx ry h
 obtain⟨rfl,q⟩:=h
 cases ry
 refine is_none_gen (z2z I q ?_)
 cases x<;>first
  | (cases rx; rfl)
  | (obtain⟨t,rfl⟩:=rx; rfl)
theorem q00:OpR X (compareOp .IsNot) (fun x y H Q=>y=.non/\Q (.bl (!decide (x=.non))) H):=by
 intro pins s σ H x y v u Q I rx ry h
 obtain⟨rfl,q⟩:=h
 cases ry
 refine isnot_none_gen (z2z I q ?_)
 cases x<;>first
  | (cases rx; rfl)
  | (obtain⟨t,rfl⟩:=rx; rfl)
theorem OpR.or{f:Value->Value->Sem Value}{r r':R2}(h:OpR X f r)(h':OpR X f r'):OpR X f (fun x y H Q=>r x y H Q\/r' x y H Q):=by
 intro pins s σ H x y v u Q I rx ry q
 rcases q with q | q
 ·exact h pins s σ H x y v u Q I rx ry q
 ·exact h' pins s σ H x y v u Q I rx ry q
theorem z0m(b:Expr){op:CmpOp}(h:op≠.In:=by decide)(h2:op≠.NotIn:=by decide):behindInMarks op b=false:=by
 have e1:(op == CmpOp.In)=false:=by cases op<;>first | rfl | exact absurd rfl h
 have e2:(op == CmpOp.NotIn)=false:=by cases op<;>first | rfl | exact absurd rfl h2
 cases b<;>simp[behindInMarks,e1,e2]
theorem zkz{op:CmpOp}{r:R2}(ho:OpR X (compareOp op) r)(ha:PE X a ta)(hb:PE X b tb)(hm:behindInMarks op b=false):PE X (.Compare a [op] [b] pos) (tOp r ta tb):=by
 intro pins s σ H Q I h
 exact wpAny_Compare1 (q4i ha hb I h fun v u s2 x y H2 I2 rx ry q=>ho pins s2 σ H2 x y v u Q I2 rx ry q) hm
def zoh(t:TE):TT:=fun σ H Q=>t σ H fun x H'=>∃k,x=.bl k/\Q k H'
theorem z0f{op:CmpOp}{r:R2}(ho:OpR X (compareOp op) r)(ha:PE X a ta)(hb:PE X b tb)(hm:behindInMarks op b=false):PT X (.Compare a [op] [b] pos) (zoh (tOp r ta tb)):=by
 intro pins s σ H Q I h
 refine wpAny_isTrue_Compare1 (thn (ha pins s σ H _ I h) fun v s1 ⟨x,H1,I1,r1,q1⟩=>thn (hb pins s1 σ H1 _ I1 q1) fun u s2 ⟨y,H2,I2,r2,q2⟩=>
  thn (ho pins s2 σ H2 x y v u _ I2 r1 r2 q2) fun c s3 ⟨z,H3,I3,r3,k,e,q3⟩=>?_) hm
 subst e
 cases r3
 exact wpAny_truthy_bool ⟨H3,I3,q3⟩
def zjr(r r':R2)(ta tb tc:TE):TE:=fun σ H Q=>ta σ H fun x H1=>tb σ H1 fun y H2=>r x y H2 fun z H3=>∃k,z=.bl k/\
 (if k=true then tc σ H3 fun w' H4=>r' y w' H4 Q else Q (.bl false) H3)
theorem zqv:(sizeLine:Nat) < 2 ^ 63:=by rw [sizeLine_eq]; decide
theorem zz3{x:V}{us:List Value}(r:Vals [x] us):∃u,us=[u]/\RelV x u:=by
 cases r with
 | cons r1 r2=>cases r2; exact⟨_,rfl,r1⟩
theorem q1q{x y:V}{us:List Value}(r:Vals [x,y] us):∃u w',us=[u,w']/\RelV x u/\RelV y w':=by
 cases r with
 | cons r1 r2=>
  cases r2 with
  | cons r3 r4=>cases r4; exact⟨_,_,rfl,r1,r3⟩
theorem zwa(hc:X.calm=true):CallR X (.builtin "max") (fun xs H Q=>∃i j,xs=[.int i,.int j]/\Q (.int (if j > i then j else i)) H):=by
 intro pins s σ H xs us Q I r h
 obtain⟨i,j,rfl,q⟩:=h
 obtain⟨u,w',rfl,⟨t,rfl⟩,⟨t',rfl⟩⟩:=q1q r
 refine max_two_ints (I.ok.hd hc) fun h' tk k=>⟨_,H,I.kept k,?_,q⟩
 by_cases hj:j > i
 ·rw [if_pos hj,if_pos hj]; exact⟨_,rfl⟩
 ·rw [if_neg hj,if_neg hj]; exact⟨_,rfl⟩
theorem zw9(hc:X.calm=true):CallR X (.builtin "min") (fun xs H Q=>∃i j,xs=[.int i,.int j]/\Q (.int (if j < i then j else i)) H):=by
 intro pins s σ H xs us Q I r h
 obtain⟨i,j,rfl,q⟩:=h
 obtain⟨u,w',rfl,⟨t,rfl⟩,⟨t',rfl⟩⟩:=q1q r
 refine min_two_ints (I.ok.hd hc) fun h' tk k=>⟨_,H,I.kept k,?_,q⟩
 by_cases hj:j < i
 ·rw [if_pos hj,if_pos hj]; exact⟨_,rfl⟩
 ·rw [if_neg hj,if_neg hj]; exact⟨_,rfl⟩
end
end L2
namespace L2
open PySem PySem.Spec PyProof.Rows
structure ObjM(h:Heap)(x dx C:Addr)(mA:Str->Option Value):Prop where
 obj:h.get? x=some (PySem.W.instObj C dx)
 ns:h.Ns1 dx mA
 ne:dx≠x
theorem zuu{h:Heap}{dx:Addr}{mA:Str->Option Value}(n:h.Ns1 dx mA):∃od,h.get? dx=some od/\∀name,PySem.W.lookIn name od=some (mA name):=by
 obtain⟨o,es,ep,ho,hd,hk,_,hm⟩:=n
 refine⟨o,ho,fun name=>?_⟩
 have e:=hm name
 unfold nsFind findBy at e
 rw [<- Array.find?_toList] at e
 unfold PySem.W.lookIn
 rw [hd]
 dsimp only
 split
 ·rename_i y q
  rw [q] at e
  exact congrArg some e
 ·rename_i q
  rw [q] at e
  have a:es.toList.any (·.refKey)=false:=by
   rw [List.any_eq_false]
   intro y hy
   obtain⟨z,t,hkey⟩:=hk y (Array.mem_toList_iff.mp hy)
   simp[DictEntry.refKey,hkey]
  have a':¬ es.toList.any (·.refKey)=true:=by rw [a]; exact Bool.false_ne_true
  rw [if_neg a']
  exact congrArg some e
theorem ObjM.look{h:Heap}{x dx C:Addr}{mA:Str->Option Value}(I:ObjM h x dx C mA):∃od,PySem.W.InstAt h x (PySem.W.instObj C dx) C (some od)/\∀name,PySem.W.lookIn name od=some (mA name):=
 let ⟨od,ho,hl⟩:=zuu I.ns
 ⟨od,⟨I.obj,rfl,rfl,ho⟩,hl⟩
section
variable{prog:Program}{w:World}{A:Around}{E:Value->Shared->Prop}{s:Shared}{K:PySem.W.Frag}{x dx C f:Addr}{mA:Str->Option Value}{name:Str}{v:Value}
theorem q0k{expr:Bool}{Q:Value->Shared->Prop}(X:K.In s.heap)(I:ObjM s.heap x dx C mA)(hg:PySem.W.plainGet K C name=true)(hh:PySem.W.hasDictIn K C=true)
  (ha:PySem.W.findIn K (.ref C) name=some none) (hv:mA name=some v) (hv':PySem.W.handedIn v=true) (h:Q v {s with toks:=s.toks+1}) :
  wpAny (model prog w) A (getAttr (.ref x) name expr) Q E s:=by
 obtain⟨od,J,hl⟩:=I.look
 exact PySem.W.get_value X J (PySem.W.plainGet_of hg).1 (PySem.W.findObj_own hh ha rfl (by rw [hl,hv])) hv' h
theorem zxp{pl:Sem Bool}{Q:Value×List Value->Shared->Prop}(X:K.In s.heap)(I:ObjM s.heap x dx C mA)(hg:PySem.W.plainGet K C name=true)
  (hf:PySem.W.findIn K (.ref C) name=some (some (.ref f))) (ht:PySem.W.isFn K (.ref f)=true) (hv:mA name=none) (h:Q (.ref f,[.ref x]) s) :
  wpAny (model prog w) A (getMethod (.ref x) name pl) Q E s:=by
 obtain⟨od,J,hl⟩:=I.look
 exact PySem.W.method_fn X J (PySem.W.plainGet_of hg).1 (PySem.W.plainGet_of hg).2 hf (beq_iff_eq.mp ht) (by show(PySem.W.lookIn name od).map (·.isSome)=some false; rw [hl,hv]; rfl) h
theorem zzf{ns:List Str}{Q:Unit->Shared->Prop}(X:K.In s.heap)(I:ObjM s.heap x dx C mA)
  (hs:PySem.W.findIn K (.ref C) "__setattr__" = some (some (.builtin "object.__setattr__"))) (hp:PySem.W.plainOver K C=true) (ht:PySem.W.takerIn K C name=some none) (hh:PySem.W.hasDictIn K C=true)
  (hw:PySem.Within mA ns) (hsz:ns.length<=sizeLine)
  (h:∀h',ObjM h' x dx C (fun y=>if y=name then some v else mA y)->Heap.SameBut dx s.heap h'->Q () {s with heap:=h',toks:=s.toks+2}) :
  wpAny (model prog w) A (setAttr (.ref x) name v) Q E s:=by
 obtain⟨od,J,hl⟩:=I.look
 refine PySem.W.set_plain X J hs (PySem.W.osa_open (s:={s with toks:=s.toks+1}) (r:=none) X J hp ht fun b=>?_)
 obtain⟨cd,hc,hd'⟩:=PySem.W.any_some hh
 have hx:s.heap.get? x=some ⟨.ref C,some dx,.plain,#[]⟩:=I.obj
 refine wpAny_bind (wpAny_pure (wpAny_bind (wpAny_bind (wpAny_loadPart hx (wpAny_bind (PySem.W.Looks.here (s:={s with toks:=s.toks+1}) (PySem.W.looks_clsIn X hc) ?_))))))
 rw [hd']
 refine wpAny_pure (a:=some dx) (wpAny_bind (wpAny_pure (wpAny_bind ?_)))
 refine wpAny_nsSet1 (s:={s with toks:=s.toks+1}) I.ns fun h' hn2 hs2=>?_
 obtain⟨oD,esD,epD,hoD,hdD,hcD⟩:=hn2.count (PySem.Within.cons name v hw)
 refine wpAny_bind (wpAny_lookBehind hoD (by rw [hdD]; exact pastItsLine_dict (Nat.le_trans hcD (by rw [List.length_cons]; omega))) ?_)
 exact wpAny_pure (h _ ⟨(hs2.2 _ (Ne.symm I.ne)).trans I.obj,hn2,I.ne⟩ hs2)
theorem zxe{R:Result->Shared->Prop}{vs:List Value}{kw:List (Str×Value)}(X:K.In s.heap)(hm:PySem.W.makesIn K C=true)
  (hi:PySem.W.findIn K (.ref C) "__init__" = some (some (.ref f))) (hf:PySem.W.typeIn K (.ref f)=some (.type "function"))
  (h:codeAny (model prog w) (A.under (.builtin "type.__call__" ⟨.ref C::vs,kw⟩)) (.call (.ref f) ⟨.ref (s.heap.objs.size+1)::vs,kw⟩) (PySem.W.InitBack (s.heap.objs.size+1) R)
   {s with heap:=(s.heap.push PySem.W.emptyDict).push (PySem.W.instObj C s.heap.objs.size)}) :
  codeAny (model prog w) A (.call (.ref C) ⟨vs,kw⟩) R s:=by
 obtain⟨hh,g,d,t,os⟩:=s
 exact PySem.W.make_core (PySem.W.makes_of X hm) (PySem.W.looks_findIn X hi) (fun self=>PySem.W.bind_fn X self hf) (.inl rfl) h
end
def z5d(f:Str)(v:V):List (Str×V)->List (Str×V)
 | []=>[(f,v)]
 | (g,x)::r=>if g=f then(g,v)::r else(g,x)::z5d f v r
theorem zib(f g:Str)(v:V):∀fs:List (Str×V),(z5d f v fs).lookup g=if g=f then some v else fs.lookup g
 | []=>by
  show List.lookup g [(f,v)]=_
  by_cases h:g=f
  ·have hb:(g == f)=true:=beq_iff_eq.mpr h
   simp only[List.lookup,hb,if_pos h]
  ·have hb:(g == f)=false:=beq_eq_false_iff_ne.mpr h
   simp only[List.lookup,hb,if_neg h]
 | (k,x)::r=>by
  have ih:=zib f g v r
  rw [show z5d f v ((k,x)::r)=(if k=f then(k,v)::r else(k,x)::z5d f v r) from rfl]
  by_cases hk:k=f
  ·rw [if_pos hk]
   by_cases h:g=k
   ·have hb:(g == k)=true:=beq_iff_eq.mpr h
    simp only[List.lookup,hb,if_pos (h.trans hk)]
   ·have hb:(g == k)=false:=beq_eq_false_iff_ne.mpr h
    simp only[List.lookup,hb,if_neg (fun e:g=f=>h (e.trans hk.symm))]
  ·rw [if_neg hk]
   by_cases h:g=k
   ·have hb:(g == k)=true:=beq_iff_eq.mpr h
    simp only[List.lookup,hb,if_neg (fun e:g=f=>hk (h.symm.trans e))]
   ·have hb:(g == k)=false:=beq_eq_false_iff_ne.mpr h
    simp only[List.lookup,hb]
    exact ih
theorem zih(f:Str)(v:V):∀fs:List (Str×V),f∈(z5d f v fs).map (·.1)/\∀g,g∈fs.map (·.1)->g∈(z5d f v fs).map (·.1)
 | []=>⟨by simp[z5d],fun g h=>by simp at h⟩
 | (k,x)::r=>by
  obtain⟨i1,i2⟩:=zih f v r
  rw [show z5d f v ((k,x)::r)=(if k=f then(k,v)::r else(k,x)::z5d f v r) from rfl]
  by_cases hk:k=f
  ·rw [if_pos hk]
   subst hk
   exact⟨by simp,fun g h=>by simpa using h⟩
  ·rw [if_neg hk]
   refine⟨?_,fun g h=>?_⟩
   ·rw [List.map_cons]
    exact List.mem_cons_of_mem _ i1
   ·rw [List.map_cons] at h |-
    rcases List.mem_cons.mp h with e | e
    ·exact List.mem_cons.mpr (.inl e)
    ·exact List.mem_cons_of_mem _ (i2 g e)
theorem zif(f:Str)(v:V):∀fs:List (Str×V),(z5d f v fs).length<=fs.length+1
 | []=>by simp[z5d]
 | (k,x)::r=>by
  have ih:=zif f v r
  rw [show z5d f v ((k,x)::r)=(if k=f then(k,v)::r else(k,x)::z5d f v r) from rfl]
  by_cases hk:k=f
  ·rw [if_pos hk,List.length_cons,List.length_cons]; omega
  ·rw [if_neg hk,List.length_cons,List.length_cons]; omega
theorem RelO.some_of{v:V}{o:Option Value}(r:RelO (some v) o):∃u,o=some u/\RelV v u:=by
 cases o with
 | none=>exact(show False from r).elim
 | some u=>exact⟨u,rfl,r⟩
theorem RelO.none_of{o:Option Value}(r:RelO none o):o=none:=by
 cases o with
 | none=>rfl
 | some u=>exact(show False from r).elim
theorem zvb{v:V}{u:Value}(r:RelV v u):PySem.W.handedIn u=true:=by
 cases v with
 | non=>cases (show u=Value.none from r); rfl
 | bl b=>cases (show u=Value.bool b from r); rfl
 | int i=>obtain⟨t,e⟩:=(show ∃t,u=Value.int i t from r); cases e; rfl
 | str x=>obtain⟨t,e⟩:=(show ∃t,u=Value.str x t from r); cases e; rfl
 | byt b=>obtain⟨t,e⟩:=(show ∃t,u=Value.bytes b t from r); cases e; rfl
 | flt b=>obtain⟨t,e⟩:=(show ∃t,u=Value.float b t from r); cases e; rfl
 | ref a=>cases (show u=Value.ref a from r); rfl
 | ty n=>cases (show u=Value.type n from r); rfl
section
variable{P:Program}{w:World}{H H':Hp}{h h':Heap}{a C dx:Addr}{fs fs':List (Str×V)}
theorem zlf(hok:HOk P w H h)(e:H a=some (.ins C dx fs)):∃mA,ObjM h a dx C mA/\(∀f,RelO (fs.lookup f) (mA f))/\PySem.Within mA (fs.map (·.1))/\fs.length<=1000/\H dx=some (.own a):=by
 obtain⟨d,z,ne,ob,mA,n,r,q⟩:=(show ObjOk P w H h a (.ins C dx fs) from hok a _ e)
 exact⟨mA,⟨ob,n,ne⟩,r,q,z,d⟩
end
structure Cls(K:PySem.W.Frag)(C:Addr):Prop where
 pg:PySem.W.plainGet K C Str.empty=true
 hd:PySem.W.hasDictIn K C=true
 po:PySem.W.plainOver K C=true
 sa:PySem.W.findIn K (.ref C) "__setattr__" = some (some (.builtin "object.__setattr__"))
theorem Cls.get{K:PySem.W.Frag}{C:Addr}(c:Cls K C)(f:Str):PySem.W.plainGet K C f=true:=c.pg
def NoAttr(K:PySem.W.Frag)(C:Addr)(f:Str):Prop:=PySem.W.findIn K (.ref C) f=some none
theorem NoAttr.taker{K:PySem.W.Frag}{C:Addr}{f:Str}(n:NoAttr K C f):PySem.W.takerIn K C f=some none:=by
 unfold PySem.W.takerIn
 rw [show PySem.W.findIn K (.ref C) f=some none from n]
 rfl
structure Con(K:PySem.W.Frag)(C:Addr)(f:Str)(v:V)(u:Value):Prop where
 at_:PySem.W.findIn K (.ref C) f=some (some u)
 rel:RelV v u
 get:PySem.W.specialIn K u "__get__" = some none
 cp:PySem.W.copiedNames.contains f=false
structure Meth(K:PySem.W.Frag)(C:Addr)(m:Str)(f:Addr):Prop where
 at_:PySem.W.findIn K (.ref C) m=some (some (.ref f))
 fn:PySem.W.isFn K (.ref f)=true
 kp:PySem.W.keepIn K (.ref f)=true
section
variable{X:Cx}{pins:List (Addr×Obj)}{σ : St}{H:Hp}{s:Shared}{a C dx:Addr}{fs:List (Str×V)}{f:Str}{v:V}{A:Around}{E:Value->Shared->Prop}
theorem zsx{b:Bool}{Q:Value->Shared->Prop}(I:Inv X pins σ H s)(e:H a=some (.ins C dx fs))(c:Cls X.K C)(n:NoAttr X.K C f)(l:fs.lookup f=some v)
  (h:∀u s',Inv X pins σ H s'->RelV v u->Q u s'):wpAny (model X.prog X.w) A (getAttr (.ref a) f b) Q E s:=by
 obtain⟨mA,O,r,_,_,_⟩:=zlf I.hok e
 obtain⟨u,hu,ru⟩:=RelO.some_of (v:=v) (o:=mA f) (by rw [<- l]; exact r f)
 exact q0k I.kIn O (c.get f) c.hd n hu (zvb ru) (h u _ (I.tok _) ru)
theorem zk6{m:Str}{g:Addr}{pl:Sem Bool}{Q:Value×List Value->Shared->Prop}(I:Inv X pins σ H s)(e:H a=some (.ins C dx fs))(c:Cls X.K C)(k:Meth X.K C m g)(l:fs.lookup m=none)
  (h:Q (.ref g,[.ref a]) s):wpAny (model X.prog X.w) A (getMethod (.ref a) m pl) Q E s:=by
 obtain⟨mA,O,r,_,_,_⟩:=zlf I.hok e
 have hn:mA m=none:=RelO.none_of (by rw [<- l]; exact r m)
 exact zxp I.kIn O (c.get m) k.at_ k.fn hn h
theorem zrz{y:V}{u:Value}{Q:Unit->Shared->Prop}(I:Inv X pins σ H s)(e:H a=some (.ins C dx fs))(c:Cls X.K C)(n:NoAttr X.K C f)(hl:fs.length < 1000)(ry:RelV y u)
  (h:∀s',Inv X pins σ (upd H a (.ins C dx (z5d f y fs))) s'->Q () s'):wpAny (model X.prog X.w) A (setAttr (.ref a) f u) Q E s:=by
 obtain⟨mA,O,r,wi,_,ho⟩:=zlf I.hok e
 have hz:(fs.map (·.1)).length<=sizeLine:=by rw [List.length_map,sizeLine_eq]; omega
 refine zzf I.kIn O c.sa c.po n.taker c.hd wi hz fun h' O' sb=>h _ ?_
 have hd:∃o,h'.get? dx=some o:=let ⟨o,_,_,e',_⟩:=O'.ns; ⟨o,e'⟩
 refine I.write (x:=a) (e:=dx) (by rw [e]; exact True.intro) (.inr ho) (fun b q hb z=>(sb.2 b hb).trans z) hd ?_
 refine⟨by rw [z0a O.ne]; exact ho,?_,O.ne,O'.obj,_,O'.ns,fun g=>?_,fun g hg=>?_⟩
 ·have:=zif f y fs; omega
 ·show RelO ((z5d f y fs).lookup g) (if g=f then some u else mA g)
  rw [zib]
  by_cases q:g=f
  ·rw [if_pos q,if_pos q]; exact ry
  ·rw [if_neg q,if_neg q]; exact r g
 ·by_cases q:g=f
  ·rw [q]; exact(zih f y fs).1
  ·refine(zih f y fs).2 g (wi g fun z=>hg ?_)
   show(if g=f then some u else mA g)=none
   rw [if_neg q]; exact z
theorem Inv.made(I:Inv X pins σ H s):Inv X pins σ (upd (upd H s.heap.objs.size (.own (s.heap.objs.size+1))) (s.heap.objs.size+1) (.ins C s.heap.objs.size []))
  {s with heap:=(s.heap.push PySem.W.emptyDict).push (PySem.W.instObj C s.heap.objs.size)}:=by
 have e1:(s.heap.push PySem.W.emptyDict).get? s.heap.objs.size=some PySem.W.emptyDict:=Heap.get?_push_size s.heap rfl
 have e2:((s.heap.push PySem.W.emptyDict).push (PySem.W.instObj C s.heap.objs.size)).get? (s.heap.objs.size+1)=some (PySem.W.instObj C s.heap.objs.size):=by
  have:=Heap.get?_push_size (s.heap.push PySem.W.emptyDict) (o:=PySem.W.instObj C s.heap.objs.size) rfl
  rwa [Heap.size_push] at this
 have e3:(s.heap.push PySem.W.emptyDict).Ns s.heap.objs.size (fun _=>none):=⟨PySem.W.emptyDict,#[],_,e1,rfl,(fun e he=>absurd he (by simp)),fun _=>rfl⟩
 have I1:=I.laid (a:=s.heap.objs.size) (o:=.own (s.heap.objs.size+1)) (h':=s.heap.push PySem.W.emptyDict) (t':=s.toks) (fun b u q=>Heap.get?_push_of_some _ q) (Nat.le_refl _) ⟨_,e1⟩
 refine I1.laid (a:=s.heap.objs.size+1) (o:=.ins C s.heap.objs.size []) (t':=s.toks) (fun b u q=>Heap.get?_push_of_some _ q) (Nat.le_of_eq (Heap.size_push _ _)) ?_
 have ne:s.heap.objs.size≠s.heap.objs.size+1:=Nat.ne_of_lt (Nat.lt_succ_self _)
 refine⟨by rw [z0a ne,z01],Nat.zero_le _,ne,e2,fun _=>none,(Heap.Ns1.of_empty e3).at fun o q=>Heap.get?_push_of_some _ q,fun _=>True.intro,fun y hy=>absurd rfl hy⟩
theorem q14{prog:Program}{w:World}{env:Env}{e:Expr}{f:Str}{pos:Pos}{s:Shared}{Q:Value->Shared->Prop}(hb:attributeBase e f env (eval e env)=eval e env)
  (h:wpAny (model prog w) A (eval e env) (fun o s₁=>wpAny (model prog w) A (getAttr o f true) Q E s₁) E s):wpAny (model prog w) A (eval (.Attribute e f pos) env) Q E s:=
 Attribute_any_ h (by rw [arm_eval_Attribute,hb])
end
def q3z(K:PySem.W.Frag)(ta:TE)(f:Str):TE:=fun σ H Q=>ta σ H fun x H1=>∃a C dx fs v,x=.ref a/\H1 a=some (.ins C dx fs)/\Cls K C/\NoAttr K C f/\fs.lookup f=some v/\Q v H1
def q41(K:PySem.W.Frag)(ta tv:TE)(f:Str):TS:=fun D σ H=>tv σ H fun y H1=>ta σ H1 fun x H2=>∃a C dx fs,x=.ref a/\H2 a=some (.ins C dx fs)/\Cls K C/\NoAttr K C f/\fs.length < 1000/\
 D.nx σ (upd H2 a (.ins C dx (z5d f y fs)))
section
variable{X:Cx}{o e value:Expr}{f:Str}{pos pos' tpos:Pos}{ta tv:TE}
theorem z3g(he:PE X e ta)(hb:attributeBase e f X.env (eval e X.env)=eval e X.env):PE X (.Attribute e f pos) (q3z X.K ta f):=by
 intro pins s σ H Q I h
 refine q14 hb (thn (he pins s σ H _ I h) fun u s1 ⟨x,H1,I1,rx,a,C,dx,fs,v,ex,ea,c,n,l,q⟩=>?_)
 subst ex
 obtain rfl:u=Value.ref a:=rx
 exact zsx I1 ea c n l fun u' s2 I2 ru=>⟨v,H1,I2,ru,q⟩
theorem z9q(ha:PE X o ta)(hv:PE X value tv)(hs:swapsWith value (some (.Attribute o f pos')) pos.line X.env=pure false):PS X (.Assign [.Attribute o f pos'] value pos) (q41 X.K ta tv f):=by
 intro pins s σ H D I h
 refine plainObj_wpAny_Assign_Attribute (thn (hv pins s σ H _ I h) fun u s1 ⟨y,H1,I1,ry,q⟩=>thn (ha pins s1 σ H1 _ I1 q) fun ov s2 ⟨x,H2,I2,rx,a,C,dx,fs,ex,ea,c,n,l,q2⟩=>?_) hs
 subst ex
 obtain rfl:ov=Value.ref a:=rx
 exact zrz I2 ea c n l ry fun s3 I3=>⟨σ,_,I3,q2⟩
end
section
variable{X:Cx}{pins:List (Addr×Obj)}{σ : St}{H:Hp}{s:Shared}{A:Around}{E:Value->Shared->Prop}{Q:Value->Shared->Prop}{c:Value}{b:Bool}
inductive TyOf (K:PySem.W.Frag) (H:Hp):V->Value->Prop where
 | non:TyOf K H .non (.type "NoneType")
 | bl (x:Bool):TyOf K H (.bl x) (.type "bool")
 | int (i:Int):TyOf K H (.int i) (.type "int")
 | str (x:Str):TyOf K H (.str x) (.type "str")
 | flt (x:UInt64):TyOf K H (.flt x) (.type "float")
 | lst {a:Addr} {xs:List V} (e:H a=some (.lst xs)):TyOf K H (.ref a) (.type "list")
 | frz {a:Addr} {o:Obj} {xs:List V} (e:H a=some (.frz o (.lst xs))):TyOf K H (.ref a) (.type "list")
 | tup {a:Addr} {xs:List V} (e:H a=some (.tup xs)):TyOf K H (.ref a) (.type "tuple")
 | dK {a:Addr} {kvs:List (Key×V)} (e:H a=some (.dK kvs)):TyOf K H (.ref a) (.type "dict")
 | dT {a:Addr} {kvs:List (List Key×V)} (e:H a=some (.dT kvs)):TyOf K H (.ref a) (.type "dict")
 | ins {a C dx:Addr} {fs:List (Str×V)} (e:H a=some (.ins C dx fs)) (cl:Cls K C) (ha:PySem.W.findIn K (.ref C) "__class__" = some (some (.builtin "object.__class__")))
   (hn:PySem.W.specialIn K (.builtin "object.__class__") "__get__" = some (some (.builtin "getset_descriptor.__get__"))) (htk:PySem.W.takesIn K (.builtin "object.__class__")=some true)
   (hm:PySem.W.mroIn K C (.type "object")=some true):TyOf K H (.ref a) (.ref C)
theorem zv4{x:V}{u t:Value}(I:Inv X pins σ H s)(rx:RelV x u)(ty:TyOf X.K H x t)(e:PySem.W.kitOne X.K t c=some b)(h:∀tk,Q (.bool b) {s with toks:=tk}) :
  wpAny (model X.prog X.w) A (call (.builtin "isinstance") [u,c]) Q E s:=by
 cases ty with
 | non=>cases (show u=Value.none from rx); exact PySem.W.kia_one PySem.W.kitx_none I.kIn True.intro e (fun z=>nomatch z) h
 | bl y=>cases (show u=Value.bool y from rx); exact PySem.W.kia_one PySem.W.kitx_bool I.kIn True.intro e (fun z=>nomatch z) h
 | int i=>obtain⟨t,q⟩:=(show ∃t,u=Value.int i t from rx); cases q; exact PySem.W.kia_one PySem.W.kitx_int I.kIn True.intro e (fun z=>nomatch z) h
 | str y=>obtain⟨t,q⟩:=(show ∃t,u=Value.str y t from rx); cases q; exact PySem.W.kia_one PySem.W.kitx_str I.kIn True.intro e (fun z=>nomatch z) h
 | flt y=>obtain⟨t,q⟩:=(show ∃t,u=Value.float y t from rx); cases q; exact PySem.W.kia_one PySem.W.kitx_float I.kIn True.intro e (fun z=>nomatch z) h
 | @lst a xs ea=>
  cases (show u=Value.ref a from rx)
  obtain⟨_,_,n,_,h1⟩:=(show ObjOk X.prog X.w H s.heap a (.lst xs) from I.hok a _ ea)
  exact PySem.W.kia_one PySem.W.kitx_list I.kIn ⟨_,h1,rfl⟩ e (fun z=>nomatch z) h
 | @frz a ob xs ea=>
  cases (show u=Value.ref a from rx)
  obtain⟨_,_,_,n,_,h1⟩:=(show ObjOk X.prog X.w H s.heap a (.frz ob (.lst xs)) from I.hok a _ ea)
  exact PySem.W.kia_one PySem.W.kitx_list I.kIn ⟨_,h1,rfl⟩ e (fun z=>nomatch z) h
 | @tup a xs ea=>
  cases (show u=Value.ref a from rx)
  obtain⟨_,_,_,p⟩:=(show ObjOk X.prog X.w H s.heap a (.tup xs) from I.hok a _ ea)
  obtain⟨o,h1,h2,_⟩:=p
  exact PySem.W.kia_one PySem.W.kitx_tuple I.kIn ⟨o,h1,h2⟩ e (fun z=>nomatch z) h
 | @dK a kvs ea=>
  cases (show u=Value.ref a from rx)
  obtain⟨_,_,vs,_,p⟩:=(show ObjOk X.prog X.w H s.heap a (.dK kvs) from I.hok a _ ea)
  obtain⟨o,es,ep,h1,h2,_⟩:=p
  exact PySem.W.kia_one PySem.W.kitx_dict I.kIn ⟨o,h1,h2.1⟩ e (fun z=>nomatch z) h
 | @dT a kvs ea=>
  cases (show u=Value.ref a from rx)
  obtain⟨_,_,xs,_,o,es,ep,h1,h2,_⟩:=(show ObjOk X.prog X.w H s.heap a (.dT kvs) from I.hok a _ ea)
  exact PySem.W.kia_one PySem.W.kitx_dict I.kIn ⟨o,h1,h2.1⟩ e (fun z=>nomatch z) h
 | @ins a C dx fs ea cl ha hn htk hm=>
  cases (show u=Value.ref a from rx)
  obtain⟨mA,O,_⟩:=zlf I.hok ea
  obtain⟨od,J,_⟩:=O.look
  exact PySem.W.kia_one (PySem.W.kitx_own (cl.get _) cl.hd ha hn htk hm) I.kIn J e (fun z=>nomatch z) h
end
end L2
namespace L2
open PySem PySem.Spec PyProof.Rows
structure Room(k:Nat)(A:Around):Prop where
 hd:A.handled=none
 dp:A.depth+3 * k+5 < recursionLimit
 un:A.units+16 * k+200 < cLine
theorem Room.mono{j k:Nat}{A:Around}(r:Room k A)(h:j<=k):Room j A:=⟨r.hd,by have:=r.dp; omega,by have:=r.un; omega⟩
theorem Room.deeper{k:Nat}{A:Around}(r:Room (k+1) A)(env:Env):Room k (A.deeper env):=
 ⟨r.hd,by have:=r.dp; show A.depth+1+3 * k+5 < _; omega,by have:=r.un; show A.units+3+16 * k+200 < _; omega⟩
theorem zsu{A:Around}{C:Addr}{us:List Value}{kw:List (Str×Value)}:(A.under (.builtin "type.__call__" ⟨.ref C::us,kw⟩)).depth=A.depth+1:=by
 first | rfl | simp[Around.under,Code.weight,Code.isCreation,Code.isGuard,Code.isCaller,Code.frames,Code.isFrame,guardIds]
theorem zst{A:Around}{C:Addr}{us:List Value}{kw:List (Str×Value)}:(A.under (.builtin "type.__call__" ⟨.ref C::us,kw⟩)).units=A.units+1:=by
 first | rfl | simp[Around.under,Code.cUnits,Code.frames,Code.isFrame]
theorem Room.make{k:Nat}{A:Around}(r:Room (k+1) A)(C:Addr)(us:List Value)(kw:List (Str×Value)):Room k (A.under (.builtin "type.__call__" ⟨.ref C::us,kw⟩)):=
 ⟨r.hd,by have:=r.dp; rw [zsu]; omega,by have:=r.un; rw [zst]; omega⟩
theorem Room.depth{k:Nat}{A:Around}(r:Room k A):A.depth < recursionLimit:=by have:=r.dp; omega
theorem Room.units{k:Nat}{A:Around}(r:Room k A):A.units+64 < cLine:=by have:=r.un; omega
def zq8:TA:=fun _ H Q=>Q [] H
def zd2(ta:TE)(tr:TA):TA:=fun σ H Q=>ta σ H fun x H1=>tr σ H1 fun xs H2=>Q (x::xs) H2
section
variable{X:Cx}{e:Expr}{es:List Expr}{te:TE}{t:TA}{pos:Pos}
theorem pa_nil:PA X [] zq8:=fun _ _ _ _ H Q I h=>Calls.spliced_nil ⟨[],H,I,.nil,h⟩
theorem zzy(ha:PE X e te)(hr:PA X es t)(hs:starEach (e::es) X.env=(false,eval e X.env)::starEach es X.env:=by rfl):PA X (e::es) (zd2 te t):=by
 intro pos pins s σ H Q I h
 rw [hs]
 show wpAny _ _ (spliced ((false,eval e X.env)::backTo pos (starEach es X.env))) _ _ s
 refine Calls.spliced_cons (thn (ha pins s σ H _ I h) fun u s1 ⟨x,H1,I1,r1,q1⟩=>?_)
 exact thn (hr pos pins s1 σ H1 _ I1 q1) fun us s2 ⟨xs,H2,I2,r2,q2⟩=>⟨x::xs,H2,I2,.cons r1 r2,q2⟩
def zz6(t:TA):TE:=fun σ H Q=>t σ H fun xs H1=>xs.length<=sizeLine/\∀p,H1 p=none->Q (.ref p) (upd H1 p (.tup xs))
def zza(t:TA):TE:=fun σ H Q=>t σ H fun xs H1=>xs.length<=sizeLine/\∀p,H1 p=none->Q (.ref p) (upd H1 p (.lst xs))
theorem z11{x1}(h:PA X es t):PE X (.Tuple es x1 pos) (zz6 t):=by
 intro pins s σ H Q I hq
 refine wpAny_Tuple_spliced (thn (h pos pins s σ H _ I hq) fun us s1 ⟨xs,H1,I1,r,z,q⟩=>⟨by rw [<- r.length]; exact z,?_⟩)
 have hf:H1 s1.heap.objs.size=none:=I1.hok.fresh (Nat.le_refl _)
 refine⟨.ref s1.heap.objs.size,upd H1 s1.heap.objs.size (.tup xs),I1.laid (t':=s1.toks) (fun b u e=>Heap.get?_push_of_some _ e) (Nat.le_refl _) ?_,rfl,q _ hf⟩
 exact⟨z,us,r,⟨_,Heap.get?_push_size _ rfl,rfl,_,rfl⟩⟩
theorem z46(h:PA X es t):PE X (.List es pos) (zza t):=by
 intro pins s σ H Q I hq
 refine wpAny_List_spliced (thn (h pos pins s σ H _ I hq) fun us s1 ⟨xs,H1,I1,r,z,q⟩=>⟨by rw [<- r.length]; exact z,?_⟩)
 have hf:H1 s1.heap.objs.size=none:=I1.hok.fresh (Nat.le_refl _)
 refine⟨.ref s1.heap.objs.size,upd H1 s1.heap.objs.size (.lst xs),I1.laid (t':=s1.toks) (fun b u e=>Heap.get?_push_of_some _ e) (Nat.le_refl _) ?_,rfl,q _ hf⟩
 exact⟨z,us,0,r,Heap.get?_push_size _ rfl⟩
end
abbrev Sp:=List V->Hp->VK->XK->Prop
abbrev CXT:=List Env->Hp->Shared->XK->Value->Shared->Prop
structure Env0(P:Program)(w:World)(K:PySem.W.Frag)(mg:Str->Option Value)(base:Heap)(A:Around)(outer:List Env)(s:Shared)(H:Hp):Prop where
 frames:A.frames=some outer
 mod:Mod K mg base
 bs:∀b o,base.get? b=some o->s.heap.get? b=some o/\H b=none
 bsz:base.objs.size<=s.heap.objs.size
 funs:s.heap.FunFrames base outer
 frf:∀b∈frs outer,H b=none
 hok:HOk P w H s.heap
 bare:AllBare s.gens
def CE(outer:List Env)(P:Program)(w:World)(H:Hp)(s:Shared)(Q:VK)(u:Value)(s':Shared):Prop:=
 ∃v H',s'.os=s.os/\AllBare s'.gens/\Un (frs outer) [] H H' s.heap s'.heap/\HOk P w H' s'.heap/\RelV v u/\Q v H'
def CR(CX:CXT)(outer:List Env)(P:Program)(w:World)(H:Hp)(s:Shared)(Q:VK)(E:XK)(r:Result)(s':Shared):Prop:=
 match r with
 | .ok (.ret u)=>CE outer P w H s Q u s'
 | .ok _=>False
 | .error e=>CX outer H s E e s'
structure FnOk(P:Program)(w:World)(K:PySem.W.Frag)(mg:Str->Option Value)(base:Heap)(CX:CXT)(k:Nat)(f:Addr)(fd:FuncData)(ps:List Str)(sp:Sp):Prop where
 len:∀vs H Q E,sp vs H Q E->vs.length=ps.length
 run:∀(A:Around) (outer:List Env) (s:Shared) (H:Hp) (args:Args) (us:List Value) (vs:List V) (Q:VK) (E:XK),Room k A->Env0 P w K mg base A outer s H->BindsTo s fd args (ps.zip us)->Vals vs us->sp vs H Q E->
  codeAny (model P w) A (.call (.ref f) args) (CR CX outer P w H s Q E) s
theorem Env0.make{P:Program}{w:World}{K:PySem.W.Frag}{mg:Str->Option Value}{base:Heap}{A:Around}{outer:List Env}{s:Shared}{H:Hp}(e:Env0 P w K mg base A outer s H)(C:Addr)(us:List Value)(kw:List (Str×Value)) :
  Env0 P w K mg base (A.under (.builtin "type.__call__" ⟨.ref C::us,kw⟩)) outer s H:=⟨by first | exact e.frames | (simpa [Around.under,Code.envs,Code.isFrame,pushEnvs] using e.frames),e.mod,e.bs,e.bsz,e.funs,e.frf,e.hok,e.bare⟩
section
variable{X:Cx}{pins:List (Addr×Obj)}{σ : St}{H:Hp}{s s':Shared}
theorem Inv.env0(I:Inv X pins σ H s):Env0 X.prog X.w X.K X.mg X.base X.A X.stack s H:=
 ⟨I.ok.frames,I.ok.mod,I.bs,Nat.le_trans I.ok.bsz I.sz,I.stack,I.stkFree,I.hok,I.bare⟩
theorem Inv.after{Q:VK}{u:Value}(I:Inv X pins σ H s)(h:CE X.stack X.prog X.w H s Q u s'):EP X pins σ Q u s':=by
 obtain⟨v,H',os,bare,un,hok,r,q⟩:=h
 obtain⟨hh,g,d,t,os'⟩:=s'
 obtain rfl:os'=s.os:=os
 exact⟨v,H',I.call (h':=hh) (g':=g) (d':=d) (t':=t) (ch:=[]) un hok bare (fun b z=>absurd z (by simp)),r,q⟩
end
def zm2(sp:Sp)(dvs:List V)(E:XK)(t:TA):TE:=fun σ H Q=>t σ H fun vs H1=>sp (vs++dvs) H1 Q E
def zkh(C:Addr)(m:Str)(sp:Sp)(dvs:List V)(E:XK)(ta:TE)(t:TA):TE:=fun σ H Q=>ta σ H fun x H1=>∃a dx fs,x=.ref a/\H1 a=some (.ins C dx fs)/\fs.lookup m=none/\
 t σ H1 fun vs H2=>sp (x::(vs++dvs)) H2 Q E
def zrt(C:Addr)(sp:Sp)(dvs:List V)(E:XK)(t:TA):TE:=fun σ H Q=>t σ H fun vs H1=>∀x dx,H1 x=none->H1 dx=none->dx≠x->
 sp (.ref x::(vs++dvs)) (upd (upd H1 dx (.own x)) x (.ins C dx [])) (fun v H2=>v=.non/\Q (.ref x) H2) E
def Binds(K:PySem.W.Frag)(fd:FuncData)(ps:List Str)(ds:List Value):Prop:=
 ∀(s:Shared) (us:List Value),K.In s.heap->(us++ds).length=ps.length->BindsTo s fd ⟨us,[]⟩ (ps.zip (us++ds))
theorem Binds.all{K:PySem.W.Frag}{fd:FuncData}{ps:List Str}(h:∀us:List Value,us.length=ps.length->bindArgs fd ⟨us,[]⟩=pure (ps.zip us)):Binds K fd ps []:=fun s us _ hl=>by
 rw [List.append_nil] at hl |-
 exact .of_eq (h us hl)
def zaa(CX:CXT)(X:Cx)(E:XK):Prop:=∀(pins:List (Addr×Obj)) (σ : St) (H:Hp) (s:Shared) (e:Value) (s':Shared),Inv X pins σ H s->CX X.stack H s E e s'->X.xe e s'
section
variable{X:Cx}{CX:CXT}{k:Nat}{f C:Addr}{fd:FuncData}{ps:List Str}{sp:Sp}{dvs:List V}{ds:List Value}{E:XK}{x m:Str}{p pos apos:Pos}{e o:Expr}{es:List Expr}{ta:TE}{t:TA}
theorem zqi{pins:List (Addr×Obj)}{σ : St}{H:Hp}{s:Shared}{Q:VK}{us:List Value}{vs:List V}(F:FnOk X.prog X.w X.K X.mg X.base CX k f fd ps sp)(hr:Room k X.A)(hb:Binds X.K fd ps ds)(hd:Vals dvs ds)(hx:zaa CX X E)
  (I:Inv X pins σ H s) (r:Vals vs us) (h:sp (vs++dvs) H Q E):wpAny (model X.prog X.w) X.A (call (.ref f) us) (EP X pins σ Q) X.xe s:=by
 have r2:Vals (vs++dvs) (us++ds):=r.append hd
 have hl:(us++ds).length=ps.length:=by rw [<- r2.length]; exact F.len _ _ _ _ h
 refine wpAny_call (codeAny_mono (F.run X.A X.stack s H ⟨us,[]⟩ (us++ds) (vs++dvs) Q E hr I.env0 (hb s us I.kIn hl) r2 h) fun r s' hq=>?_)
 cases r with
 | error e=>exact hx pins σ H s e s' I hq
 | ok fl=>
  cases fl with
  | ret u=>exact I.after hq
  | next=>exact False.elim hq
  | brk=>exact False.elim hq
  | cont=>exact False.elim hq
theorem zu9{pl:Sem Bool}(he:PE X o ta)(c:Cls X.K C)(hm:Meth X.K C m f)(F:FnOk X.prog X.w X.K X.mg X.base CX k f fd ps sp)(hr:Room k X.A)(hb:Binds X.K fd ps ds)(hd:Vals dvs ds)(hx:zaa CX X E)(ha:PA X (e::es) t)
  (hst:starEach (e::es) X.env=(false,eval e X.env)::starEach es X.env:=by rfl) (hpl:(backTo pos (starEach es X.env)).any (·.1)=false:=by rfl)
  (ht:eval (.Call (.Attribute o m apos) (e::es) [] pos) X.env=(do
   let ov <- eval o X.env
   standAt apos.atName
   let (f,first) <- holding [ov] (getMethod ov m pl)
   callWith pos f first (backTo pos (starEach (e::es) X.env)) (backToKw pos (keywordEach [] X.env))):=by rfl) :
  PE X (.Call (.Attribute o m apos) (e::es) [] pos) (zkh C m sp dvs E ta t):=by
 intro pins s σ H Q I h
 refine PySem.W.methodCall_KW (pl:=pl) (thn (he pins s σ H _ I h) fun u s1 ⟨x,H1,I1,rx,a,dx,fs,ex,ea,l,q⟩=>?_) ht
 subst ex
 obtain rfl:u=Value.ref a:=rx
 refine zk6 I1 ea c hm l ?_
 refine PySem.W.callWith_K (first:=[.ref a]) (h₀:=X.base) I.ok.mod.kin hm.kp (thn (ha pos pins s1 σ H1 _ I1 q) fun us s2 ⟨vs,H2,I2,r,q2⟩=>⟨I2.kIn,?_⟩) hst hpl
 exact zqi (us:=.ref a::us) (vs:=.ref a::vs) F hr hb hd hx I2 (.cons rfl r) q2
theorem zqm{pl:Sem Bool}(he:PE X o ta)(c:Cls X.K C)(hm:Meth X.K C m f)(F:FnOk X.prog X.w X.K X.mg X.base CX k f fd ps sp)(hr:Room k X.A)(hb:Binds X.K fd ps ds)(hd:Vals dvs ds)(hx:zaa CX X E)
  (ht:eval (.Call (.Attribute o m apos) [] [] pos) X.env=(do
   let ov <- eval o X.env
   standAt apos.atName
   let (f,first) <- holding [ov] (getMethod ov m pl)
   callWith pos f first (backTo pos (starEach [] X.env)) (backToKw pos (keywordEach [] X.env))):=by rfl) :
  PE X (.Call (.Attribute o m apos) [] [] pos) (zkh C m sp dvs E ta zq8):=by
 intro pins s σ H Q I h
 refine PySem.W.methodCall_KW (pl:=pl) (thn (he pins s σ H _ I h) fun u s1 ⟨x,H1,I1,rx,a,dx,fs,ex,ea,l,q⟩=>?_) ht
 subst ex
 obtain rfl:u=Value.ref a:=rx
 refine zk6 I1 ea c hm l ?_
 exact PySem.W.callWith_K0 (first:=[.ref a]) I1.kIn hm.kp (zqi (us:=[.ref a]) (vs:=[.ref a]) F hr hb hd hx I1 (.cons rfl .nil) q)
structure Mk(K:PySem.W.Frag)(C f:Addr):Prop where
 makes:PySem.W.makesIn K C=true
 init:PySem.W.findIn K (.ref C) "__init__" = some (some (.ref f))
 fn:PySem.W.isFn K (.ref f)=true
 kp:PySem.W.keepIn K (.ref C)=true
theorem zwu{pins:List (Addr×Obj)}{σ : St}{H:Hp}{s:Shared}{Q:VK}{us:List Value}{vs:List V}(M:Mk X.K C f)(F:FnOk X.prog X.w X.K X.mg X.base CX k f fd ps sp)(hr:Room (k+1) X.A)(hb:Binds X.K fd ps ds)(hd:Vals dvs ds)
  (hx:zaa CX X E) (I:Inv X pins σ H s) (r:Vals vs us)
  (h:∀x dx,H x=none->H dx=none->dx≠x->sp (.ref x::(vs++dvs)) (upd (upd H dx (.own x)) x (.ins C dx [])) (fun v H2=>v=.non/\Q (.ref x) H2) E) :
  wpAny (model X.prog X.w) X.A (call (.ref C) us) (EP X pins σ Q) X.xe s:=by
 have hq:=h (s.heap.objs.size+1) s.heap.objs.size (I.hok.fresh (Nat.le_succ _)) (I.hok.fresh (Nat.le_refl _)) (Nat.ne_of_lt (Nat.lt_succ_self _))
 have I2:=Inv.made (C:=C) I
 have r2:Vals (V.ref (s.heap.objs.size+1)::(vs++dvs)) (Value.ref (s.heap.objs.size+1)::(us++ds)):=.cons rfl (r.append hd)
 have hl:(Value.ref (s.heap.objs.size+1)::us++ds).length=ps.length:=by
  have e:=r2.length
  rw [F.len _ _ _ _ hq] at e
  exact e.symm
 refine wpAny_call (zxe (f:=f) I.kIn M.makes M.init (beq_iff_eq.mp M.fn) (codeAny_mono (F.run _ X.stack _ _ ⟨Value.ref (s.heap.objs.size+1)::us,[]⟩ (Value.ref (s.heap.objs.size+1)::(us++ds)) _ _ E (hr.make C us [])
  (I2.env0.make C us []) (hb _ (Value.ref (s.heap.objs.size+1)::us) I2.kIn hl) r2 hq) fun r s' hq'=>?_))
 cases r with
 | error e=>exact hx pins σ _ _ e s' I2 hq'
 | ok fl=>
  cases fl with
  | ret u=>
   obtain⟨v,H',I3,rv,ev,q3⟩:=I2.after hq'
   subst ev
   exact⟨rv,⟨V.ref (s.heap.objs.size+1),H',I3,rfl,q3⟩⟩
  | next=>exact False.elim hq'
  | brk=>exact False.elim hq'
  | cont=>exact False.elim hq'
theorem zua(M:Mk X.K C f)(F:FnOk X.prog X.w X.K X.mg X.base CX k f fd ps sp)(hr:Room (k+1) X.A)(hg:Gl X x)(hm:X.mg x=some (.ref C))(hb:Binds X.K fd ps ds)(hd:Vals dvs ds)(hx:zaa CX X E)
  (ha:PA X (e::es) t) (hdb:(x == ("__debug__" : Str))=false:=by decide) (he:starEach (e::es) X.env=(false,eval e X.env)::starEach es X.env:=by rfl) (hpl:(backTo pos (starEach es X.env)).any (·.1)=false:=by rfl) :
  PE X (.Call (.Name x p) (e::es) [] pos) (zrt C sp dvs E t):=by
 intro pins s σ H Q I h
 refine wpAny_Call_Name_kw (z92 I hg hm ?_ hdb)
 refine PySem.W.callWith_K (h₀:=X.base) I.ok.mod.kin M.kp (thn (ha pos pins s σ H _ I h) fun us s1 ⟨vs,H1,I1,r,q⟩=>⟨I1.kIn,?_⟩) he hpl
 exact zwu M F hr hb hd hx I1 r q
end
section
variable{X:Cx}{CX:CXT}{k:Nat}{f C:Addr}{fd:FuncData}{ps ks:List Str}{sp:Sp}{E:XK}{x m:Str}{p pos apos kpos:Pos}{e o:Expr}{es:List Expr}{kws:List Keyword}{te ta:TE}{t tk:TA}{nm:Option Str}
structure KBinds(K:PySem.W.Frag)(fd:FuncData)(ps ks:List Str)(g:List Value->List Value->List Value)(gV:List V->List V->List V):Prop where
 to:∀(s:Shared) (us ws:List Value),K.In s.heap->(g us ws).length=ps.length->BindsTo s fd ⟨us,ks.zip ws⟩ (ps.zip (g us ws))
 rel:∀{vs:List V} {us:List Value} {zs:List V} {ws:List Value},Vals vs us->Vals zs ws->Vals (gV vs zs) (g us ws)
variable{g:List Value->List Value->List Value}{gV:List V->List V->List V}
end
structure FnScope(N P:List Str)(sc:Scope):Prop where
 kind:sc.kind=.function
 co:sc.isCoroutine=false
 gen:sc.isGenerator=false
 nd:N.Nodup
 pre:N.take P.length=P
 par:∀x∈P,sc.names.lookup x=some .local\/sc.names.lookup x=some .cell
 nofree:∀y∈sc.names,y.2≠.free
theorem zo4{kindOf:Str->Option NameKind}{x:Str}:∀{binds:List (Str×Value)} {m:Str->Option Value},(∀v,(x,v)∉binds)->bindL kindOf binds m x=m x
 | [],_,_=>rfl
 | (n,v)::r,m,h=>by
  unfold bindL
  rw [zo4 fun w hw=>h w (List.mem_cons_of_mem _ hw)]
  split
  ·have:x≠n:=by rintro rfl; exact h v List.mem_cons_self
   simp[this]
  ·rfl
theorem zo6{kindOf:Str->Option NameKind}{x:Str}:∀{binds:List (Str×Value)} {m:Str->Option Value},(∀v,(x,v)∉binds)->bindC kindOf binds m x=m x
 | [],_,_=>rfl
 | (n,v)::r,m,h=>by
  unfold bindC
  rw [zo6 fun w hw=>h w (List.mem_cons_of_mem _ hw)]
  split
  ·rfl
  ·have:x≠n:=by rintro rfl; exact h v List.mem_cons_self
   simp[this]
theorem zo5{kindOf:Str->Option NameKind}{x:Str}{v:Value}:∀{P:List Str} {vs:List Value} {i:Nat} {m:Str->Option Value},P.Nodup->P[i]?=some x->vs[i]?=some v->kindOf x=some .local->
  bindL kindOf (P.zip vs) m x=some v
 | [],_,_,_,_,h,_,_=>by simp at h
 | _::_,[],_,_,_,_,h,_=>by simp at h
 | p::P,w::vs,0,m,nd,h1,h2,hk=>by
  simp at h1 h2; subst h1; subst h2
  show bindL kindOf ((p,w)::P.zip vs) m p=_
  unfold bindL
  rw [zo4 fun v hv=>(List.nodup_cons.mp nd).1 (List.of_mem_zip hv).1,if_pos hk]
  simp
 | p::P,w::vs,i+1,m,nd,h1,h2,hk=>by
  show bindL kindOf ((p,w)::P.zip vs) m x=_
  unfold bindL
  exact zo5 (i:=i) (List.nodup_cons.mp nd).2 (by simpa using h1) (by simpa using h2) hk
theorem zo7{kindOf:Str->Option NameKind}{x:Str}{v:Value}:∀{P:List Str} {vs:List Value} {i:Nat} {m:Str->Option Value},P.Nodup->P[i]?=some x->vs[i]?=some v->kindOf x≠some .local->
  bindC kindOf (P.zip vs) m x=some v
 | [],_,_,_,_,h,_,_=>by simp at h
 | _::_,[],_,_,_,_,h,_=>by simp at h
 | p::P,w::vs,0,m,nd,h1,h2,hk=>by
  simp at h1 h2; subst h1; subst h2
  show bindC kindOf ((p,w)::P.zip vs) m p=_
  unfold bindC
  rw [zo6 fun v hv=>(List.nodup_cons.mp nd).1 (List.of_mem_zip hv).1,if_neg hk]
  simp
 | p::P,w::vs,i+1,m,nd,h1,h2,hk=>by
  show bindC kindOf ((p,w)::P.zip vs) m x=_
  unfold bindC
  exact zo7 (i:=i) (List.nodup_cons.mp nd).2 (by simpa using h1) (by simpa using h2) hk
def start(N:List Str)(vs:List V):St:=vs.map some++List.replicate (N.length - vs.length) none
def z85(CX:CXT)(P:Program)(w:World)(K:PySem.W.Frag)(mg:Str->Option Value)(base:Heap)(N:List Str)(qual:Str)(scope:Scope)(f:Addr)(cd:Value)(A:Around)(outer:List Env)(s:Shared)(H:Hp)(E:XK):Cx where
 prog:=P
 w:=w
 K:=K
 mg:=mg
 base:=base
 A:=A.deeper (envOfC qual scope s.heap.objs.size f cd)
 N:=N
 s₀:=s
 H₀:=H
 env:=envOfC qual scope s.heap.objs.size f cd
 outer:=outer
 stack:=envOfC qual scope s.heap.objs.size f cd::outer
 ex:=[]
 calm:=true
 fn:=fun _=>true
 pn:=[]
 xe:=fun e s'=>wpAny (model P w) (A.deeper (envOfC qual scope s.heap.objs.size f cd)) (leaving (envOfC qual scope s.heap.objs.size f cd) e) (fun _ s''=>CX outer H s E e s'') (fun e' s''=>CX outer H s E e' s'') s'
theorem zri{sc:Scope}{n:Nat}{x:Str}(h:sc.names.lookup x=some .cell):∃c,(cellsFrom n sc.names []).lookup x=some c:=by
 have q:=PySem.W.cellsFrom_some sc.names n [] (.inl h)
 exact Option.isSome_iff_exists.mp q
theorem zn5{CX:CXT}{P:Program}{w:World}{K:PySem.W.Frag}{mg:Str->Option Value}{base:Heap}{N ps:List Str}{qual:Str}{scope:Scope}{f:Addr}{cd:Value}{A:Around}{outer:List Env}{s s1:Shared}{H:Hp}{E:XK}{us:List Value}{vs:List V}
  (S:FnScope N ps scope) (hd:A.handled=none) (e0:Env0 P w K mg base A outer s H) (hl:vs.length=ps.length) (r:Vals vs us)
  (x:InCallC s s.heap.objs.size (bindL (envOfC qual scope s.heap.objs.size f cd).kindOf (ps.zip us) fun _=>none) (cellsFrom (s.heap.objs.size+1) scope.names []) (bindC (envOfC qual scope s.heap.objs.size f cd).kindOf (ps.zip us) fun _=>none) s1) :
  Inv (z85 CX P w K mg base N qual scope f cd A outer s H E) [] (start N vs) H s1:=by
 have hpl:ps.length<=N.length:=by have:=congrArg List.length S.pre; rw [List.length_take] at this; omega
 obtain⟨h1,tk,rfl,hk⟩:=x.done
 have noA:∀b:Addr,b∉(z85 CX P w K mg base N qual scope f cd A outer s H E).ex:=fun b z=>absurd (show b∈([]:List Addr) from z) (by simp)
 refine⟨⟨e0.mod,S.kind,rfl,rfl,Nat.le_refl _,fun y z c h1 h2=>?_,fun y hy=>?_,fun y c _ h=>?_,fun _=>hd,Around.frames_deeper e0.frames,.inr ⟨rfl,rfl⟩,fun b z=>absurd z (noA b),e0.bs,e0.bsz,fun b _ _=>noA b,fun b z=>absurd z (noA b),e0.funs,e0.frf⟩,
  rfl,e0.bare,Un.kept hk,⟨_,x.toInCall.ns,fun i y v h1 h2 h3=>?_⟩,fun y c h=>⟨_,x.cell y c h⟩,e0.hok.fresh (Nat.le_refl _),fun y c h=>?_,fun p hp=>absurd (show p∈([]:List (Addr×Obj)) from hp) (by simp),e0.hok.kept hk,?_⟩
 ·exact name_of_addr x.apart (PySem.mem_of_lookup h1) (PySem.mem_of_lookup h2)
 ·have hy:scope.names.lookup y=some .cell\/scope.names.lookup y=some .free:=hy
  rcases hy with hy | hy
  ·exact zri hy
  ·exact absurd rfl (S.nofree _ (PySem.mem_of_lookup hy))
 ·exact Nat.le_of_lt (x.above y c (PySem.mem_of_lookup h))
 ·have hi:i < vs.length:=by
   unfold start at h2
   by_cases hi:i < vs.length
   ·exact hi
   ·rw [List.getElem?_append_right (by simpa using hi)] at h2
    rw [List.getElem?_replicate] at h2
    split at h2<;>cases h2
  have ha:vs[i]?=some v:=by
   unfold start at h2
   rw [List.getElem?_append_left (by simpa using hi),List.getElem?_map] at h2
   cases e:vs[i]? with
   | none=>rw [e] at h2; cases h2
   | some a=>rw [e] at h2; cases h2; rfl
  obtain⟨u,hu,rv⟩:=r.get ha
  have hp:ps[i]?=some y:=by
   rw [<- S.pre,List.getElem?_take_of_lt (by omega)]; exact h1
  have ndP:ps.Nodup:=by rw [<- S.pre]; exact S.nd.sublist (List.take_sublist _ _)
  refine⟨u,rv,?_⟩
  rcases S.par y (List.mem_of_getElem? hp) with k | k
  ·exact .inl ⟨k,zo5 ndP hp hu k⟩
  ·obtain⟨c,e⟩:=zri (n:=s.heap.objs.size+1) k
   refine .inr ⟨.inl k,c,e,?_⟩
   have q:=x.cell y c e
   rw [zo7 ndP hp hu (by show scope.names.lookup y≠_; rw [k]; decide)] at q
   exact q
 ·exact e0.hok.fresh (Nat.le_of_lt (x.above y c (PySem.mem_of_lookup h)))
 ·unfold start
  show _=N.length
  rw [List.length_append,List.length_map,List.length_replicate]
  omega
theorem zxq{CX:CXT}{P:Program}{w:World}{K:PySem.W.Frag}{mg:Str->Option Value}{base:Heap}{k:Nat}{f:Addr}{name qual:Str}{params:Arguments}{body:List Stmt}{scope:Scope}{dV kV doc pm cdv ct oc:Value}{an od:Option Addr}
  {osl:Array (Option Value)} {N ps:List Str} {sp:Sp} (lk:K.lookup f=some ⟨oc,od,.func (PySem.W.fnOf name qual params body scope dV kV doc pm an cdv ct),osl⟩) (hcd:PySem.W.codeIn K cdv qual=true) (S:FnScope N ps scope)
  (len:∀vs H Q E,sp vs H Q E->vs.length=ps.length)
  (hbody:∀(A:Around) (outer:List Env) (s:Shared) (H:Hp) (vs:List V) (Q:VK) (E:XK),Room k (A.deeper (envOfC qual scope s.heap.objs.size f cdv))->sp vs H Q E->
   ∃t,PSs (z85 CX P w K mg base N qual scope f cdv A outer s H E) body t/\t {nx:=fun _ H'=>Q .non H',rt:=Q} (start N vs) H) :
  FnOk P w K mg base CX (k+1) f (PySem.W.fnOf name qual params body scope dV kV doc pm an cdv ct) ps sp:=by
 refine⟨len,fun A outer s H args us vs Q E hr e0 hb r hsp=>?_⟩
 have hl:=len _ _ _ _ hsp
 have KX:K.In s.heap:=e0.mod.kin.keeps fun b o e=>(e0.bs b o e).1
 have lim:s.heap.NoLimit:=e0.mod.nolimit.keeps fun b o e=>(e0.bs b o e).1
 have hkind:∀y∈ps.zip us,scope.names.lookup y.1=some .local\/(scope.names.lookup y.1=some .cell/\((cellsFrom (s.heap.objs.size+1) scope.names []).lookup y.1).isSome=true):=fun⟨n,v⟩ hy=>by
  rcases S.par n (List.of_mem_zip hy).1 with q | q
  ·exact .inl q
  ·exact .inr ⟨q,PySem.W.cellsFrom_some _ _ _ (.inl q)⟩
 refine codeAny_call_function hr.depth (KX _ _ lk) rfl S.co S.gen rfl (PySem.W.codeRec_of KX hcd) (hb _ _ _ _ ?_)
 refine wpAny_newFunctionEnv_cells S.kind hkind fun env he s1 x=>?_
 subst he
 refine⟨lim.keeps x.toInCall.keep,codeAny_func ?_⟩
 obtain⟨t,ht,hq⟩:=hbody A outer s H vs Q E (hr.deeper _) hsp
 have I:Inv (z85 CX P w K mg base N qual scope f cdv A outer s H E) [] (start N vs) H s1:=zn5 S hr.hd e0 hl r x
 refine wpAny_mono (ht [] s1 (start N vs) H _ I hq) (fun fl s' hs=>?_) fun e s' hs=>hs
 have fin:∀{σ':St} {H':Hp} {v:V} {u:Value},Inv (z85 CX P w K mg base N qual scope f cdv A outer s H E) [] σ' H' s'->RelV v u->Q v H'->CE outer P w H s Q u s':=
  fun {σ' H' v u} J rv q=>⟨v,H',J.os,J.bare,J.base,J.hok,rv,q⟩
 cases fl with
 | ret u=>
  obtain⟨v,σ',H',J,rv,q⟩:=hs
  exact fin J rv q
 | next=>
  obtain⟨σ',H',J,q⟩:=hs
  exact fin (v:=V.non) (u:=Value.none) J rfl q
 | brk=>
  obtain⟨_,_,_,q⟩:=hs
  exact False.elim q
 | cont=>
  obtain⟨_,_,_,q⟩:=hs
  exact False.elim q
end L2
namespace L2
open PySem PySem.Spec PyProof.Rows
section
variable{X:Cx}{x:Str}{p pos:Pos}{e:Expr}{es:List Expr}{t:TA}{id T:String}{r:List V->Hp->VK->Prop}
def tCB(r:List V->Hp->VK->Prop)(t:TA):TE:=fun σ H Q=>t σ H fun vs H1=>r vs H1 Q
theorem zx3(hc:CallR X (.builtin id) r)(hg:Gl X x)(hm:X.mg x=none)(hv:bootBuiltins x=some (.builtin id))(ha:PA X (e::es) t) (hn:x≠"__name__":=by decide) (hdb:(x == ("__debug__" : Str))=false:=by decide)
  (he:starEach (e::es) X.env=(false,eval e X.env)::starEach es X.env:=by rfl) (hpl:(backTo pos (starEach es X.env)).any (·.1)=false:=by rfl):PE X (.Call (.Name x p) (e::es) [] pos) (tCB r t):=by
 intro pins s σ H Q I h
 refine wpAny_Call_Name_kw (zig I hg hm hv ?_ hn hdb)
 exact PyProof.Rows.callWith_builtin1 (thn (ha pos pins s σ H _ I h) fun us s1 ⟨vs,H1,I1,r1,q1⟩=>hc pins s1 σ H1 vs us Q I1 r1 q1) he hpl
theorem zuc(hc:CallR X (.type T) r)(hg:Gl X x)(hm:X.mg x=none)(hv:bootBuiltins x=some (.type T))(ha:PA X (e::es) t) (hn:x≠"__name__":=by decide) (hdb:(x == ("__debug__" : Str))=false:=by decide)
  (he:starEach (e::es) X.env=(false,eval e X.env)::starEach es X.env:=by rfl) (hpl:(backTo pos (starEach es X.env)).any (·.1)=false:=by rfl):PE X (.Call (.Name x p) (e::es) [] pos) (tCB r t):=by
 intro pins s σ H Q I h
 refine wpAny_Call_Name_kw (zig I hg hm hv ?_ hn hdb)
 exact PyProof.Rows.callWith_type1 (thn (ha pos pins s σ H _ I h) fun us s1 ⟨vs,H1,I1,r1,q1⟩=>hc pins s1 σ H1 vs us Q I1 r1 q1) he hpl
end
end L2
namespace HT
open PySem PyProof.Rows
section
open PySem.SeqAt
open PySem.AutoSeq1 (wpAny_loadPart')
open PySem.MeetsSeq PySem.MeetsSeq2 PySem.MeetsSeq3
end
section
variable{prog:Program}{w:World}{A:Around}{E:Value->Shared->Prop}{s:Shared}
theorem q12{t b:Addr}{vs ws:List Value}{Q:Value->Shared->Prop}(ht:IsTup s.heap t vs.toArray)(hb:IsTup s.heap b ws.toArray)(hv:vs≠[])
  (h1:ws=[]->Q (.ref t) s) (h2:ws≠[]->Q (.ref s.heap.objs.size) {s with heap:=s.heap.push {cls:=.type "tuple",data:=.seq (vs++ws).toArray}})
  (hsz:vs.length+ws.length<=sizeLine):wpAny (model prog w) A (binaryOp .Add (.ref t) (.ref b)) Q E s:=by
 obtain⟨⟨cls,dd,data,sl⟩,ho,hc,n,hd⟩:=id ht
 obtain⟨⟨cls2,dd2,data2,sl2⟩,ho2,hc2,n2,hd2⟩:=id hb
 simp only at hc hd hc2 hd2
 subst hc hd hc2 hd2
 have e:vs.toArray++ws.toArray=(vs++ws).toArray:=by simp
 by_cases hw:ws=[]
 ·exact concat_meets ⟨_,ho,rfl⟩ ⟨_,ho2,rfl⟩ noFill_tuple_add seq_tuple_add PySem.F.slot_tuple_add PySem.F.entry_tuple_add (PySem.F.args_tuple_add_2 _ _)
   (tuple_addW1 t b vs.toArray ws.toArray n n2 dd dd2 sl sl2 (by simpa using hv) (by simp[hw])) ⟨ho,ho2,h1 hw⟩
 ·refine concat_meets ⟨_,ho,rfl⟩ ⟨_,ho2,rfl⟩ noFill_tuple_add seq_tuple_add PySem.F.slot_tuple_add PySem.F.entry_tuple_add (PySem.F.args_tuple_add_2 _ _)
   (tuple_addW2 t b vs.toArray ws.toArray n n2 dd dd2 sl sl2 (by simpa using hv) (by simpa using hw) (by rw [List.size_toArray,List.size_toArray]; exact hsz)) ⟨ho,ho2,?_⟩
  rw [e]
  exact h2 hw
def sIx(n d:Nat):Option Int->Nat
 | none=>d
 | some v=>if v < 0 then(v+(n:Int)).toNat else min v.toNat n
theorem zqh(n d:Nat):sIx n d none=d:=rfl
theorem zzh(n d k:Nat):sIx n d (some (k:Int))=min k n:=by
 show(if(k:Int) < 0 then((k:Int)+(n:Int)).toNat else min (k:Int).toNat n)=min k n
 rw [if_neg (by omega),Int.toNat_natCast]
theorem q20(n d:Nat)(hd:d<=n)(o:Option Int):sIx n d o<=n:=by
 cases o with
 | none=>exact hd
 | some v=>
  show(if v < 0 then(v+(n:Int)).toNat else min v.toNat n)<=n
  by_cases hv:v < 0
  ·rw [if_pos hv]; omega
  ·rw [if_neg hv]; exact Nat.min_le_right _ _
theorem zw5(v:Int)(n d:Nat):(if v < 0 then max (v+(n:Int)) 0 else min v (n:Int))=((sIx n d (some v):Nat):Int):=by
 show(if v < 0 then max (v+(n:Int)) 0 else min v (n:Int))=(((if v < 0 then(v+(n:Int)).toNat else min v.toNat n):Nat):Int)
 by_cases hv:v < 0
 ·simp only[if_pos hv]; omega
 ·simp only[if_neg hv]; omega
theorem zta(lo hi:Option Int)(n:Nat):Builtin.Slice.sliceAdjust lo hi 1 (n:Int)=(((sIx n 0 lo:Nat):Int),((sIx n n hi:Nat):Int)):=by
 have h1:¬ ((1:Int) < 0):=by omega
 unfold Builtin.Slice.sliceAdjust
 simp only[h1,if_false]
 refine Prod.ext ?_ ?_
 ·cases lo with
  | none=>rfl
  | some v=>exact zw5 v n 0
 ·cases hi with
  | none=>rfl
  | some v=>exact zw5 v n n
theorem zsb(i j:Nat):Builtin.Slice.slicePlaces (i:Int) (j:Int) 1=j - i:=by
 unfold Builtin.Slice.slicePlaces
 have h1:(1:Int) > 0:=by omega
 simp only[h1,if_true,Int.ediv_one]
 split<;>omega
theorem zjx{v:Value}{o:Option Int}{Q:Option Int->Shared->Prop}(p:IsPart v o)(h:Q o s):wpAny (model prog w) A (Builtin.Slice.slicePartIndex v) Q E s:=by
 cases p with
 | none=>exact slicePart_none h
 | int i t=>exact slicePart_int h
theorem zb6{sl:Addr}{vl vu:Value}{lo hi:Option Int}{n:Nat}{Q:Int×Int×Nat->Shared->Prop}(hs:s.heap.IsSliceOf sl vl vu .none)(pl:IsPart vl lo)(pu:IsPart vu hi)
  (h:Q (((sIx n 0 lo:Nat):Int),1,sIx n n hi - sIx n 0 lo) s):wpAny (model prog w) A (Builtin.Slice.sliceApplied (.ref sl) (pure (n:Int))) Q E s:=by
 obtain⟨os,hos,hcs,hds⟩:=id hs
 unfold Builtin.Slice.sliceApplied Builtin.Slice.sliceFields
 refine wpAny_bind (wpAny_bind (wpAny_field hos hds (x:=vl) rfl (wpAny_bind (wpAny_field hos hds (x:=vu) rfl (wpAny_bind (wpAny_field hos hds (x:=.none) rfl (wpAny_pure ?_)))))))
 refine wpAny_bind (slicePart_none ?_)
 show wpAny _ _ (if((1:Int) == 0)=true then _ else _) _ _ s
 rw [if_neg (by decide)]
 refine wpAny_bind (zjx pl (wpAny_bind (zjx pu (wpAny_bind (wpAny_pure ?_)))))
 show wpAny _ _ (match Builtin.Slice.sliceAdjust lo hi 1 (n:Int) with | (lo,hi)=>pure (lo,(1:Int),Builtin.Slice.slicePlaces lo hi 1)) _ _ s
 rw [zta lo hi n]
 show wpAny _ _ (pure (((sIx n 0 lo:Nat):Int),(1:Int),Builtin.Slice.slicePlaces ((sIx n 0 lo:Nat):Int) ((sIx n n hi:Nat):Int) 1)) _ _ s
 rw [zsb]
 exact wpAny_pure h
theorem zx0(xs:Array Value)(i k:Nat):((List.range k).filterMap fun(m:Nat)=>xs[((i:Int)+(m:Int) * 1).toNat]?).toArray=((xs.toList.drop i).take k).toArray:=by
 have e:(fun(m:Nat)=>xs[((i:Int)+(m:Int) * 1).toNat]?)=fun m=>xs[i+m]?:=by
  funext m
  have:((i:Int)+(m:Int) * 1).toNat=i+m:=by omega
  rw [this]
 rw [e]
 have:=pick_run xs i k
 rw [List.filterMap_map] at this
 have e2:((fun x=>xs[x]?) ∘ fun x=>i+x)=fun m=>xs[i+m]?:=rfl
 rw [e2] at this
 rw [this]
theorem zg4{t sl:Addr}{items:Array Value}{vl vu:Value}{lo hi:Option Int}{Q:Value->Shared->Prop}(ht:IsTup s.heap t items)(hs:s.heap.IsSliceOf sl vl vu .none)(pl:IsPart vl lo)(pu:IsPart vu hi)
  (hw:¬ (sIx items.size 0 lo=0/\sIx items.size items.size hi=items.size))
  (h:Q (.ref s.heap.objs.size) {s with heap:=s.heap.push {cls:=.type "tuple",data:=.seq ((items.toList.drop (sIx items.size 0 lo)).take (sIx items.size items.size hi - sIx items.size 0 lo)).toArray}})
  (hsz:items.size<=sizeLine):wpAny (model prog w) A (getItem (.ref t) (.ref sl)) Q E s:=by
 have htake:sizeOk (.seq ((items.toList.drop (sIx items.size 0 lo)).take (sIx items.size items.size hi - sIx items.size 0 lo)).toArray):=by
  show((items.toList.drop (sIx items.size 0 lo)).take (sIx items.size items.size hi - sIx items.size 0 lo)).toArray.size<=sizeLine
  rw [List.size_toArray,List.length_take,List.length_drop,Array.length_toList]
  omega
 have hj:sIx items.size items.size hi<=items.size:=q20 _ _ (Nat.le_refl _) hi
 obtain⟨os,hos,hcs,hds⟩:=id hs
 have hTs:s.TypeIs (.ref sl) "slice":=⟨os,hos,hcs⟩
 unfold getItem
 try with_reducible refine wpAny_holding ?_
 first | refine wpAny_bind (wpAny_pure ?_) | skip
 refine wpAny_bind (wpAny_sequenceKey ht.typeIs (by decide) ?_)
 refine wpAny_bind (wpAny_callSpecial?_slot (name:=Str.ofString "__getitem__") ht.typeIs PyProof.Rows.slot_tuple_getitem
  (wpAny_call_entry PyProof.Rows.slot_tuple_getitem ht.typeIs entry_tuple_getitem ?_ (args_tuple_getitem _ _)))
 show wpAny _ _ (Builtin.Tuple.tupleItemsOf (.ref t) >>= _) _ _ s
 refine wpAny_bind (tupleItemsOf_ ht ?_)
 refine wpAny_bind (wpAny_typeOf hTs ?_)
 rw [if_pos (by decide)]
 refine wpAny_bind (zb6 hs pl pu ?_)
 have hno:¬ ((((sIx items.size 0 lo:Nat):Int) == 0 && (1:Int) == 1 && (sIx items.size items.size hi - sIx items.size 0 lo) == items.size)=true):=by
  intro q
  rw [Bool.and_eq_true,Bool.and_eq_true] at q
  have q1:((sIx items.size 0 lo:Nat):Int)=0:=eq_of_beq q.1.1
  have q2:sIx items.size items.size hi - sIx items.size 0 lo=items.size:=eq_of_beq q.2
  exact hw ⟨by omega,by omega⟩
 show wpAny _ _ (if(((sIx items.size 0 lo:Nat):Int) == 0 && (1:Int) == 1 && (sIx items.size items.size hi - sIx items.size 0 lo) == items.size)=true then _ else _) _ _ s
 rw [if_neg hno,zx0]
 first
  | exact wpAny_bind (m:=Builtin.Tuple.tupleExact _) (wpAny_newObj_type (wpAny_pure ⟨_,rfl,wpAny_pure h⟩) htake)
  | exact wpAny_bind (m:=Builtin.Tuple.tupleExact _) (wpAny_newObj_type (wpAny_bind (wpAny_pure (wpAny_pure ⟨_,rfl,wpAny_pure h⟩))) htake)
  | exact wpAny_bind (wpAny_bind (m:=Builtin.Tuple.tupleExact _) (wpAny_newObj_type (wpAny_pure (wpAny_pure ⟨_,rfl,wpAny_pure h⟩)) htake))
  | exact wpAny_bind (wpAny_bind (m:=Builtin.Tuple.tupleExact _) (wpAny_newObj_type (wpAny_pure ⟨_,rfl,wpAny_pure h⟩) htake))
end
end HT
namespace L2
open PySem PySem.Spec PyProof.Rows
abbrev TO:=St->Hp->(Option Int->Hp->Prop)->Prop
def PO(X:Cx)(e:Option Expr)(t:TO):Prop:=
 ∀(pins:List (Addr×Obj)) (s:Shared) (σ : St) (H:Hp) (Q:Option Int->Hp->Prop),Inv X pins σ H s->t σ H Q->
  wpAny (model X.prog X.w) X.A (evalPart e X.env) (fun u s'=>∃o H',Inv X pins σ H' s'/\IsPart u o/\Q o H') X.xe s
def zdn:TO:=fun _ H Q=>Q none H
def zoi(t:TE):TO:=fun σ H Q=>t σ H fun x H1=>∃i,x=.int i/\Q (some i) H1
section
variable{X:Cx}{e:Expr}{te:TE}{lo hi:Option Expr}{tl th:TO}{pos p2:Pos}
theorem zp6:PO X none zdn:=by
 intro pins s σ H Q I h
 rw [evalPart_none]
 exact wpAny_pure ⟨none,H,I,.none,h⟩
theorem zp5(h:PE X e te):PO X (some e) (zoi te):=by
 intro pins s σ H Q I hw
 rw [evalPart_some]
 refine thn (h pins s σ H _ I hw) fun u s1 ⟨x,H1,I1,r1,q1⟩=>?_
 obtain⟨i,rfl,q⟩:=q1
 obtain⟨t,rfl⟩:=r1
 exact⟨some i,H1,I1,.int i t,q⟩
def SlR(X:Cx)(r:V->Option Int->Option Int->Hp->VK->Prop):Prop:=
 ∀(pins:List (Addr×Obj)) (s:Shared) (σ : St) (H:Hp) (x:V) (v vl vu:Value) (lo hi:Option Int) (sl:Addr) (Q:VK),Inv X pins σ H s->RelV x v->s.heap.IsSliceOf sl vl vu .none->IsPart vl lo->IsPart vu hi->r x lo hi H Q->
  ∃T id,typeLookup (.type T) "__getitem__" = pure (some (.builtin id))/\s.TypeIs v T/\wpAny (model X.prog X.w) X.A (getItem v (.ref sl)) (EP X pins σ Q) X.xe s
theorem SlR.or{r r':V->Option Int->Option Int->Hp->VK->Prop}(h:SlR X r)(h':SlR X r'):SlR X (fun x lo hi H Q=>r x lo hi H Q\/r' x lo hi H Q):=by
 intro pins s σ H x v vl vu lo hi sl Q I rx hs pl pu q
 rcases q with q | q
 ·exact h pins s σ H x v vl vu lo hi sl Q I rx hs pl pu q
 ·exact h' pins s σ H x v vl vu lo hi sl Q I rx hs pl pu q
def tSl(r:V->Option Int->Option Int->Hp->VK->Prop)(te:TE)(tl th:TO):TE:=fun σ H Q=>te σ H fun x H1=>tl σ H1 fun l H2=>th σ H2 fun u H3=>r x l u H3 Q
theorem zky{r:V->Option Int->Option Int->Hp->VK->Prop}(hr:SlR X r)(he:PE X e te)(hl:PO X lo tl)(hu:PO X hi th):PE X (.Subscript e (.Slice lo hi none p2) pos) (tSl r te tl th):=by
 intro pins s σ H Q I h
 refine Subscript_ (thn (he pins s σ H _ I h) fun v s1 ⟨x,H1,I1,r1,q1⟩=>?_)
 refine wpAny_Slice (thn (hl pins s1 σ H1 _ I1 q1) fun vl s2 ⟨l,H2,I2,pl,q2⟩=>thn (hu pins s2 σ H2 _ I2 q2) fun vu s3 ⟨u,H3,I3,pu,q3⟩=>?_)
 rw [evalPart_none]
 refine wpAny_pure ?_
 have I4:Inv X pins σ H3 {s3 with heap:=s3.heap.push {cls:=.type "slice",data:=.fields #[vl,vu,.none]}}:=I3.kept (t':=s3.toks) fun b ob q=>Heap.get?_push_of_some _ q
 obtain⟨T,id,hT,ht,hg⟩:=hr pins {s3 with heap:=s3.heap.push {cls:=.type "slice",data:=.fields #[vl,vu,.none]}} σ H3 x v vl vu l u s3.heap.objs.size Q I4 r1 (Heap.IsSliceOf.new ..) pl pu q3
 show wpAny (model X.prog X.w) X.A (subscriptTail e (.Slice lo hi none p2) v (.ref s3.heap.objs.size)) (EP X pins σ Q) X.xe {s3 with heap:=s3.heap.push {cls:=.type "slice",data:=.fields #[vl,vu,.none]}}
 exact tail_any (ops:=[.ref s3.heap.objs.size,v]) ht hT hg (by with_unfolding_all rfl)
def zt3(xs:List V)(lo hi:Option Int):List V:=(xs.drop (HT.sIx xs.length 0 lo)).take (HT.sIx xs.length xs.length hi - HT.sIx xs.length 0 lo)
theorem ziy(xs:List V)(lo hi:Option Int):(zt3 xs lo hi).length<=xs.length:=by
 unfold zt3
 rw [List.length_take,List.length_drop]
 omega
def zzk(K:PySem.W.Frag):V->Option Int->Option Int->Hp->VK->Prop:=fun x lo hi H Q=>∃a xs,x=.ref a/\SqT K H a xs/\
 ¬ (HT.sIx xs.length 0 lo=0/\HT.sIx xs.length xs.length hi=xs.length)/\∀p,H p=none->Q (.ref p) (upd H p (.tup (zt3 xs lo hi)))
theorem q1y:SlR X (zzk X.K):=by
 intro pins s σ H x v vl vu lo hi sl Q I rx hs pl pu h
 obtain⟨a,xs,rfl,hx,hw,q⟩:=h
 cases rx
 obtain⟨its,r,ht,hz⟩:=I.tuple hx
 have hlen:its.toArray.size=xs.length:=by rw [List.size_toArray]; exact r.length.symm
 refine⟨"tuple",_,PyProof.Rows.slot_tuple_getitem.lookup,ht.typeIs,?_⟩
 refine HT.zg4 ht hs pl pu (by rw [hlen]; exact hw) ?_ (by rw [hlen]; exact hz)
 rw [hlen]
 refine⟨.ref s.heap.objs.size,_,I.laid (t':=s.toks) (o:=.tup (zt3 xs lo hi)) (fun b ob q=>Heap.get?_push_of_some _ q) (Nat.le_refl _) ?_,rfl,q _ (I.hok.fresh (Nat.le_refl _))⟩
 exact⟨Nat.le_trans (ziy xs lo hi) hz,_,(r.drop (HT.sIx xs.length 0 lo)).take (HT.sIx xs.length xs.length hi - HT.sIx xs.length 0 lo),IsTup.new _ _⟩
def q48(K:PySem.W.Frag):R2:=fun x y H Q=>∃a b xs ys,x=.ref a/\y=.ref b/\SqT K H a xs/\SqT K H b ys/\xs≠[]/\xs.length+ys.length<=sizeLine/\
 (ys=[]->Q (.ref a) H)/\(ys≠[]->∀p,H p=none->Q (.ref p) (upd H p (.tup (xs++ys))))
theorem Vals.nil_iff{xs:List V}{us:List Value}(r:Vals xs us):us=[]↔xs=[]:=by
 cases r with
 | nil=>simp
 | cons _ _=>simp
theorem q04:OpR X (binaryOp .Add) (q48 X.K):=by
 intro pins s σ H x y v u Q I rx ry h
 obtain⟨a,b,xs,ys,rfl,rfl,ha,hb,hx,hz,q1,q2⟩:=h
 cases rx
 cases ry
 obtain⟨its,r1,p1,_⟩:=I.tuple ha
 obtain⟨its2,r2,p2,_⟩:=I.tuple hb
 refine HT.q12 p1 p2 (fun z=>hx (r1.nil_iff.mp z)) (fun z=>⟨.ref a,H,I,rfl,q1 (r2.nil_iff.mp z)⟩) (fun z=>?_) (by rw [<- r1.length,<- r2.length]; exact hz)
 refine⟨.ref s.heap.objs.size,_,I.laid (t':=s.toks) (o:=.tup (xs++ys)) (fun b ob q=>Heap.get?_push_of_some _ q) (Nat.le_refl _) ?_,rfl,q2 (fun w=>z (r2.nil_iff.mpr w)) _ (I.hok.fresh (Nat.le_refl _))⟩
 exact⟨by rw [List.length_append]; exact hz,_,r1.append r2,IsTup.new _ _⟩
end
end L2
namespace L2
open PySem PySem.Spec PyProof.Rows
def ixN(n:Nat)(i:Int):Option Nat:=if 0<=i then(if i < n then some i.toNat else none) else if -(n:Int)<=i then some (i+n).toNat else none
def atI{α : Type}(xs:List α)(i:Int):Option α:=(ixN xs.length i).bind fun j=>xs[j]?
theorem q0e{n:Nat}{i:Int}{j:Nat}(h:ixN n i=some j):seqIndex? i n=some j/\j < n/\-(n:Int)<=i/\i < n:=by
 unfold ixN at h
 by_cases h0:0<=i
 ·rw [if_pos h0] at h
  by_cases h1:i < n
  ·rw [if_pos h1] at h
   have e:i.toNat=j:=Option.some.inj h
   exact⟨by rw [seqIndex_of h0 h1,e],by omega,by omega,h1⟩
  ·rw [if_neg h1] at h; cases h
 ·rw [if_neg h0] at h
  by_cases h1 : -(n:Int)<=i
  ·rw [if_pos h1] at h
   have e:(i+n).toNat=j:=Option.some.inj h
   exact⟨by rw [seqIndex_neg (by omega) h1,e],by omega,h1,by omega⟩
  ·rw [if_neg h1] at h; cases h
theorem zwe{α : Type}{xs:List α}{i:Int}{v : α}(h:atI xs i=some v):∃j,seqIndex? i xs.length=some j/\xs[j]?=some v/\j < xs.length/\-(xs.length:Int)<=i/\i < xs.length:=by
 unfold atI at h
 cases e:ixN xs.length i with
 | none=>rw [e] at h; cases h
 | some j=>
  rw [e] at h
  obtain⟨h1,h2,h3,h4⟩:=q0e e
  exact⟨j,h1,h,h2,h3,h4⟩
theorem z1i{α : Type}{xs:List α}{j:Nat}{v : α}(h:xs[j]?=some v):atI xs (j:Int)=some v:=by
 have hj:j < xs.length:=(List.getElem?_eq_some_iff.mp h).1
 have e:ixN xs.length (j:Int)=some j:=by
  unfold ixN
  rw [if_pos (by omega),if_pos (by omega)]; simp
 unfold atI; rw [e]; exact h
def q18(b:Expr):Prop:=∀o i,subscripted b false o i=operate [o,i] (getItem o i)
def IxR(X:Cx)(r:R2):Prop:=
 ∀(value slice:Expr) (pins:List (Addr×Obj)) (s:Shared) (σ : St) (H:Hp) (x y:V) (v u:Value) (Q:VK),Inv X pins σ H s->RelV x v->RelV y u->r x y H Q->
  subscripted slice false v u=operate [v,u] (getItem v u)->wpAny (model X.prog X.w) X.A (subscriptTail value slice v u) (EP X pins σ Q) X.xe s
def MtR(X:Cx)(id:String)(r:V->List V->Hp->VK->Prop):Prop:=
 ∀(pins:List (Addr×Obj)) (s:Shared) (σ : St) (H:Hp) (x:V) (xs:List V) (v:Value) (us:List Value) (Q:VK),Inv X pins σ H s->RelV x v->Vals xs us->r x xs H Q->
  wpAny (model X.prog X.w) X.A (call (.builtin id) (v::us)) (EP X pins σ Q) X.xe s
section
variable{X:Cx}{a b:Expr}{ta tb:TE}{pos:Pos}
theorem IxR.or{r r':R2}(h:IxR X r)(h':IxR X r'):IxR X (fun x y H Q=>r x y H Q\/r' x y H Q):=by
 intro value slice pins s σ H x y v u Q I rx ry q hs
 rcases q with q | q
 ·exact h value slice pins s σ H x y v u Q I rx ry q hs
 ·exact h' value slice pins s σ H x y v u Q I rx ry q hs
theorem MtR.or{id:String}{r r':V->List V->Hp->VK->Prop}(h:MtR X id r)(h':MtR X id r'):MtR X id (fun x xs H Q=>r x xs H Q\/r' x xs H Q):=by
 intro pins s σ H x xs v us Q I rx rs q
 rcases q with q | q
 ·exact h pins s σ H x xs v us Q I rx rs q
 ·exact h' pins s σ H x xs v us Q I rx rs q
theorem z0z{r:R2}(hr:IxR X r)(ha:PE X a ta)(hb:PE X b tb)(hs:q18 b):PE X (.Subscript a b pos) (tOp r ta tb):=by
 intro pins s σ H Q I h
 exact Subscript_ (q4i ha hb I h fun v u s2 x y H2 I2 rx ry q=>hr a b pins s2 σ H2 x y v u Q I2 rx ry q (hs _ _))
def zyi(K:PySem.W.Frag):R2:=fun x y H Q=>∃p xs i v,x=.ref p/\y=.int i/\SqL K H p xs/\atI xs i=some v/\Q v H
def zu1(K:PySem.W.Frag):R2:=fun x y H Q=>∃p xs i v,x=.ref p/\y=.int i/\SqT K H p xs/\atI xs i=some v/\Q v H
def zzm:R2:=fun x y H Q=>∃z i c,x=.str z/\y=.int i/\z.length<=sizeLine/\atI z.cps.toList i=some c/\Q (.str ⟨#[c]⟩) H
theorem z4n:IxR X (zyi X.K):=by
 intro value slice pins s σ H x y v u Q I rx ry h hs
 obtain⟨p,xs,i,z,rfl,rfl,hq,he,q⟩:=h
 cases rx
 obtain⟨t,rfl⟩:=ry
 obtain⟨its,r,pl,hz⟩:=I.list hq
 obtain⟨j,h1,h2,h3,h4,h5⟩:=zwe he
 obtain⟨w,ew,rw'⟩:=r.get h2
 have hl:=r.length
 have hn:=zqv
 have fin:EP X pins σ Q w s:=⟨z,H,I,rw',q⟩
 by_cases h0:0<=i
 ·have hj:i.toNat=j:=by
   rw [seqIndex_of h0 h5] at h1
   exact Option.some.inj h1
  exact item_listR pl.isList h0 (by omega) (by rw [hj]; simpa using ew) fin hs
 ·have hj:(i+(its.toArray.size:Int)).toNat=j:=by
   rw [seqIndex_neg (by omega) h4] at h1
   rw [List.size_toArray,<- hl]
   exact Option.some.inj h1
  exact subscriptTail_builtinR (x:=w) pl.isList.typeIs slot_list_getitem.lookup
   (wpAny_getItem_list_neg (Q:=fun r s'=>r=w/\EP X pins σ Q r s') pl.isList (by omega) (by rw [List.size_toArray]<;>omega) (by omega) (by rw [hj]; simpa using ew) ⟨rfl,fin⟩) hs
theorem z0p:IxR X (zu1 X.K):=by
 intro value slice pins s σ H x y v u Q I rx ry h hs
 obtain⟨p,xs,i,z,rfl,rfl,hq,he,q⟩:=h
 cases rx
 obtain⟨t,rfl⟩:=ry
 obtain⟨its,r,pl,hz⟩:=I.tuple hq
 obtain⟨j,h1,h2,h3,h4,h5⟩:=zwe he
 obtain⟨w,ew,rw'⟩:=r.get h2
 have hl:=r.length
 have hn:=zqv
 have fin:EP X pins σ Q w s:=⟨z,H,I,rw',q⟩
 exact subscriptTail_builtinR (x:=w) pl.typeIs slot_tuple_getitem.lookup
  (getItem_tuple (j:=j) (Q:=fun r s'=>r=w/\EP X pins σ Q r s') pl (by omega) (by omega) (by rw [List.size_toArray,<- hl]; exact h1) (by simpa using ew) ⟨rfl,fin⟩) hs
def rIx(K:PySem.W.Frag):R2:=fun x y H Q=>zyi K x y H Q\/zu1 K x y H Q\/zzm x y H Q
theorem Inv.lst{pins:List (Addr×Obj)}{σ : St}{H:Hp}{s:Shared}{p:Addr}{xs:List V}(I:Inv X pins σ H s)(h:H p=some (.lst xs)) :
  ∃(its:List Value) (n:Nat),Vals xs its/\s.heap.get? p=some {cls:=.type "list",data:=.seq its.toArray n}/\xs.length<=sizeLine:=by
 obtain⟨z,its,n,r,e⟩:=I.hok p _ h
 exact⟨its,n,r,e,z⟩
theorem zmc(lo hi:Option Int)(n:Nat):(sliceBounds lo hi none n).1=((HT.sIx n 0 lo:Nat):Int)/\(sliceBounds lo hi none n).2.1=((HT.sIx n n hi:Nat):Int)/\(sliceBounds lo hi none n).2.2=1:=by
 refine⟨?_,?_,rfl⟩
 ·cases lo with
  | none=>simp[sliceBounds,HT.sIx]
  | some i=>
   simp only[sliceBounds,HT.sIx,Option.getD_none,show(1:Int) > 0 by decide,if_true]
   by_cases h:i < 0
   ·simp only[h,if_true]<;>omega
   ·simp only[h,if_false]<;>omega
 ·cases hi with
  | none=>simp[sliceBounds,HT.sIx]
  | some i=>
   simp only[sliceBounds,HT.sIx,Option.getD_none,show(1:Int) > 0 by decide,if_true]
   by_cases h:i < 0
   ·simp only[h,if_true]<;>omega
   ·simp only[h,if_false]<;>omega
theorem zko(its:List Value)(lo hi:Option Int):slicePick its.toArray lo hi none=((its.drop (HT.sIx its.length 0 lo)).take (HT.sIx its.length its.length hi - HT.sIx its.length 0 lo)).toArray:=by
 obtain⟨h1,h2,h3⟩:=zmc lo hi its.toArray.size
 unfold slicePick
 rw [h1,h2,h3]
 simp only[sliceRange_one,pick_run,List.size_toArray]<;>rfl
def zzl(K:PySem.W.Frag):V->Option Int->Option Int->Hp->VK->Prop:=fun x lo hi H Q=>∃a xs,x=.ref a/\SqL K H a xs/\∀p,H p=none->Q (.ref p) (upd H p (.lst (zt3 xs lo hi)))
theorem ztx:SlR X (zzl X.K):=by
 intro pins s σ H x v vl vu lo hi sl Q I rx hs pl pu h
 obtain⟨a,xs,rfl,hx,q⟩:=h
 cases rx
 obtain⟨its,r,ht,hz⟩:=I.list hx
 have hlen:=r.length
 refine⟨"list",_,slot_list_getitem.lookup,ht.isList.typeIs,?_⟩
 refine wpAny_getItem_list_slice ht.isList hs pl pu .none (by simp) ?_ (by rw [List.size_toArray]<;>omega)
 rw [zko,<- hlen]
 refine⟨.ref s.heap.objs.size,_,I.laid (t':=s.toks) (o:=.lst (zt3 xs lo hi)) (fun b ob q=>Heap.get?_push_of_some _ q) (Nat.le_refl _) ?_,rfl,q _ (I.hok.fresh (Nat.le_refl _))⟩
 exact⟨Nat.le_trans (ziy xs lo hi) hz,_,0,(r.drop (HT.sIx xs.length 0 lo)).take (HT.sIx xs.length xs.length hi - HT.sIx xs.length 0 lo),Heap.get?_push_size _ rfl⟩
def zbq:V->Bool
 | .non=>true
 | .bl _=>true
 | .int _=>true
 | .str _=>true
 | _=>false
def eqV:V->V->Bool
 | .non,.non=>true
 | .bl a,.bl b=>a == b
 | .bl a,.int b=>(if a then 1 else 0) == b
 | .int a,.bl b=>a == (if b then 1 else 0)
 | .int a,.int b=>a == b
 | .str a,.str b=>a == b
 | _,_=>false
theorem q31{A:Around}{s:Shared}{y x:V}{u v:Value}(ry:RelV y u)(rx:RelV x v)(fy:zbq y=true)(fx:zbq x=true):SeqAt.EqAt A s u v (eqV y x):=by
 cases y with
 | non=>
  cases ry
  cases x with
  | non=>cases rx; exact SeqAt.EqAt.same _
  | bl b=>cases rx; exact SeqAt.EqAt.none_bool b
  | int b=>obtain⟨t,rfl⟩:=rx; exact SeqAt.EqAt.none_int b t
  | str b=>obtain⟨t,rfl⟩:=rx; exact SeqAt.EqAt.none_str b t
  | _=>exact absurd (show false=true from fx) Bool.false_ne_true
 | bl a=>
  cases ry
  cases x with
  | non=>cases rx; exact SeqAt.EqAt.bool_none a
  | bl b=>cases rx; exact SeqAt.EqAt.bool_bool a b
  | int b=>obtain⟨t,rfl⟩:=rx; exact SeqAt.EqAt.bool_int a b t
  | str b=>obtain⟨t,rfl⟩:=rx; exact SeqAt.EqAt.bool_str a b t
  | _=>exact absurd (show false=true from fx) Bool.false_ne_true
 | int a=>
  obtain⟨t',rfl⟩:=ry
  cases x with
  | non=>cases rx; exact SeqAt.EqAt.int_none a t'
  | bl b=>cases rx; exact SeqAt.EqAt.int_bool a t' b
  | int b=>obtain⟨t,rfl⟩:=rx; exact SeqAt.EqAt.int_int a t' b t
  | str b=>obtain⟨t,rfl⟩:=rx; exact SeqAt.EqAt.int_str a t' b t
  | _=>exact absurd (show false=true from fx) Bool.false_ne_true
 | str a=>
  obtain⟨t',rfl⟩:=ry
  cases x with
  | non=>cases rx; exact SeqAt.EqAt.str_none a t'
  | bl b=>cases rx; exact SeqAt.EqAt.str_bool a t' b
  | int b=>obtain⟨t,rfl⟩:=rx; exact SeqAt.EqAt.str_int a t' b t
  | str b=>obtain⟨t,rfl⟩:=rx; exact SeqAt.EqAt.str_str a t' b t
  | _=>exact absurd (show false=true from fx) Bool.false_ne_true
 | _=>exact absurd (show false=true from fy) Bool.false_ne_true
def eqU(x:V)(u:Value):Bool:=match u with
 | .none=>eqV .non x
 | .bool b=>eqV (.bl b) x
 | .int i _=>eqV (.int i) x
 | .str z _=>eqV (.str z) x
 | _=>false
theorem zyx{x y:V}{u:Value}(r:RelV y u)(f:zbq y=true):eqU x u=eqV y x:=by
 cases y with
 | non=>cases r; rfl
 | bl b=>cases r; rfl
 | int i=>obtain⟨t,rfl⟩:=r; rfl
 | str z=>obtain⟨t,rfl⟩:=r; rfl
 | _=>exact absurd (show false=true from f) Bool.false_ne_true
theorem zj5{x:V}:∀{xs:List V} {us:List Value},Vals xs us->xs.all zbq=true->us.any (eqU x)=xs.any fun y=>eqV y x
 | _,_,.nil,_=>rfl
 | y::xs,u::us,.cons r t,f=>by
  rw [List.all_cons,Bool.and_eq_true] at f
  rw [List.any_cons,List.any_cons,zyx r f.1,zj5 t f.2]
theorem zep{A:Around}{s:Shared}{x:V}{v:Value}(rx:RelV x v)(fx:zbq x=true):∀{xs:List V} {us:List Value},Vals xs us->xs.all zbq=true->∀u∈us,SeqAt.EqAt A s u v (eqU x u)
 | _,_,.nil,_=>fun u hu=>by cases hu
 | y::xs,u::us,.cons r t,f=>fun u' hu=>by
  rw [List.all_cons,Bool.and_eq_true] at f
  rcases List.mem_cons.mp hu with rfl | hu
  ·rw [zyx r f.1]; exact q31 r rx f.1 fx
  ·exact zep rx fx t f.2 u' hu
def inV(x:V)(xs:List V):Bool:=xs.any fun y=>eqV y x
def rIn(K:PySem.W.Frag)(neg:Bool):R2:=fun x y H Q=>∃p xs,y=.ref p/\(SqL K H p xs\/SqT K H p xs)/\zbq x=true/\xs.all zbq=true/\Q (.bl (if neg then !inV x xs else inV x xs)) H
theorem zug:OpR X (compareOp .In) (rIn X.K false):=by
 intro pins s σ H x y v u Q I rx ry h
 obtain⟨p,xs,rfl,hq,fx,fs,q⟩:=h
 cases ry
 rcases hq with hq | hq
 ·obtain⟨its,r,pl,hz⟩:=I.list hq
  refine SeqAt.in_listAt (eqU x) pl.isList (fun w hw=>zep rx fx r fs w (by simpa using hw)) ⟨.bl _,H,I,rfl,?_⟩
  rw [show its.toArray.any (eqU x)=its.any (eqU x) by simp,zj5 r fs]
  exact q
 ·obtain⟨its,r,pl,hz⟩:=I.tuple hq
  refine SeqAt.in_tupleAt (eqU x) pl (fun w hw=>zep rx fx r fs w (by simpa using hw)) ⟨.bl _,H,I,rfl,?_⟩
  rw [show its.toArray.any (eqU x)=its.any (eqU x) by simp,zj5 r fs]
  exact q
theorem zmo:OpR X (compareOp .NotIn) (rIn X.K true):=by
 intro pins s σ H x y v u Q I rx ry h
 obtain⟨p,xs,rfl,hq,fx,fs,q⟩:=h
 cases ry
 rcases hq with hq | hq
 ·obtain⟨its,r,pl,hz⟩:=I.list hq
  refine SeqAt.notIn_listAt (eqU x) pl.isList (fun w hw=>zep rx fx r fs w (by simpa using hw)) ⟨.bl _,H,I,rfl,?_⟩
  rw [show its.toArray.any (eqU x)=its.any (eqU x) by simp,zj5 r fs]
  exact q
 ·obtain⟨its,r,pl,hz⟩:=I.tuple hq
  refine SeqAt.notIn_tupleAt (eqU x) pl (fun w hw=>zep rx fx r fs w (by simpa using hw)) ⟨.bl _,H,I,rfl,?_⟩
  rw [show its.toArray.any (eqU x)=its.any (eqU x) by simp,zj5 r fs]
  exact q
theorem zmn:OpR X (compareOp .NotIn) (fun x y H Q=>∃i j,x=.str i/\y=.str j/\Q (.bl (!(!(Builtin.Str.occurrences j i 0 j.length 1).isEmpty))) H):=by
 intro pins s σ H x y v u Q I rx ry h
 obtain⟨i,j,rfl,rfl,q⟩:=h
 obtain⟨t,rfl⟩:=rx
 obtain⟨t',rfl⟩:=ry
 exact notIn_str ⟨.bl _,H,I,rfl,q⟩
theorem zo2:CallR X (.builtin "len") (fun xs H Q=>∃p ys,xs=[.ref p]/\(SqL X.K H p ys\/SqT X.K H p ys)/\Q (.int ys.length) H):=by
 intro pins s σ H xs us Q I r h
 obtain⟨p,ys,rfl,hq,q⟩:=h
 obtain⟨u,rfl,rx⟩:=zz3 r
 cases rx
 have hn:=zqv
 rcases hq with hq | hq
 ·obtain⟨its,r',pl,hz⟩:=I.list hq
  have hlen:=r'.length
  exact Calls.call_len_list pl.isList (by simp only[List.size_toArray]<;>omega) ⟨.int ys.length,H,I.tok _,⟨s.toks+1,by rw [List.size_toArray,hlen]⟩,q⟩
 ·obtain⟨its,r',pl,hz⟩:=I.tuple hq
  have hlen:=r'.length
  exact len_tuple pl (by simp only[List.size_toArray]<;>omega) ⟨.int ys.length,H,I.tok _,⟨s.toks+1,by rw [List.size_toArray,hlen]⟩,q⟩
theorem zo1:CallR X (.builtin "len") (fun xs H Q=>∃z,xs=[.str z]/\z.length<=sizeLine/\Q (.int z.length) H):=by
 intro pins s σ H xs us Q I r h
 obtain⟨z,rfl,hz,q⟩:=h
 obtain⟨u,rfl,t,rfl⟩:=zz3 r
 have hn:=zqv
 exact len_str (by omega) ⟨.int z.length,H,I.tok _,⟨_,rfl⟩,q⟩
theorem CallR.or{f:Value}{r r':List V->Hp->VK->Prop}(h:CallR X f r)(h':CallR X f r'):CallR X f (fun xs H Q=>r xs H Q\/r' xs H Q):=by
 intro pins s σ H xs us Q I rs q
 rcases q with q | q
 ·exact h pins s σ H xs us Q I rs q
 ·exact h' pins s σ H xs us Q I rs q
theorem z4q:CallR X (.type "tuple") (fun xs H Q=>∃p ys,xs=[.ref p]/\((SqL X.K H p ys/\∀l,H l=none->Q (.ref l) (upd H l (.tup ys)))\/(SqT X.K H p ys/\Q (.ref p) H))):=by
 intro pins s σ H xs us Q I r h
 obtain⟨p,ys,rfl,h⟩:=h
 obtain⟨u,rfl,rx⟩:=zz3 r
 cases rx
 rcases h with⟨hq,q⟩ | ⟨hq,q⟩
 ·obtain⟨its,r',pl,hz⟩:=I.list hq
  have hlen:=r'.length
  refine call_tuple_list pl.isList (fun h' kp=>?_) (by simp only[List.size_toArray]<;>omega)
  have I1:Inv X pins σ H {s with heap:=h'}:=I.kept (t':=s.toks) kp
  have I2:Inv X pins σ (upd H h'.objs.size (.tup ys)) {s with heap:=h'.push {cls:=.type "tuple",data:=.seq its.toArray}}:=
   I1.laid (t':=s.toks) (fun b o e=>Heap.get?_push_of_some _ e) (Nat.le_refl _) (show ObjOk X.prog X.w _ _ _ (.tup ys) from⟨hz,its,r',IsTup.new _ _⟩)
  exact⟨.ref h'.objs.size,_,I2,rfl,q _ (I1.hok.fresh (Nat.le_refl _))⟩
 ·obtain⟨its,r',pl,hz⟩:=I.tuple hq
  exact call_tuple_same pl ⟨.ref p,H,I,rfl,q⟩
def tyV(K:PySem.W.Frag)(T:String)(x:V)(H:Hp):Prop:=match x with
 | .str _=>T = "str"
 | .int _=>T = "int"
 | .ref p=>(T = "list"/\∃xs,SqL K H p xs)\/(T = "tuple"/\∃o,K.lookup p=some o/\o.cls=.type "tuple"/\o.dict=none)\/
   (T = "dict"/\((∃kvs,H p=some (.dK kvs))\/∃kvs,H p=some (.dT kvs)))\/(T = "set"/\∃S n,H p=some (.set S n))
 | _=>False
theorem q1r{pins:List (Addr×Obj)}{σ : St}{H:Hp}{s:Shared}{T:String}{x:V}{v:Value}(I:Inv X pins σ H s)(r:RelV x v)(ty:tyV X.K T x H) :
  s.TypeIs v T/\∀a,v=.ref a->∃ob,s.heap.get? a=some ob/\ob.dict=none:=by
 cases x with
 | str z=>
  obtain⟨t,rfl⟩:=r
  cases (show T = "str" from ty)
  exact⟨typeIs_str s z t,fun _ e=>nomatch e⟩
 | int i=>
  obtain⟨t,rfl⟩:=r
  cases (show T = "int" from ty)
  exact⟨typeIs_int s i t,fun _ e=>nomatch e⟩
 | ref p=>
  cases r
  rcases ty with⟨rfl,xs,hq⟩ | ⟨rfl,o,hk,hc,hd⟩ | ⟨rfl,hk⟩ | ⟨rfl,S,n,hk⟩
  ·obtain⟨its,_,pl,_⟩:=I.list hq
   refine⟨pl.isList.typeIs,fun a e=>?_⟩
   cases e
   obtain⟨o,n,e,c,hd,_⟩:=pl
   exact⟨o,e,hd⟩
  ·refine⟨⟨o,I.kIn p o hk,hc⟩,fun a e=>?_⟩
   cases e
   exact⟨o,I.kIn _ o hk,hd⟩
  ·have z:∃o,s.heap.get? p=some o/\o.ExactDict:=by
    rcases hk with⟨kvs,hk⟩ | ⟨kvs,hk⟩
    ·obtain⟨_,_,_,_,o,_,_,e,ex,_⟩:=I.hok p _ hk
     exact⟨o,e,ex⟩
    ·obtain⟨_,_,_,_,o,_,_,e,ex,_⟩:=I.hok p _ hk
     exact⟨o,e,ex⟩
   obtain⟨o,e,ex⟩:=z
   refine⟨⟨o,e,ex.1⟩,fun a e2=>?_⟩
   cases e2
   exact⟨o,e,ex.2.1⟩
  ·obtain⟨o,_,_,_,e,ex,_⟩:=I.hok p _ hk
   refine⟨⟨o,e,ex.1⟩,fun a e2=>?_⟩
   cases e2
   exact⟨o,e,ex.2.1⟩
 | _=>exact False.elim ty
def tBM(K:PySem.W.Frag)(T:String)(r:V->List V->Hp->VK->Prop)(to:TE)(t:TA):TE:=fun σ H Q=>to σ H fun x H1=>tyV K T x H1/\t σ H1 fun xs H2=>r x xs H2 Q
variable{o e:Expr}{es:List Expr}{to:TE}{t:TA}{name:Str}{apos cpos:Pos}{T id:String}{r:V->List V->Hp->VK->Prop}
theorem zi3(pa:PlainAttrs T)(slot:Slot T name id) (hty:typeOf (.builtin id)=pure (.type "method_descriptor")) (hm:MtR X id r) (ho:PE X o to) (ha:PA X (e::es) t)
  (hbase:attributeBase o name X.env (eval o X.env)=eval o X.env:=by rfl)
  (hfew:((backTo cpos (starEach (e::es) X.env)).all (fun x=>!x.1) && (backToKw cpos (keywordEach [] X.env)).all (fun x=>x.1.isSome)
   && decide ((e::es).length+([]:List Keyword).length+(if([]:List Keyword).isEmpty then 0 else 1) < 30))=true:=by rfl)
  (hline:(apos.endLine == cpos.line)=true:=by rfl) (hs:starEach (e::es) X.env=(false,eval e X.env)::starEach es X.env:=by rfl) (hplain:(backTo cpos (starEach es X.env)).any (·.1)=false:=by rfl) :
  PE X (.Call (.Attribute o name apos) (e::es) [] cpos) (tBM X.K T r to t):=by
 intro pins s σ H Q I h
 refine wpAny_Call_method_late hbase hfew hline rfl (thn (ho pins s σ H _ I h) fun v s1 ⟨x,H1,I1,r1,ty,q1⟩=>?_)
 obtain⟨h1,h2⟩:=q1r I1 r1 ty
 refine⟨T,id,pa,slot,hty,h1,h2,?_⟩
 have hA:=ha cpos pins s1 σ H1 _ I1 q1
 rw [hs] at hA |-
 refine Calls.callWith_builtin (by show(false || (backTo cpos (starEach es X.env)).any (·.1))=false; rw [hplain]<;>rfl) (Calls.evalArgs_plain ?_)
 exact thn hA fun us s2 ⟨vs,H2,I2,r2,q2⟩=>hm pins s2 σ H2 x vs v us Q I2 r1 r2 q2
end
end L2
namespace L2
open PySem PySem.Spec PyProof.Rows
def MtM(X:Cx)(id:String)(r:V->List V->Hp->VK->Prop):Prop:=
 ∀(pins:List (Addr×Obj)) (s:Shared) (σ : St) (H:Hp) (x:V) (xs:List V) (v:Value) (us:List Value) (Q:VK),Inv X pins σ H s->RelV x v->Vals xs us->r x xs H Q->
  wpAny (model X.prog X.w) X.A (call (.builtin id) (v::us)) (EP X pins σ Q) X.xe s
theorem Vals.one:∀{x:V} {us:List Value},Vals [x] us->∃u,us=[u]/\RelV x u
 | _,_,.cons r .nil=>⟨_,rfl,r⟩
theorem Vals.two:∀{x y:V} {us:List Value},Vals [x,y] us->∃u v,us=[u,v]/\RelV x u/\RelV y v
 | _,_,_,.cons r (.cons q .nil)=>⟨_,_,rfl,r,q⟩
theorem Vals.zero:∀{us:List Value},Vals [] us->us=[]
 | _,.nil=>rfl
theorem znb(its:List Value):∀(k:Nat) (acc:List Value),
  List.foldl (fun x1 x2=>x1++x2) acc.toArray (List.replicate k its.toArray)=(acc++(List.replicate k its).flatten).toArray
 | 0,acc=>by simp
 | k+1,acc=>by
  have e:acc.toArray++its.toArray=(acc++its).toArray:=by simp
  have e2:(acc++its)++(List.replicate k its).flatten=acc++(List.replicate (k+1) its).flatten:=by
   rw [List.replicate_succ,List.flatten_cons,List.append_assoc]
  rw [<- e2,<- znb its k (acc++its),<- e,List.replicate_succ,List.foldl_cons]
section
variable{X:Cx}{pins:List (Addr×Obj)}{σ : St}{H:Hp}{s:Shared}{l b:Addr}{xs ys zs:List V}
theorem Inv.lset{its its':List Value}{n:Nat}{f:Array Value->Array Value}{t':Nat}(I:Inv X pins σ H s)(hH:H l=some (.lst xs))
  (e:s.heap.get? l=some {cls:=.type "list",data:=.seq its.toArray n}) (hf:f its.toArray=its'.toArray) (hv:Vals ys its') (hz:ys.length<=sizeLine) :
  Inv X pins σ (upd H l (.lst ys)) {s with heap:=s.heap.update l (Obj.mapSeq f),toks:=t'}:=by
 have q:=PySem.IsL.update e f
 rw [hf] at q
 refine I.write (x:=l) (e:=l) (by rw [hH]; exact trivial) (.inl rfl) (fun b' u hb hu=>(Heap.get?_update_other s.heap (Obj.mapSeq f) (Ne.symm hb)).trans hu) ⟨_,q⟩ ?_
 exact⟨hz,its',_,hv,q⟩
theorem Inv.lnew{its:List Value}{t':Nat}(I:Inv X pins σ H s)(hv:Vals ys its)(hz:ys.length<=sizeLine) :
  Inv X pins σ (upd H s.heap.objs.size (.lst ys)) {s with heap:=s.heap.push {cls:=.type "list",data:=.seq its.toArray},toks:=t'}:=
 I.laid (fun _ _ q=>Heap.get?_push_of_some _ q) (Nat.le_refl _) ⟨hz,its,0,hv,Heap.get?_push_size _ rfl⟩
theorem Inv.fresh(I:Inv X pins σ H s):H s.heap.objs.size=none:=I.hok.fresh (Nat.le_refl _)
theorem Inv.lstM(I:Inv X pins σ H s)(hH:H l=some (.lst xs)):xs.length<=sizeLine/\∃(its:List Value) (n:Nat),Vals xs its/\xs.length=its.length/\s.heap.get? l=some {cls:=.type "list",data:=.seq its.toArray n}:=by
 obtain⟨z,its,n,r,e⟩:=I.hok l _ hH
 exact⟨z,its,n,r,r.length,e⟩
theorem zxa{n:Nat}(h:n<=sizeLine):Builtin.List.listTooLong n=false:=by
 unfold Builtin.List.listTooLong
 exact decide_eq_false (by omega)
end
section
variable{X:Cx}
def zdp:V->List V->Hp->VK->Prop:=fun x vs H Q=>∃l xs y,x=.ref l/\vs=[y]/\H l=some (.lst xs)/\xs.length < sizeLine/\Q .non (upd H l (.lst (xs++[y])))
theorem z7r:MtM X "list.append" zdp:=by
 intro pins s σ H x vs v us Q I rx rv h
 obtain⟨l,xs,y,rfl,rfl,hH,hz,q⟩:=h
 cases rx
 obtain⟨u,rfl,ru⟩:=rv.one
 obtain⟨z,its,n,r,hl,e⟩:=I.lstM hH
 refine call_meets F.slot_list_append ⟨_,e,rfl⟩ F.entry_list_append (F.args_list_append_2 _ _) (PySem.list_append l its.toArray n u (by rw [List.size_toArray]; omega)) ⟨e,?_⟩
 refine⟨.non,_,I.lset (its':=its++[u]) hH e (by simp) (r.append (.cons ru .nil)) ?_,rfl,q⟩
 rw [List.length_append,List.length_singleton]
 omega
def zdo:V->List V->Hp->VK->Prop:=fun x vs H Q=>∃l b xs zs,x=.ref l/\vs=[.ref b]/\H l=some (.lst xs)/\H b=some (.lst zs)/\xs.length+zs.length<=sizeLine/\Q .non (upd H l (.lst (xs++zs)))
theorem zmy:MtM X "list.extend" zdo:=by
 intro pins s σ H x vs v us Q I rx rv h
 obtain⟨l,b,xs,zs,rfl,rfl,hH,hB,hz,q⟩:=h
 cases rx
 obtain⟨u,rfl,ru⟩:=rv.one
 cases ru
 obtain⟨z,its,n,r,hl,e⟩:=I.lstM hH
 obtain⟨z2,its2,n2,r2,hl2,e2⟩:=I.lstM hB
 have hsz:its.toArray.size+its2.toArray.size<=sizeLine:=by rw [List.size_toArray,List.size_toArray]; omega
 have hlong:¬ (!its.toArray.isEmpty && Builtin.List.listTooLong (its.toArray.size+its2.toArray.size))=true:=by
  rw [zxa hsz,Bool.and_false]
  exact Bool.false_ne_true
 refine call_meets F.slot_list_extend ⟨_,e,rfl⟩ F.entry_list_extend (F.args_list_extend_2 _ _)
  (AutoSeq1.list_extend_list_list_0 l its.toArray n b its2.toArray n2 hlong (by rw [List.size_toArray]; omega) (by omega)) ⟨e,e2,?_⟩
 refine⟨.non,_,I.lset (its':=its++its2) hH e (by simp) (r.append r2) ?_,rfl,q⟩
 rw [List.length_append]
 omega
def zzn:R2:=fun x y H Q=>∃l b xs zs,x=.ref l/\y=.ref b/\H l=some (.lst xs)/\H b=some (.lst zs)/\xs.length+zs.length<=sizeLine/\∀p,H p=none->Q (.ref p) (upd H p (.lst (xs++zs)))
theorem zqs:OpR X (binaryOp .Add) zzn:=by
 intro pins s σ H x y v u Q I rx ry h
 obtain⟨l,b,xs,zs,rfl,rfl,hH,hB,hz,q⟩:=h
 cases rx
 cases ry
 obtain⟨z,its,n,r,hl,e⟩:=I.lstM hH
 obtain⟨z2,its2,n2,r2,hl2,e2⟩:=I.lstM hB
 refine PySem.P.add_list e e2 ?_ (by rw [List.size_toArray,List.size_toArray]; omega)
 have ea:its.toArray++its2.toArray=(its++its2).toArray:=by simp
 rw [ea]
 exact⟨.ref _,_,I.lnew (t':=s.toks) (r.append r2) (by rw [List.length_append]; omega),rfl,q _ I.fresh⟩
def q1h:R2:=fun x y H Q=>∃l k xs,x=.ref l/\y=.int k/\H l=some (.lst xs)/\-(2 ^ 63)<=k/\k < 2 ^ 63/\xs.length * k.toNat<=sizeLine/\
 ∀p,H p=none->Q (.ref p) (upd H p (.lst (List.replicate k.toNat xs).flatten))
theorem q0a{α : Type}(xs:List α)(k:Nat):(List.replicate k xs).flatten.length=k * xs.length:=by
 induction k with
 | zero=>simp
 | succ k ih=>rw [List.replicate_succ,List.flatten_cons,List.length_append,ih,Nat.succ_mul,Nat.add_comm]
end
section
variable{prog:Program}{w:World}{A:Around}{E:Value->Shared->Prop}{s:Shared}
end
section
variable{X:Cx}
end
end L2
namespace Att
open PySem PySem.W PySem.Calls PyProof.Rows
theorem zik{P:Params}{h:Heap}:∀(ns:List Int) (vs:List Value),WellAll P h vs (ns.map WData.int)->IntsAre vs ns:=by
 intro ns
 induction ns with
 | nil=>
  intro vs w
  rw [List.map_nil] at w
  cases w
  exact .nil
 | cons n ns ih=>
  intro vs w
  rw [List.map_cons] at w
  cases w with
  | cons a b=>
   cases a
   exact .cons _ _ (ih _ b)
theorem ztz{l:OpenLaw}{n:Nat}(hn:l.most=some n){P:Params}{h:Heap}{args:List WData}{vals:List Value}
  (hpre:l.row.toRowW.claim.pre args=true) (hwl:WellAll P h vals args) :
  ∃a vs ns,vals=[Value.ref a]/\args=[WData.list (ns.map WData.int)]/\h.get? a=some {cls:=.type "list",data:=.seq vs.toArray}/\IntsAre vs ns/\ns.length<=n:=by
 have hsh:WShape.hasAll [] args [.list .int]=true:=(pre_splitW hpre).1
 have hc:l.pre.holds [] {args:=args}=true:=(pre_splitW hpre).2
 obtain⟨d,r,rfl,h1,h2⟩:=hasAllW_cons hsh
 obtain rfl:=hasAllW_nil h2
 obtain⟨xs,rfl,h3⟩:=hasW_list h1
 obtain⟨ns,rfl⟩:=items_int h3
 have hlen:ns.length<=n:=by
  unfold OpenLaw.pre at hc
  have h4:(WTm.not (.lt (.lit (.int (n:Int))) (.len (.arg 0)))).holds [] {args:=[.list (ns.map .int)]}=true:=by
   have h4:=(holds_andW hc).1
   rw [hn] at h4
   exact h4
  have h5:=condW_of h4 (w_not (w_lt w_lit (w_len_list (w_arg rfl))))
  rw [List.length_map] at h5
  refine Nat.le_of_not_lt fun q=>?_
  have q':(n:Int) < ((ns.length:Nat):Int):=by omega
  first
   | (rw [decide_eq_true q'] at h5; exact absurd h5 (by decide))
   | (simp at h5; omega)
 cases hwl with
 | cons w1 w2=>
  cases w2
  cases w1 with
  | list ho hall=>exact⟨_,_,ns,rfl,rfl,ho,zik ns _ hall,hlen⟩
theorem zu4(l:OpenLaw)(args:List WData):l.row.toRowW.claim.post args (.bool true) args=true:=
 postW_of (r:=l.row.toRowW) (X:=(true == true))
  (show WShape.has [] (.bool true) .bool=true by first | rfl | decide | simp[WShape.has,WShape.arms,WShape.armsAll])
  (show(WTm.eq .res (.lit (.bool true))).value [] {args:=args,res:=some (.bool true),after:=args}=some (.bool (true == true)) from w_eq_bool (w_res rfl) w_lit) rfl
theorem zj3{l:OpenLaw}{n:Nat}{q:Program}{loose:List Str}{XP:(Str->Option Value)->Heap->Prop}{YP:World->Heap->Prop}{d:DefRec}
  (hn:l.most=some n) (hdf:d.params.defaults=[])
  (call:∀(w:World) (s₀ s₁:Shared) (mg mb:Str->Option Value) (fa:Addr) (o:Obj) (pm cd doc:Value) (a:Addr) (vs:List Value) (ns:List Int),
   Ground q loose [] XP w s₀ mg mb s₁.heap->YP w s₁.heap->
   s₁.heap.get? fa=some o->o.data=.func (docDef d.name d.params d.body d.scope pm cd doc)->s₁.heap.CodeRec cd d.name->mg d.name=some (.ref fa)->
   s₁.heap.get? a=some {cls:=.type "list",data:=.seq vs.toArray}->IntsAre vs ns->ns.length<=n->s₁.gens = #[]->
   codeAny (model l.prog w) callerA (.call (.ref fa) ⟨[.ref a],[]⟩) (fun r s'=>r=.ok (.ret (.bool true))/\OldK s₁.heap s'.heap/\s'.os=s₁.os/\AllBare s'.gens) s₁) :
  WalkO q loose XP YP l.row.toRowW d [] (fun f vs=>PySem.call f vs):=by
 intro w s₀ s₁ mg mb G Y fa o pm cd doc dV kV ho hd hcd hD hmg hg args vals as hpre hlay hrd hwl hlo
 obtain rfl:dV=.none:=Dflts.none hD hdf
 obtain rfl:kV=.none:=Dflts.noKw hD
 obtain⟨a,vs,ns,rfl,rfl,hobj,hints,hlen⟩:=ztz hn hpre hwl
 refine enter_call (codeAny_mono (call w s₀ s₁ mg mb fa o pm cd doc a vs ns G Y ho (fd_plain hd) hcd hmg hobj hints hlen hg) fun r s' hq=>?_)
 obtain⟨rfl,h2,h3,h4⟩:=hq
 exact⟨.inl ⟨.bool true,.bool true,[],rfl,fun _=>rfl,.bool true,zu4 l _,fun _=>⟨List.Pairwise.nil,fun _ hm=>(nomatch hm)⟩⟩,h2,h3,h4⟩
section
variable{prog:Program}{w:World}{A:Around}{E:Value->Shared->Prop}{s:Shared}{K:Frag}
def q4x(h:Heap)(L d:Addr):List (Addr×Obj):=(List.range h.objs.size).filterMap fun a=>if a=L\/a=d then none else(h.get? a).map fun o=>(a,o)
end
end Att
namespace L2
open PySem PySem.Spec PyProof.Rows
theorem zhk:∀{vs:List Value} {ns:List Int},IntsAre vs ns->Vals (ns.map V.int) vs
 | _,_,.nil=>.nil
 | _,_,.cons n t h=>.cons ⟨t,rfl⟩ (zhk h)
def q4k(H:Hp):Prop:=∀b,H b=none\/∃o xs,H b=some (.frz o (.lst xs))
theorem zxg{P:Program}{w:World}{K:PySem.W.Frag}{mg mb:Str->Option Value}{CX:CXT}{k:Nat}{fa a:Addr}{fd:FuncData}{x:Str}{sp:Sp}{s₁:Shared}{vs:List Value}{ns:List Int}
  (KX:K.In s₁.heap) (hns:s₁.heap.Ns mainGlobals mg) (hb:s₁.heap.Ns builtinsNs mb) (hbb:∀x:Str,x≠"__name__"->mb x=bootBuiltins x) (hlim:s₁.heap.NoLimit) (hg:s₁.gens = #[])
  (ha:s₁.heap.get? a=some {cls:=.type "list",data:=.seq vs.toArray}) (hi:IntsAre vs ns) (hl:ns.length<=sizeLine) (hr:Room k callerA)
  (F:∀base:Heap,K.In base->base.Ns mainGlobals mg->FnOk P w K mg base CX k fa fd [x] sp) (hbind:∀(s:Shared) (u:Value),BindsTo s fd ⟨[u],[]⟩ [(x,u)])
  (hsp:∀H:Hp,q4k H->SqL K H a (ns.map V.int)->sp [.ref a] H (fun v _=>v=.bl true) fun _ _ _=>False)
  (hCX:∀H e s',CX [] H s₁ (fun _ _ _=>False) e s'->False) :
  codeAny (model P w) callerA (.call (.ref fa) ⟨[.ref a],[]⟩) (fun r s'=>r=.ok (.ret (.bool true))/\OldK s₁.heap s'.heap/\s'.os=s₁.os/\AllBare s'.gens) s₁:=by
 have rv:=zhk hi
 have lenV:=hi.length
 have core:∀H:Hp,q4k H->SqL K H a (ns.map V.int)->HOk P w H s₁.heap->(∀b,H b≠none->b=a)->(H a≠none->K.lookup a=none)->
   codeAny (model P w) callerA (.call (.ref fa) ⟨[.ref a],[]⟩) (fun r s'=>r=.ok (.ret (.bool true))/\OldK s₁.heap s'.heap/\s'.os=s₁.os/\AllBare s'.gens) s₁:=by
  intro H hO hS hok hA hK
  have base_of:∀{b:Addr} {o:Obj},s₁.heap.get? b=some o->H b=none->(zps s₁.heap H).get? b=some o:=fun e n=>zqz e n
  have noA:∀{b:Addr} {o:Obj} {es:Array DictEntry} {ep:Nat},s₁.heap.get? b=some o->o.data=.dict es ep->H b=none:=fun {b o es ep} e d=>by
   cases q:H b with
   | none=>rfl
   | some u=>
    have e':b=a:=hA b (by rw [q]; simp)
    subst e'
    rw [ha] at e; cases e
    have d':Data.seq vs.toArray _=Data.dict es ep:=d
    cases d'
  have nsK:∀{b:Addr} {m:Str->Option Value},s₁.heap.Ns b m->(zps s₁.heap H).Ns b m:=fun {b m} ⟨o,es,ep,e,d,r⟩=>⟨o,es,ep,base_of e (noA e d),d,r⟩
  have hKb:K.In (zps s₁.heap H):=fun b o e=>base_of (KX b o e) (by
   cases q:H b with
   | none=>rfl
   | some u=>
    have e':b=a:=hA b (by rw [q]; simp)
    subst e'
    rw [hK (by rw [q]; simp)] at e; cases e)
  have hM:Mod K mg (zps s₁.heap H):=⟨hKb,nsK hns,⟨mb,nsK hb,hbb⟩,let ⟨mc,h1,h2⟩:=hlim; ⟨mc,nsK h1,h2⟩⟩
  have e0:Env0 P w K mg (zps s₁.heap H) callerA [] s₁ H:=⟨rfl,hM,fun b o e=>zun e,Nat.le_of_eq (zn7 _ _),trivial,fun b hb=>absurd (show b∈([]:List Addr) from hb) (by simp),hok,.of_eq hg⟩
  refine codeAny_mono ((F _ hKb (nsK hns)).run callerA [] s₁ H ⟨[.ref a],[]⟩ [.ref a] [.ref a] _ _ hr e0 (hbind s₁ (.ref a)) (.cons rfl .nil) (hsp H hO hS)) fun r s' h=>?_
  cases r with
  | error e=>exact(hCX H e s' h).elim
  | ok fl=>
   cases fl with
   | next=>exact False.elim h
   | brk=>exact False.elim h
   | cont=>exact False.elim h
   | ret u=>
    obtain⟨v,H',os,bare,un,hok',r',q⟩:=h
    have q':v=.bl true:=q
    subst q'
    obtain rfl:u=Value.bool true:=r'
    refine⟨rfl,OldK.of_keep fun b o e=>?_,os,bare⟩
    cases q:H b with
    | none=>exact un.keep b o e q (by intro z; exact absurd (show b∈([]:List Addr) from z) (by simp)) (by simp)
    | some u=>
     rcases hO b with z | ⟨ob,xs,z⟩
     ·rw [q] at z; cases z
     ·have z2:=un.frzs b ob _ z
      obtain⟨e1,_⟩:=hok b _ z
      obtain⟨e2,_⟩:=hok' b _ z2
      rw [e] at e1; cases e1
      exact e2
 cases hk:K.lookup a with
 | some o=>
  have e:=KX a o hk
  rw [ha] at e
  cases e
  refine core (fun _=>none) (fun _=>.inl rfl) (.inr ⟨_,vs.toArray,_,hk,rfl,rfl,rfl,by rw [List.size_toArray,lenV]; exact hl,by simpa using rv⟩) (fun b u z=>by have z':(none:Option HO)=some u:=z; cases z') (fun b z=>absurd rfl z) fun z=>absurd rfl z
 | none=>
  refine core (fun b=>if b=a then some (.frz {cls:=.type "list",data:=.seq vs.toArray} (.lst (ns.map V.int))) else none) (fun b=>?_) (.inl (.inr ⟨{cls:=.type "list",data:=.seq vs.toArray},if_pos rfl⟩)) (fun b u z=>?_) (fun b z=>?_) fun _=>hk
  ·by_cases hb:b=a
   ·exact .inr ⟨_,_,if_pos hb⟩
   ·exact .inl (if_neg hb)
  ·by_cases hb:b=a
   ·have z':=(if_pos hb).symm.trans z
    cases z'
    subst hb
    exact⟨ha,by rw [List.length_map]; exact hl,vs,_,rv,ha⟩
   ·have z':=(if_neg hb).symm.trans z
    cases z'
  ·by_cases hb:b=a
   ·exact hb
   ·exact absurd (if_neg hb) z
end L2
namespace L2
open PySem PySem.Spec PyProof.Rows
abbrev KOf{K:PySem.W.Frag}{h:Heap}(_:K.In h):PySem.W.Frag:=K
theorem q44{l:PySem.W.OpenLaw}{n k:Nat}{q:Program}{loose:List Str}{XP:(Str->Option Value)->Heap->Prop}{YP:World->Heap->Prop}{d:DefRec}{K:Params->PySem.W.Frag}{CX:World->CXT}{sp:World->Sp}{x:Str}
  (hn:l.most=some n) (hn2:n<=sizeLine) (hdf:d.params.defaults=[]) (hr:Room k callerA)
  (hY:∀(w:World) (h:Heap),YP w h->(K w.params).In h)
  (F:∀(w:World) (mg:Str->Option Value) (fa:Addr) (h:Heap),(K w.params).In h->h.Ns mainGlobals mg->mg d.name=some (.ref fa)->
   ∃fd:FuncData,(∀(s:Shared) (u:Value),BindsTo s fd ⟨[u],[]⟩ [(x,u)])/\
    ∀base:Heap,(K w.params).In base->base.Ns mainGlobals mg->FnOk l.prog w (K w.params) mg base (CX w) k fa fd [x] (sp w))
  (hsp:∀(w:World) (H:Hp) (a:Addr) (ns:List Int),ns.length<=n->q4k H->SqL (K w.params) H a (ns.map V.int)->sp w [.ref a] H (fun v _=>v=.bl true) fun _ _ _=>False)
  (hCX:∀(w:World) (H:Hp) (s:Shared) (e:Value) (s':Shared),CX w [] H s (fun _ _ _=>False) e s'->False) :
  PySem.W.WalkO q loose XP YP l.row.toRowW d [] (fun f vs=>PySem.call f vs):=by
 refine Att.zj3 hn hdf fun w s₀ s₁ mg mb fa o pm cd doc a vs ns G Y ho hd hcd hmg hobj hints hlen hg=>?_
 have KX:=hY w _ Y
 obtain⟨fd,hb,hF⟩:=F w mg fa _ KX G.T.g hmg
 exact zxg KX G.T.g G.T.b G.T.builtins G.T.nolimit hg hobj hints (Nat.le_trans hlen hn2) hr hF hb (fun H hO hS=>hsp w H a ns hlen hO hS) fun H e s'=>hCX w H s₁ e s'
end L2
namespace L2
open PySem PySem.Spec PyProof.Rows
def defArgs(s:Stmt):Arguments:=match s with
 | .FunctionDef _ a _ _ _ _ _ _ _ _=>a
 | _=>{posonlyargs:=[],args:=[],vararg:=none,kwonlyargs:=[],kw_defaults:=[],kwarg:=none,defaults:=[]}
def defBody(s:Stmt):List Stmt:=match s with
 | .FunctionDef _ _ b _ _ _ _ _ _ _=>b
 | _=>[]
def defScope(s:Stmt):Scope:=match s with
 | .FunctionDef _ _ _ _ _ _ sc _ _ _=>sc
 | _=>{kind:=.function,names:=[],isGenerator:=false,isCoroutine:=false}
abbrev CX0:CXT:=fun _ _ _ _ _ _=>False
abbrev E0:XK:=fun _ _ _=>False
structure Fun(K:PySem.W.Frag)(x qual:Str)(st:Stmt)(f:Addr)(fd:FuncData):Prop where
 ex:∃(oc:Value) (od:Option Addr) (kV doc pm:Value) (an:Option Addr) (cdv ct:Value) (osl:Array (Option Value)),
  fd=PySem.W.fnOf x qual (defArgs st) (defBody st) (defScope st) .none kV doc pm an cdv ct/\K.lookup f=some ⟨oc,od,.func fd,osl⟩/\PySem.W.codeIn K cdv qual=true
 kp:PySem.W.keepIn K (.ref f)=true
section
variable{P:Program}{w:World}{K:PySem.W.Frag}{mg:Str->Option Value}{base:Heap}
theorem Fun.ok{x qual:Str}{st:Stmt}{f:Addr}{fd:FuncData}{N ps:List Str}{k:Nat}{sp:Sp}(F:Fun K x qual st f fd)(S:FnScope N ps (defScope st))(len:∀vs H Q E,sp vs H Q E->vs.length=ps.length)
  (hbody:∀(cdv:Value) (A:Around) (outer:List Env) (s:Shared) (H:Hp) (vs:List V) (Q:VK) (E:XK),Room k (A.deeper (envOfC qual (defScope st) s.heap.objs.size f cdv))->sp vs H Q E->
   ∃t,PSs (z85 CX0 P w K mg base N qual (defScope st) f cdv A outer s H E).nox (defBody st) t/\t {nx:=fun _ H'=>Q .non H',rt:=Q} (start N vs) H):FnOk P w K mg base CX0 (k+1) f fd ps sp:=by
 obtain⟨oc,od,kV,doc,pm,an,cdv,ct,osl,rfl,lk,hcd⟩:=F.ex
 refine zxq lk hcd S len fun A outer s H vs Q E hr hsp=>?_
 obtain⟨t,h,q⟩:=hbody cdv A outer s H vs Q E hr hsp
 exact⟨t,h.nox,q⟩
theorem Fun.binds{x qual:Str}{st:Stmt}{f:Addr}{fd:FuncData}{ps:List Str}(F:Fun K x qual st f fd)
  (h:∀(kV doc pm:Value) (an:Option Addr) (cdv ct:Value) (us:List Value),us.length=ps.length->bindArgs (PySem.W.fnOf x qual (defArgs st) (defBody st) (defScope st) .none kV doc pm an cdv ct) ⟨us,[]⟩=pure (ps.zip us)):Binds K fd ps []:=by
 obtain⟨oc,od,kV,doc,pm,an,cdv,ct,osl,rfl,lk,hcd⟩:=F.ex
 exact .all (h kV doc pm an cdv ct)
theorem z26{x qual:Str}{st:Stmt}{f:Addr}{oc:Value}{od an:Option Addr}{osl:Array (Option Value)}{kV doc pm cdv ct:Value}(l:K.lookup f=some ⟨oc,od,.func (PySem.W.fnOf x qual (defArgs st) (defBody st) (defScope st) .none kV doc pm an cdv ct),osl⟩)
  (c:PySem.W.codeIn K cdv qual=true) (k:PySem.W.keepIn K (.ref f)=true):Fun K x qual st f (PySem.W.fnOf x qual (defArgs st) (defBody st) (defScope st) .none kV doc pm an cdv ct):=⟨⟨oc,od,kV,doc,pm,an,cdv,ct,osl,rfl,l,c⟩,k⟩
end
theorem z3e{n:Nat}(h:n<=1000):n < sizeLine:=Nat.lt_of_le_of_lt h (by decide)
section
variable{X:Cx}
theorem pv(i:Nat){x:Str}{pos:Pos}(hN:X.N[i]?=some x:=by rfl)(hv:Vis X.env.scope x:=by first | exact Or.inl rfl | exact Or.inr (Or.inl rfl) | exact Or.inr (Or.inr rfl)) (hd:(x == ("__debug__" : Str))=false:=by decide)
  (hcd:(x == ("__classdict__" : Str))=false:=by decide):PE X (.Name x pos) (zq6 i):=z00 hN hv hd hcd
end
def Same(H H':Hp):Prop:=∀b o,H b=some o->H' b=some o
theorem Same.refl(H:Hp):Same H H:=fun _ _ h=>h
theorem Same.trans{H H1 H2:Hp}(a:Same H H1)(b:Same H1 H2):Same H H2:=fun c o h=>b c o (a c o h)
theorem Same.free{H H':Hp}(e:Same H H'){l:Addr}(h:H' l=Option.none):H l=Option.none:=by
 cases q:H l with
 | none=>rfl
 | some o=>
  rw [e l o q] at h
  cases h
theorem Same.seq{K:PySem.W.Frag}{H H':Hp}{a:Addr}{xs:List V}(e:Same H H')(h:SqL K H a xs):SqL K H' a xs:=by
 rcases h with(h | ⟨o,h⟩) | h
 ·exact .inl (.inl (e _ _ h))
 ·exact .inl (.inr ⟨o,e _ _ h⟩)
 ·exact .inr h
end L2
set_option Elab.async false
set_option linter.all false
set_option maxRecDepth 100000
namespace L2
open PySem PySem.Spec PyProof.Rows
theorem zq2(env:Env):∀(names:List (Str×NameKind)) (acc:List (Str×Addr)),(∀y∈names,y.2=.free->∃c,env.cells.lookup y.1=some c)->(∀x c,acc.lookup x=some c->env.cells.lookup x=some c)->
  ∃cl,(forIn names acc fun(p:Str×NameKind) (r:List (Str×Addr))=>(match p with | (name,kind)=>if(kind == NameKind.free)=true then(do let c <- cellOf env name; pure (ForInStep.yield ((name,c)::r))) else pure (ForInStep.yield r)):Sem (List (Str×Addr)))=pure cl/\
   (∀x c,cl.lookup x=some c->env.cells.lookup x=some c)/\(∀x,(∃c,acc.lookup x=some c)->∃c,cl.lookup x=some c)/\(∀y∈names,y.2=.free->∃c,cl.lookup y.1=some c)
 | [],acc,_,ha=>⟨acc,by simp,ha,fun _ h=>h,fun _ h=>absurd h (by simp)⟩
 | (n,k)::r,acc,hn,ha=>by
  by_cases hk:k=.free
  ·obtain⟨c,hc⟩:=hn (n,k) List.mem_cons_self hk
   have ha':∀x c',((n,c)::acc).lookup x=some c'->env.cells.lookup x=some c':=fun x c' h=>by
    by_cases hx:x=n
    ·subst hx
     rw [List.lookup_cons_self] at h
     cases h; exact hc
    ·have hx':(x == n)=false:=by simpa using hx
     simp only[List.lookup_cons,hx'] at h
     exact ha x c' h
   obtain⟨cl,e,p1,p2,p3⟩:=zq2 env r ((n,c)::acc) (fun y hy=>hn y (List.mem_cons_of_mem _ hy)) ha'
   refine⟨cl,?_,p1,fun x ⟨c',hc'⟩=>p2 x ?_,fun y hy hf=>?_⟩
   ·have hco:cellOf env n=pure c:=by unfold cellOf; rw [hc]
    rw [List.forIn_cons]
    subst hk
    simp only[beq_self_eq_true,if_true,hco,pure_bind]
    exact e
   ·by_cases hx:x=n
    ·exact⟨c,by subst hx; rw [List.lookup_cons_self]⟩
    ·have hx':(x == n)=false:=by simpa using hx
     exact⟨c',by simp only[List.lookup_cons,hx']; exact hc'⟩
   ·rcases List.mem_cons.mp hy with rfl | hy
    ·exact p2 _ ⟨c,by rw [List.lookup_cons_self]⟩
    ·exact p3 y hy hf
  ·obtain⟨cl,e,p1,p2,p3⟩:=zq2 env r acc (fun y hy=>hn y (List.mem_cons_of_mem _ hy)) ha
   refine⟨cl,?_,p1,p2,fun y hy hf=>?_⟩
   ·have hb:(k == NameKind.free)=false:=by simpa using hk
    rw [List.forIn_cons]
    simp only[hb,Bool.false_eq_true,if_false,pure_bind]
    exact e
   ·rcases List.mem_cons.mp hy with rfl | hy
    ·exact absurd hf hk
    ·exact p3 y hy hf
theorem q0x{scope:Scope}{env:Env}(h:∀y∈scope.names,y.2=.free->∃c,env.cells.lookup y.1=some c) :
  ∃cl,closureFor scope env=pure cl/\(∀x c,cl.lookup x=some c->env.cells.lookup x=some c)/\(∀y∈scope.names,y.2=.free->∃c,cl.lookup y.1=some c):=by
 obtain⟨cl,e,p1,_,p3⟩:=zq2 env scope.names [] h (fun x c q=>by simp at q)
 refine⟨cl,?_,p1,p3⟩
 unfold closureFor
 simp only[bind_pure]
 exact e
theorem z8u{env:Env}:∀{names:List (Str×NameKind)} {x:Str} {k:NameKind},(names.map fun(n,k)=>if(k == NameKind.free && env.scope.kind == .function && env.kindOf n == some .cell) then(n,NameKind.cell) else(n,k)).lookup x=some k->
  (∀y∈names,y.2≠.cell)->k=.cell\/k=.free->names.lookup x=some .free
 | [],_,_,h,_,_=>by simp at h
 | (n,k0)::r,x,k,h,hc,hk=>by
  have ih:=@z8u env r x k
  rw [List.map_cons] at h
  cases hx:x == n with
  | true=>
   have hn:k0≠.cell:=hc (n,k0) List.mem_cons_self
   simp only[List.lookup_cons,hx]
   by_cases hcnd:(k0 == NameKind.free && env.scope.kind == .function && env.kindOf n == some .cell)=true
   ·have:k0=.free:=by
     simp only[Bool.and_eq_true,beq_iff_eq] at hcnd
     exact hcnd.1.1
    rw [this]
   ·dsimp only at h
    rw [if_neg hcnd] at h
    simp only[List.lookup_cons,hx] at h
    have h:k0=k:=by simpa using h
    subst h
    rcases hk with hk | hk
    ·exact absurd hk hn
    ·rw [hk]
  | false=>
   simp only[List.lookup_cons,hx]
   refine ih ?_ (fun y hy=>hc y (List.mem_cons_of_mem _ hy)) hk
   by_cases hcnd:(k0 == NameKind.free && env.scope.kind == .function && env.kindOf n == some .cell)=true
   ·dsimp only at h
    rw [if_pos hcnd] at h
    simp only[List.lookup_cons,hx] at h; exact h
   ·dsimp only at h
    rw [if_neg hcnd] at h
    simp only[List.lookup_cons,hx] at h; exact h
def z6x(X:Cx)(N':List Str)(scope:Scope)(cl:List (Str×Addr))(C:Addr)(s₀:Shared)(H₀:Hp)(ex:List Addr):Cx:=
 {X with N:=N',s₀:=s₀,H₀:=H₀,env:=compEnvC scope cl C X.env,outer:=X.stack,stack:=X.stack,ex:=ex,fn:=fun _=>false,pn:=[],xe:=fun _ _=>False}
def subσ(mp:List (Option Nat))(σ : St):St:=mp.map fun o=>match o with | none=>none | some i=>(σ[i]?).getD none
def compOk(N:List Str)(on inn:List (Str×NameKind))(N':List Str)(mp:List (Option Nat)):Bool:=
 mp.length == N'.length && (N'.zip mp).all fun p=>match p.2 with
  | none=>true
  | some i=>N[i]? == some p.1 && inn.lookup p.1 == some .free && on.lookup p.1 == some .cell
def PIf(X:Cx)(ifs:List Expr)(t:TT):Prop:=
 ∀(pins:List (Addr×Obj)) (s:Shared) (σ : St) (H:Hp) (Q:Bool->Hp->Prop),Inv X pins σ H s->t σ H Q->
  wpAny (model X.prog X.w) X.A (forIn ifs true fun c r=>if r=true then do let ok <- isTrue c X.env (eval c X.env); pure (ForInStep.yield ok) else pure (ForInStep.yield r)) (TP X pins σ Q) X.xe s
def zy9:TT:=fun _ H Q=>Q true H
theorem zkw{X:Cx}:PIf X [] zy9:=fun pins s σ H Q I h=>wpAny_tests_nil ⟨H,I,h⟩
theorem zp7{X:Cx}{c:Expr}{t:TT}(h:PT X c t):PIf X [c] t:=fun pins s σ H Q I q=>wpAny_tests_one (h pins s σ H Q I q)
theorem zw2{prog:Program}{w:World}{A:Around}{s:Shared}{elt target iter:PySem.Expr}{ifs:List PySem.Expr}{scope:Scope}{pos:Pos}{it acc:Value}{env:Env}{R:Result->Shared->Prop}(I:Nat->Shared->Prop)
  (turn:∀n s,I n s->wpAny (model prog w) A (pyNext it) (fun r s₁=>match r with
   | none=>R (.ok .next) s₁
   | some v=>wpAny (model prog w) A (letOwnedTupleGo target it v) (fun _ s₀=>wpAny (model prog w) A (assign target env v) (fun _ s₂=>
     wpAny (model prog w) A (forIn ifs true fun c r=>if r=true then do let ok <- isTrue c env (eval c env); pure (ForInStep.yield ok) else pure (ForInStep.yield r)) (fun ok s₃=>if ok=true then wpAny (model prog w) A (eval elt env) (fun x s₄=>
      wpAny (model prog w) A (call (.builtin "list.append") [acc,x]) (fun _ s₅=>∃m,m < n/\I m s₅) (fun _ _=>False) s₄) (fun _ _=>False) s₃
      else ∃m,m < n/\I m s₃) (fun _ _=>False) s₂)
     (fun _ _=>False) s₀) (fun _ _=>False) s₁) (fun _ _=>False) s)
  (n:Nat) (h:I n s):codeAny (model prog w) A (.compLoop (.ListComp elt [⟨target,iter,ifs,0⟩] scope pos) 0 it acc env) R s:=by
 refine codeAny_loop rfl I (fun n s hI=>?_) n h
 show wpAny _ A ((compTurn (.ListComp elt [⟨target,iter,ifs,0⟩] scope pos) 0 it acc env).onRaise (fun x=>do noteFrame x env; theTreesLotGoes x)) _ _ s
 refine wpAny_noted ?_
 rw [compTurn_list]
 refine wpAny_bind (wpAny_standAt (wpAny_bind (wpAny_mono (turn n s hI) (fun r s₁ h₁=>?_) fun _ _ h'=>h'.elim)))
 cases r with
 | none=>exact wpAny_pure h₁
 | some v=>
  refine wpAny_bind (wpAny_mono h₁ (fun _ s₀ h₀'=>?_) fun _ _ h'=>h'.elim)
  refine wpAny_bind (wpAny_mono h₀' (fun _ s₂ h₂=>?_) fun _ _ h'=>h'.elim)
  refine wpAny_bind (wpAny_mono h₂ (fun okb s₃ h₃=>?_) fun _ _ h'=>h'.elim)
  cases okb with
  | false=>exact wpAny_pure ⟨rfl,h₃⟩
  | true=>exact wpAny_bind (wpAny_bind (wpAny_mono h₃ (fun x s₄ h₄=>wpAny_bind (wpAny_mono h₄ (fun _ s₅ h₅=>wpAny_pure (wpAny_pure ⟨rfl,h₅⟩)) fun _ _ h'=>h'.elim)) fun _ _ h'=>h'.elim))
theorem Inv.track{X:Cx}{pins:List (Addr×Obj)}{σ : St}{H:Hp}{s:Shared}{a:Addr}{o:HO}(I:Inv X pins σ H s)(hn:H a=none)(f:FpOk X pins H a)(new:ObjOk X.prog X.w (upd H a o) s.heap a o):Inv X pins σ (upd H a o) s:=by
 obtain⟨_,f1,f2,f3,f4,f5⟩:=f
 have na:∀b u,H b=some u->b≠a:=fun b u e=>z0d e hn
 have J:=I.step (g':=s.gens) (t':=s.toks) (d':=s.drawn) (ch:=[a]) (h':=s.heap) (H':=upd H a o) (fun b hb=>by
   have e:b=a:=by simpa using hb
   subst e
   exact⟨f3,f1,f4,f5⟩) (fun b o _ _ _ e _=>e) (fun b o _ _ _ e _=>⟨o.slots,e⟩) (fun b o hb _ n=>by rw [z0a (by simpa using hb)]; exact n) (fun b o _ e=>⟨o,e⟩)
  (fun b xs e=>by rw [z0a (na b _ e)]; exact e) (fun b o u e=>by rw [z0a (na b _ e)]; exact e) (fun b ps e=>⟨#[],by rw [z0a (na b _ e),e]; simp⟩) (fun m hm=>hm) (fun b u e=>by
   by_cases hb:b=a
   ·subst hb; rw [z01] at e; cases e; exact new
   ·rw [z0a hb] at e
    exact(I.hok b u e).stay (fun c v _ q=>q) (fun c q=>by rw [z0a (na c _ q)]; exact q) fun c xs q=>by rw [z0a (na c _ q)]; exact q) I.bare
 exact J
def zm1(wi:TI)(g:TG)(tt:TT)(te:TE)(mp:List (Option Nat)):TE:=fun σ H Q=>wi σ H fun J H1=>∃W:Nat->Nat->List V->St->Hp->Prop,(∃m,W 0 m [] (subσ mp σ) H1)/\∀i m ys σ H,W i m ys σ H->
 (J.stop i H/\ys.length<=sizeLine/\∀p,H p=none->Q (.ref p) (upd H p (.lst ys)))\/(J.go i H/\ys.length < sizeLine/\∃N:List V->St->Hp->Prop,(∀ys' σ' H',N ys' σ' H'->∃m',m' < m/\W (i+1) m' ys' σ' H')/\∀x H',J.yld i H x H'->g x σ H' fun σ2 H2=>tt σ2 H2 fun b H3=>
  if b=true then te σ2 H3 (fun v H4=>N (ys++[v]) σ2 H4) else N ys σ2 H3)
structure CompS(X:Cx)(N':List Str)(scope:Scope)(mp:List (Option Nat)):Prop where
 kind:scope.kind=.function
 nocell:∀y∈scope.names,y.2≠.cell
 locs:∀y∈scope.names,y.2=.local->scope.names.lookup y.1=some .local
 frees:∀y∈scope.names,y.2=.free->X.env.scope.names.lookup y.1=some .cell
 ok:compOk X.N X.env.scope.names scope.names N' mp=true
theorem zt5{N:List Str}{on inn:List (Str×NameKind)}{N':List Str}{mp:List (Option Nat)}(h:compOk N on inn N' mp=true):mp.length=N'.length/\∀(j:Nat) (x:Str) (i:Nat),N'[j]?=some x->mp[j]?=some (some i)->N[i]?=some x/\inn.lookup x=some .free/\on.lookup x=some .cell:=by
 unfold compOk at h
 rw [Bool.and_eq_true] at h
 obtain⟨h1,h2⟩:=h
 refine⟨by simpa using h1,fun j x i e1 e2=>?_⟩
 have hm:(x,some i)∈N'.zip mp:=by
  refine List.mem_of_getElem? (i:=j) ?_
  rw [List.getElem?_zip_eq_some]
  exact⟨e1,e2⟩
 have q:=List.all_eq_true.mp h2 _ hm
 simp only[Bool.and_eq_true,beq_iff_eq] at q
 exact⟨q.1.1,q.1.2,q.2⟩
theorem subσ_get{mp:List (Option Nat)}{σ : St}{j:Nat}{v:V}(h:(subσ mp σ)[j]?=some (some v)):∃i,mp[j]?=some (some i)/\σ[i]?=some (some v):=by
 unfold subσ at h
 rw [List.getElem?_map] at h
 cases e:mp[j]? with
 | none=>rw [e] at h; cases h
 | some o=>
  rw [e] at h
  cases o with
  | none=>simp at h
  | some i=>
   refine⟨i,rfl,?_⟩
   cases e2 : σ[i]? with
   | none=>simp[e2] at h
   | some z=>
    simp[e2] at h
    rw [h]
section
variable{X:Cx}{pins:List (Addr×Obj)}{σ : St}{H:Hp}
theorem zw3{elt tg iter:Expr}{ifs:List Expr}{scope:Scope}{pos:Pos}{N':List Str}{mp:List (Option Nat)}{g:TG}{tt:TT}{te:TE}{s₂:Shared}{it:Addr}{fp:List Addr}{tn:Nat->Heap->Prop}{J:It}{cl:List (Str×Addr)}
  {Qe:V->Hp->Prop} {RR:Value->Addr->Result->Shared->Prop} {E:Value->Shared->Prop} (hc:X.calm=true) (S:CompS X N' scope mp)
  (hcl:∀x c,cl.lookup x=some c->X.env.cells.lookup x=some c) (hcf:∀y∈scope.names,y.2=.free->∃c,cl.lookup y.1=some c)
  (hg:∀C s₀ H₀ ex,PG (z6x X N' scope cl C s₀ H₀ ex) tg g) (ht:∀C s₀ H₀ ex,PIf (z6x X N' scope cl C s₀ H₀ ex) ifs tt) (he:∀C s₀ H₀ ex,PE (z6x X N' scope cl C s₀ H₀ ex) elt te)
  (I:Inv X pins σ H s₂) (T:Turn X.prog X.w X.K tg J fp it tn) (st:tn 0 s₂.heap) (hf:∀b∈fp,FpOk X pins H b)
  (hw:∃W:Nat->Nat->List V->St->Hp->Prop,(∃m,W 0 m [] (subσ mp σ) H)/\∀i m ys σ H,W i m ys σ H->
   (J.stop i H/\ys.length<=sizeLine/\∀p,H p=none->Qe (.ref p) (upd H p (.lst ys)))\/(J.go i H/\ys.length < sizeLine/\∃N:List V->St->Hp->Prop,(∀ys' σ' H',N ys' σ' H'->∃m',m' < m/\W (i+1) m' ys' σ' H')/\∀x H',J.yld i H x H'->g x σ H' fun σ2 H2=>tt σ2 H2 fun b H3=>
  if b=true then te σ2 H3 (fun v H4=>N (ys++[v]) σ2 H4) else N ys σ2 H3))
  (hR:∀(D C:Addr) (H':Hp) (s':Shared),Inv X pins σ H' s'->Qe (.ref D) H'->(∃m,s'.heap.Ns C m)->FpOk X pins H' C->RR (.ref D) C (.ok .next) s') :
  wpAny (model X.prog X.w) X.A (newList []) (fun acc s₃=>wpAny (model X.prog X.w) X.A (newFunctionEnv scope X.env.globals cl [] X.env.qual none .none (some X.env)) (fun cenv s₄=>
   codeAny (model X.prog X.w) X.A (.compStart (.ListComp elt [⟨tg,iter,ifs,0⟩] scope pos) 0 (.ref it) acc {cenv with scope:=relabel scope X.env}) (RR acc cenv.locals) s₄) E s₃) E s₂:=by
 obtain⟨W,⟨m0,w0⟩,turn⟩:=hw
 refine wpAny_newObj_type (wpAny_newFunctionEnv S.nocell (by intro y hy; simp at hy) (fun h₁ hns₁ hsb₁=>?_) S.kind)
 dsimp only at hns₁ hsb₁ |-
 generalize hH2:s₂.heap.push {cls:=.type "list",dict:=none,data:=.seq ([]:List Value).toArray}=H2 at hns₁ hsb₁ |-
 have hCs:H2.objs.size=s₂.heap.objs.size+1:=by rw [<- hH2,Heap.size_push]
 have I3:Inv X pins σ H {s₂ with heap:=H2}:=by
  rw [<- hH2]
  exact I.kept (t':=s₂.toks) fun b o e=>Heap.get?_push_of_some _ e
 have k1:∀b u,H2.get? b=some u->h₁.get? b=some u:=fun b u e=>hsb₁.extBut b u (Nat.ne_of_lt (Heap.lt_size e)) (Heap.get?_push_of_some _ e)
 have accOk:FpOk X pins H s₂.heap.objs.size:=I.fpOk (Nat.le_refl _) (I.hok.fresh (Nat.le_refl _))
 have COk:FpOk X pins H H2.objs.size:=I3.fpOk (Nat.le_refl _) (I3.hok.fresh (Nat.le_refl _))
 have fpLt:∀b∈fp,b < s₂.heap.objs.size:=fun b hb=>let ⟨o,e,_⟩:=T.obj 0 _ st b hb; Heap.lt_size e
 have accNf:s₂.heap.objs.size∉fp:=fun z=>absurd (fpLt _ z) (Nat.lt_irrefl _)
 have accNC:s₂.heap.objs.size≠H2.objs.size:=by rw [hCs]; exact Nat.ne_of_lt (Nat.lt_succ_self _)
 have exAll:∀b∈s₂.heap.objs.size::fp,FpOk X pins H b:=fun b hb=>(List.mem_cons.mp hb).elim (fun e=>e ▸ accOk) (hf b)
 have exNC:∀b∈s₂.heap.objs.size::fp,b≠H2.objs.size:=fun b hb=>(List.mem_cons.mp hb).elim (fun e=>e ▸ accNC) fun z=>Nat.ne_of_lt (Nat.lt_trans (fpLt b z) (by rw [hCs]; exact Nat.lt_succ_self _))
 have stkN:∀b,FpOk X pins H b->b∉frs X.stack:=fun b f z=>(List.mem_cons.mp (I.stkSub b z)).elim f.2.1 f.2.2.1
 have ok':(z6x X N' scope cl H2.objs.size {s₂ with heap:=H2} H (s₂.heap.objs.size::fp)).Ok:=by
  refine⟨I.ok.mod,S.kind,I.ok.glob,I.ok.blt,Nat.le_refl _,fun x y c h1 h2=>I.ok.inj x y c (hcl x c h1) (hcl y c h2),fun x hx=>?_,fun x c hx=>absurd hx (by show ¬ false=true; decide),I.ok.hd,I.ok.frames,.inl rfl,
   fun b hb=>⟨exNC b hb,fun x c e=>(exAll b hb).2.2.2.2.1 x c (hcl x c e)⟩,fun b o e=>I3.bs b o e,Nat.le_trans I.ok.bsz I3.sz,fun b o e hb=>?_,fun b hb=>stkN b (exAll b hb),I3.stack,I3.stkFree⟩
  ·have hx':(relabel scope X.env).names.lookup x=some .cell\/(relabel scope X.env).names.lookup x=some .free:=hx
   have hfree:scope.names.lookup x=some .free:=by
    rcases hx' with z | z
    ·exact z8u z S.nocell (.inl rfl)
    ·exact z8u z S.nocell (.inr rfl)
   exact hcf (x,.free) (PySem.mem_of_lookup hfree) rfl
  ·rcases(exAll b hb).2.2.2.1 with z | z
   ·exact I.ok.noex b o e z
   ·exact absurd (Nat.lt_of_lt_of_le (Heap.lt_size e) (Nat.le_trans I.ok.bsz z)) (Nat.lt_irrefl _)
 obtain⟨hml,hmp⟩:=zt5 S.ok
 let XC:=z6x X N' scope cl H2.objs.size {s₂ with heap:=H2} H (s₂.heap.objs.size::fp)
 have J4:Inv (z6x X N' scope cl H2.objs.size {s₂ with heap:=H2} H (s₂.heap.objs.size::fp)) [] (subσ mp σ) H {s₂ with heap:=h₁,toks:=s₂.toks+([]:List (Str×Value)).length}:=by
  refine⟨ok',rfl,I.bare,Un.kept k1,⟨_,hns₁,fun j x v e1 e2 e3=>?_⟩,fun x c e=>?_,COk.1,fun x c e=>I.freeC x c (hcl x c e),fun p hp=>absurd (show p∈([]:List (Addr×Obj)) from hp) (by simp),I3.hok.kept k1,by show(subσ mp σ).length=N'.length; unfold subσ; rw [List.length_map,hml]⟩
  ·obtain⟨i,q1,q2⟩:=subσ_get e2
   obtain⟨n1,n2,n3⟩:=hmp j x i e1 q1
   obtain⟨m,hn,hl⟩:=I3.loc
   obtain⟨u,ru,lk⟩:=hl i x v n1 q2 (.inr (.inl n3))
   refine⟨u,ru,?_⟩
   rcases lk with⟨z,_⟩ | ⟨_,c,ec,z⟩
   ·have z':X.env.scope.names.lookup x=some .local:=z
    rw [n3] at z'; cases z'
   ·obtain⟨c',ec'⟩:=hcf (x,.free) (PySem.mem_of_lookup n2) rfl
    have e4:=hcl x c' ec'
    rw [ec] at e4; cases e4
    refine .inr ⟨?_,c,ec',?_⟩
    ·have z3:(relabel scope X.env).names.lookup x=some .local\/(relabel scope X.env).names.lookup x=some .cell\/(relabel scope X.env).names.lookup x=some .free:=e3
     rcases z3 with z3 | z3 | z3
     ·exfalso
      have:∀(names:List (Str×NameKind)),names.lookup x=some .free->(names.map fun(n,k)=>if(k == NameKind.free && X.env.scope.kind == .function && X.env.kindOf n == some .cell) then(n,NameKind.cell) else(n,k)).lookup x≠some .local:=by
       intro names
       induction names with
       | nil=>intro h; simp at h
       | cons p r ih=>
        obtain⟨n,k⟩:=p
        intro h
        cases hx:x == n with
        | true=>
         simp only[List.lookup_cons,hx] at h
         cases h
         rw [List.map_cons]
         dsimp only
         split<;>simp[List.lookup_cons,hx]
        | false=>
         simp only[List.lookup_cons,hx] at h
         rw [List.map_cons]
         dsimp only
         split<;>(simp only[List.lookup_cons,hx]; exact ih h)
      exact this scope.names n2 z3
     ·exact .inl z3
     ·exact .inr z3
    ·obtain⟨o,ho,hd⟩:=z
     exact⟨o,k1 _ _ ho,hd⟩
  ·obtain⟨v,o,ho,hd⟩:=I3.cell x c (hcl x c e)
   exact⟨v,o,k1 _ _ ho,hd⟩
 have acc4:h₁.get? s₂.heap.objs.size=some {cls:=.type "list",data:=.seq ([]:List Value).toArray 0}:=k1 _ _ (by rw [<- hH2]; exact Heap.get?_push_size _ rfl)
 have st4:tn 0 h₁:=T.keep _ _ _ st fun b _ o e=>k1 b o (by rw [<- hH2]; exact Heap.get?_push_of_some _ e)
 have fp4:∀{H':Hp},(∀b∈fp,H' b=none)->∀b∈fp,FpOk (z6x X N' scope cl H2.objs.size {s₂ with heap:=H2} H (s₂.heap.objs.size::fp)) [] H' b:=fun hn b hb=>
  ⟨hn b hb,exNC b (List.mem_cons_of_mem _ hb),stkN b (hf b hb),.inl (List.mem_cons_of_mem _ hb),fun x c e=>(hf b hb).2.2.2.2.1 x c (hcl x c e),fun p hp=>absurd (show p∈([]:List (Addr×Obj)) from hp) (by simp)⟩
 have acc5:∀{H':Hp},H' s₂.heap.objs.size=none->FpOk (z6x X N' scope cl H2.objs.size {s₂ with heap:=H2} H (s₂.heap.objs.size::fp)) [] H' s₂.heap.objs.size:=fun hn=>
  ⟨hn,accNC,stkN _ accOk,.inl List.mem_cons_self,fun x c e=>accOk.2.2.2.2.1 x c (hcl x c e),fun p hp=>absurd (show p∈([]:List (Addr×Obj)) from hp) (by simp)⟩
 have loop:∀s₃:Shared,s₃ = {s₂ with heap:=h₁,toks:=s₂.toks+([]:List (Str×Value)).length}->
   codeAny (model X.prog X.w) X.A (.compLoop (.ListComp elt [⟨tg,iter,ifs,0⟩] scope pos) 0 (.ref it) (.ref s₂.heap.objs.size) (compEnvC scope cl H2.objs.size X.env)) (RR (.ref s₂.heap.objs.size) H2.objs.size) s₃:=by
  rintro s₃ rfl
  refine zw2 (fun n s'=>∃i σ' H' ys its k,Inv (z6x X N' scope cl H2.objs.size {s₂ with heap:=H2} H (s₂.heap.objs.size::fp)) [] σ' H' s'/\tn i s'.heap/\(∀b∈fp,H' b=none)/\H' s₂.heap.objs.size=none/\
   Vals ys its/\s'.heap.get? s₂.heap.objs.size=some {cls:=.type "list",data:=.seq its.toArray k}/\W i n ys σ' H') ?_ m0 ⟨0,subσ mp σ,H,[],[],0,J4,st4,fun b hb=>(hf b hb).1,accOk.1,.nil,acc4,w0⟩
  rintro n s5 ⟨i,σ5,H5,ys,its,k,J5,st5,fr5,an5,vy,ea,w5⟩
  have zv:its.length=ys.length:=vy.length.symm
  have pinOk:∀{σ':St} {H':Hp} {s':Shared} {o:Obj},Inv XC [] σ' H' s'->H' s₂.heap.objs.size=none->s'.heap.get? s₂.heap.objs.size=some o->(∀v,o.data≠.cell v)->Inv XC [(s₂.heap.objs.size,o)] σ' H' s':=fun {σ' H' s' o} J a1 a2 a3=>J.pins_of fun p hp=>by
   have e:p=(s₂.heap.objs.size,o):=by simpa using hp
   subst e
   exact⟨a2,a1,accNC,stkN _ accOk,a3⟩
  have fp5:∀{H':Hp} {o:Obj},(∀b∈fp,H' b=none)->∀b∈fp,FpOk XC [(s₂.heap.objs.size,o)] H' b:=fun {H' o} hn b hb=>by
   obtain⟨c1,c2,c3,c4,c5,_⟩:=fp4 hn b hb
   refine⟨c1,c2,c3,c4,c5,fun p hp=>?_⟩
   have e:p=(s₂.heap.objs.size,o):=by
    have hp':p∈([]++[(s₂.heap.objs.size,o)]:List (Addr×Obj)):=hp
    simpa using hp'
   subst e
   intro z
   exact accNf (by rw [show s₂.heap.objs.size=b from z]; exact hb)
  have noc:∀(us:List Value) (k:Nat) (v:Option Value),({cls:=.type "list",data:=.seq us.toArray k}:Obj).data≠.cell v:=fun us k v z=>by
   have z':Data.seq us.toArray k=Data.cell v:=z
   cases z'
  have J5p:=pinOk J5 an5 ea (noc its k)
  rcases turn i n ys σ5 H5 w5 with⟨stop,zl,qn⟩ | ⟨go,zl,N,hN,step⟩
  ·refine thn (T.done XC rfl rfl rfl hc i _ s5 σ5 H5 _ J5p (fp5 fr5) st5 stop) fun r s6 ⟨hr,J6⟩=>?_
   subst hr
   have I6:Inv X pins σ H5 s6:=I3.call' (ch:=s₂.heap.objs.size::fp) (show s6.os=_ from J6.os) J6.base J6.hok J6.bare fun b hb=>let ⟨_,a1,_,a3,a4,a5⟩:=exAll b hb; ⟨a3,a1,a4,a5⟩
   have ea6:s6.heap.get? s₂.heap.objs.size=some {cls:=.type "list",data:=.seq its.toArray k}:=(J6.pin _ (List.mem_append_right _ (List.mem_singleton.mpr rfl))).1
   have I7:Inv X pins σ (upd H5 s₂.heap.objs.size (.lst ys)) s6:=I6.track an5 ⟨an5,accOk.2⟩ ⟨zl,its,k,vy,ea6⟩
   obtain⟨m,hm,_⟩:=J6.loc
   exact hR _ _ _ s6 I7 (qn _ an5) ⟨m,hm⟩ ⟨by rw [z0a (Ne.symm accNC)]; exact J6.free,COk.2⟩
  ·refine thn (T.item XC rfl rfl rfl hc i _ s5 σ5 H5 _ J5p (fp5 fr5) st5 go) fun r s6 ⟨u,hr,h6⟩=>?_
   subst hr
   refine thn h6 fun _ s7 ⟨x,H7,J7,r7,y7,st7,fr7⟩=>?_
   have an7:H7 s₂.heap.objs.size=none:=(J7.pin _ (List.mem_append_right _ (List.mem_singleton.mpr rfl))).2.1
   have J7':=J7.pinned (fp5 fr7) (T.obj _ _ st7)
   refine thn (hg _ _ _ _ _ s7 σ5 H7 x u _ J7' r7 (step x H7 y7)) fun _ s8 ⟨σ8,H8,J8,q8⟩=>?_
   refine thn (ht _ _ _ _ _ s8 σ8 H8 _ J8 q8) fun b s9 ⟨H9,J9,q9⟩=>?_
   have zcq:∀{σ':St} {H':Hp} {s':Shared},Inv XC ([(s₂.heap.objs.size,({cls:=.type "list",data:=.seq its.toArray k}:Obj))]++zmi fp s7.heap) σ' H' s'->
     Inv XC [] σ' H' s'/\tn (i+1) s'.heap/\(∀b∈fp,H' b=none)/\H' s₂.heap.objs.size=none/\s'.heap.get? s₂.heap.objs.size=some {cls:=.type "list",data:=.seq its.toArray k}:=fun {σ' H' s'} K=>by
    have pa:=K.pin (s₂.heap.objs.size,{cls:=.type "list",data:=.seq its.toArray k}) (List.mem_append_right _ (List.mem_append_left _ (List.mem_singleton.mpr rfl)))
    refine⟨K.pins_of (fun p hp=>absurd hp (by simp)),T.keep _ _ _ st7 fun b hb o e=>(K.pin (b,o) (List.mem_append_right _ (List.mem_append_right _ (zcu hb e)))).1,fun b hb=>?_,pa.2.1,pa.1⟩
    obtain⟨o,e,d⟩:=T.obj _ _ st7 b hb
    exact(K.pin (b,o) (List.mem_append_right _ (List.mem_append_right _ (zcu hb e)))).2.1
   cases b with
   | false=>
    rw [if_neg Bool.false_ne_true] at q9
    rw [if_neg Bool.false_ne_true]
    obtain⟨m',hm',w'⟩:=hN _ _ _ q9
    obtain⟨K1,K2,K3,K4,K5⟩:=zcq J9
    exact⟨m',hm',i+1,σ8,H9,ys,its,k,K1,K2,K3,K4,vy,K5,w'⟩
   | true=>
    rw [if_pos rfl] at q9
    rw [if_pos rfl]
    refine thn (he _ _ _ _ _ s9 σ8 H9 _ J9 q9) fun z s10 ⟨v,H10,J10,r10,q10⟩=>?_
    obtain⟨m',hm',w'⟩:=hN _ _ _ q10
    obtain⟨K1,K2,K3,K4,K5⟩:=zcq J10
    refine call_meets F.slot_list_append ⟨_,K5,rfl⟩ F.entry_list_append (F.args_list_append_2 _ _) (PySem.list_append s₂.heap.objs.size its.toArray k z (by rw [List.size_toArray]; omega)) ⟨K5,?_⟩
    have qa:=PySem.IsL.update K5 (fun x_1=>x_1.push z)
    have eqa:its.toArray.push z=(its++[z]).toArray:=by simp
    rw [eqa] at qa
    have kk:∀b o,b≠s₂.heap.objs.size->s10.heap.get? b=some o->(s10.heap.update s₂.heap.objs.size (Obj.mapSeq fun x_1=>x_1.push z)).get? b=some o:=fun b o hb hu=>(Heap.get?_update_other s10.heap (Obj.mapSeq fun x_1=>x_1.push z) (Ne.symm hb)).trans hu
    obtain⟨d0,d1,d2,d3,d4,d5⟩:=acc5 K4
    have K1':=K1.turned (h':=s10.heap.update s₂.heap.objs.size (Obj.mapSeq fun x_1=>x_1.push z)) (t':=s10.toks) kk d0 d1 d3 d4 d5
    exact⟨m',hm',i+1,σ8,H10,ys++[v],its++[z],_,K1',T.keep _ _ _ K2 (fun b hb o e=>kk b o (fun y=>accNf (by rw [<- y]; exact hb)) e),K3,K4,vy.append (.cons r10 .nil),qa,w'⟩
 exact codeAny_compStart_list (loop _ rfl) (T.self _ _ _ _ _ st4 (loop _ rfl))
theorem zdr{elt tg iter:Expr}{ifs:List Expr}{scope:Scope}{pos:Pos}(N':List Str)(mp:List (Option Nat)){wi:TI}{g:TG}{tt:TT}{te:TE}(hc:X.calm=true)(S:CompS X N' scope mp)(hi:PI X tg iter wi)
  (hg:∀cl C s₀ H₀ ex,PG (z6x X N' scope cl C s₀ H₀ ex) tg g) (ht:∀cl C s₀ H₀ ex,PIf (z6x X N' scope cl C s₀ H₀ ex) ifs tt) (he:∀cl C s₀ H₀ ex,PE (z6x X N' scope cl C s₀ H₀ ex) elt te)
  (hs:∀x,foldedSetIterable iter X.env x=pure x:=by intro _; rfl):PE X (.ListComp elt [⟨tg,iter,ifs,0⟩] scope pos) (zm1 wi g tt te mp):=by
 intro pins s σ H Q I h
 obtain⟨cl,e0,e1,e2⟩:=q0x (scope:=scope) (env:=X.env) fun y hy hf=>I.ok.has y.1 (.inl (S.frees y hy hf))
 rw [eval_ListComp]
 refine wpAny_comprehension_free (use:=none) rfl hs e0 S.kind S.locs (thn (hi pins s σ H _ I h) fun v s1 h1=>thn h1 fun itv s2 h2=>?_)
 obtain⟨it,fp,tn,J,H2,e,I2,T,st2,f2,hw⟩:=h2
 subst e
 refine zw3 (Qe:=Q) (RR:=fun acc C=>compPost (model X.prog X.w) X.A X.xe none (EP X pins σ Q) acc C) hc S e1 e2 (hg cl) (ht cl) (he cl) I2 T st2 f2 hw fun D C H' s' I' q ⟨m,hm⟩ ⟨f0,f1,_,f3,f4,f5⟩=>?_
 exact⟨m,hm,fun h' sb=>⟨.ref D,H',I'.turned (t':=s'.toks) (fun b o hb e=>(sb.2 b hb).trans e) f0 f1 f3 f4 f5,rfl,q⟩⟩
end
section
variable{K:PySem.W.Frag}{a:Addr}{xs:List V}{g:TG}{tt:TT}{te:TE}{σ : St}{H:Hp}{Q:VK}
abbrev zh7(J:It)(g:TG)(tt:TT)(te:TE)(Q:VK)(σ : St)(H:Hp):Prop:=∃W:Nat->Nat->List V->St->Hp->Prop,(∃m,W 0 m [] σ H)/\∀i m ys σ H,W i m ys σ H->
 (J.stop i H/\ys.length<=sizeLine/\∀p,H p=none->Q (.ref p) (upd H p (.lst ys)))\/(J.go i H/\ys.length < sizeLine/\∃N:List V->St->Hp->Prop,(∀ys' σ' H',N ys' σ' H'->∃m',m' < m/\W (i+1) m' ys' σ' H')/\∀x H',J.yld i H x H'->g x σ H' fun σ2 H2=>tt σ2 H2 fun b H3=>
  if b=true then te σ2 H3 (fun v H4=>N (ys++[v]) σ2 H4) else N ys σ2 H3)
theorem zfd(Pv:Nat->List V->St->Hp->Prop)(h0:Pv 0 [] σ H)(hz:xs.length < sizeLine)(hy:∀i ys σ H,Pv i ys σ H->ys.length<=i)(hl:∀i ys σ H,i<=xs.length->Pv i ys σ H->SqL K H a xs)
  (hs:∀i ys x σ H,xs[i]?=some x->Pv i ys σ H->g x σ H fun σ2 H2=>tt σ2 H2 fun b H3=>if b=true then te σ2 H3 (fun v H4=>Pv (i+1) (ys++[v]) σ2 H4) else Pv (i+1) ys σ2 H3)
  (hd:∀ys σ H,Pv xs.length ys σ H->∀p,H p=none->Q (.ref p) (upd H p (.lst ys))):zh7 (Itl K a) g tt te Q σ H:=by
 refine⟨fun i m ys σ H=>m=xs.length - i/\i<=xs.length/\Pv i ys σ H,⟨xs.length,by simp,Nat.zero_le _,h0⟩,?_⟩
 rintro i m ys σ H ⟨rfl,hi,p⟩
 have q:=hl i ys σ H hi p
 have hyl:=hy i ys σ H p
 by_cases hlt:i < xs.length
 ·refine .inr ⟨⟨xs,xs[i],q,by simp[hlt]⟩,by omega,Pv (i+1),fun ys' σ' H' p'=>⟨xs.length - (i+1),by omega,rfl,hlt,p'⟩,fun x H' y=>?_⟩
  obtain⟨e,y⟩:=y
  subst e
  exact hs i ys x σ _ (y xs q) p
 ·have e:i=xs.length:=by omega
  subst e
  exact .inl ⟨⟨xs,q,Nat.le_refl _⟩,by omega,hd ys σ H p⟩
theorem zy0(Pv:Nat->List V->St->Hp->Prop)(h0:Pv 0 [] σ H)(hz:xs.length < sizeLine)(hy:∀i ys σ H,Pv i ys σ H->ys.length<=i)(hl:∀i ys σ H,i<=xs.length->Pv i ys σ H->SqT K H a xs)
  (hs:∀i ys x σ H,xs[i]?=some x->Pv i ys σ H->g x σ H fun σ2 H2=>tt σ2 H2 fun b H3=>if b=true then te σ2 H3 (fun v H4=>Pv (i+1) (ys++[v]) σ2 H4) else Pv (i+1) ys σ2 H3)
  (hd:∀ys σ H,Pv xs.length ys σ H->∀p,H p=none->Q (.ref p) (upd H p (.lst ys))):zh7 (Itt K a) g tt te Q σ H:=by
 refine⟨fun i m ys σ H=>m=xs.length - i/\i<=xs.length/\Pv i ys σ H,⟨xs.length,by simp,Nat.zero_le _,h0⟩,?_⟩
 rintro i m ys σ H ⟨rfl,hi,p⟩
 have q:=hl i ys σ H hi p
 have hyl:=hy i ys σ H p
 by_cases hlt:i < xs.length
 ·refine .inr ⟨⟨xs,xs[i],q,by simp[hlt]⟩,by omega,Pv (i+1),fun ys' σ' H' p'=>⟨xs.length - (i+1),by omega,rfl,hlt,p'⟩,fun x H' y=>?_⟩
  obtain⟨e,y⟩:=y
  subst e
  exact hs i ys x σ _ (y xs q) p
 ·have e:i=xs.length:=by omega
  subst e
  exact .inl ⟨⟨xs,q,Nat.le_refl _⟩,by omega,hd ys σ H p⟩
end
end L2
set_option Elab.async false
set_option linter.all false
set_option maxRecDepth 100000
namespace L2
open PySem PySem.Spec PyProof.Rows
section
variable{X:Cx}
def zqk(K:PySem.W.Frag):R2:=fun x y H Q=>∃a b xs ys,x=.ref a/\y=.ref b/\SqT K H a xs/\SqT K H b ys/\xs.length+ys.length<=sizeLine/\
 (xs=[]->Q (.ref b) H)/\(xs≠[]->ys=[]->Q (.ref a) H)/\(xs≠[]->ys≠[]->∀p,H p=none->Q (.ref p) (upd H p (.tup (xs++ys))))
theorem z3x:OpR X (binaryOp .Add) (zqk X.K):=by
 intro pins s σ H x y v u Q I rx ry h
 obtain⟨a,b,xs,ys,rfl,rfl,ha,hb,hz,q0,q1,q2⟩:=h
 by_cases hx:xs=[]
 ·cases rx
  cases ry
  obtain⟨its,r1,p1,_⟩:=I.tuple ha
  obtain⟨its2,r2,p2,_⟩:=I.tuple hb
  obtain⟨⟨cls,dd,data,sl⟩,ho,hc,n,hd⟩:=id p1
  obtain⟨⟨cls2,dd2,data2,sl2⟩,ho2,hc2,n2,hd2⟩:=id p2
  simp only at hc hd hc2 hd2
  subst hc hd hc2 hd2
  have he:its=[]:=r1.nil_iff.mpr hx
  exact concat_meets ⟨_,ho,rfl⟩ ⟨_,ho2,rfl⟩ noFill_tuple_add seq_tuple_add PySem.F.slot_tuple_add PySem.F.entry_tuple_add (PySem.F.args_tuple_add_2 _ _)
   (tuple_addW0 a b its.toArray its2.toArray n n2 dd dd2 sl sl2 (by simp[he])) ⟨ho,ho2,⟨.ref b,H,I,rfl,q0 hx⟩⟩
 ·exact q04 pins s σ H _ _ v u Q I rx ry ⟨a,b,xs,ys,rfl,rfl,ha,hb,hx,hz,q1 hx,q2 hx⟩
def zre:V->PyData
 | .bl b=>.bool b
 | .int i=>.int i
 | .str x=>.str x
 | _=>.none
theorem zs4{h:Heap}{x:V}{u:Value}(r:RelV x u)(f:zbq x=true):Reads h u (zre x) []:=by
 cases x with
 | non=>cases r; exact .none
 | bl b=>cases r; exact .bool b
 | int i=>obtain⟨t,rfl⟩:=r; exact .int i t
 | str z=>obtain⟨t,rfl⟩:=r; exact .str z t
 | _=>exact absurd (show false=true from f) Bool.false_ne_true
theorem zej{h:Heap}:∀{xs:List V} {us:List Value},Vals xs us->xs.all zbq=true->ReadsAll h us (xs.map zre) []
 | _,_,.nil,_=>.nil
 | _::_,_::_,.cons r t,f=>by
  rw [List.all_cons,Bool.and_eq_true] at f
  exact .cons (zs4 r f.1) (zej t f.2)
def okV:V->Bool
 | .non=>true
 | .bl _=>true
 | .int _=>true
 | .str z=>PyData.strOk z
 | _=>false
theorem okV.flat{x:V}(h:okV x=true):zbq x=true:=by
 cases x<;>first | rfl | exact absurd (show false=true from h) Bool.false_ne_true
theorem okV.all{xs:List V}(h:xs.all okV=true):xs.all zbq=true:=List.all_eq_true.mpr fun x hx=>okV.flat (List.all_eq_true.mp h x hx)
theorem zqw:∀(xs:List V),xs.all okV=true->PyData.canLayAll0 (xs.map zre)=true/\PyData.depthAll (xs.map zre)<=1
 | [],_=>by simp[PyData.canLayAll0,PyData.depthAll]
 | x::xs,hz=>by
  rw [List.all_cons,Bool.and_eq_true] at hz
  have h1:(zre x).canLay0=true/\(zre x).depth<=1:=by
   cases x with
   | str z=>exact⟨by simpa [zre,PyData.canLay0,okV] using hz.1,by simp[zre,PyData.depth]⟩
   | _=>exact⟨by simp[zre,PyData.canLay0],by simp[zre,PyData.depth]⟩
  have h2:=zqw xs hz.2
  simp only[List.map_cons,PyData.canLayAll0,PyData.depthAll,h1.1,h2.1,Bool.and_self,true_and]
  have a1:=h1.2
  have a2:=h2.2
  omega
theorem zah{xs:List V}(h:xs.all okV=true):SeqAt.shaped (.list (xs.map zre))=true:=by
 have q:=zqw xs h
 unfold SeqAt.shaped
 simp only[PyData.canLay0,PyData.depth,q.1,Bool.true_and]
 have:=q.2
 exact decide_eq_true (by omega)
theorem Inv.readsL{pins:List (Addr×Obj)}{σ : St}{H:Hp}{s:Shared}{a:Addr}{xs:List V}(I:Inv X pins σ H s)(h:SqL X.K H a xs)(f:xs.all okV=true):∃as,Reads s.heap (.ref a) (.list (xs.map zre)) as:=by
 obtain⟨its,r,⟨o,n,e,c,_,d⟩,_⟩:=I.list h
 exact⟨_,.list e c d (by simpa using zej r (okV.all f))⟩
def eqL(xs ys:List V):Bool:=PyData.eqv (.list (xs.map zre)) (.list (ys.map zre))
def q4t(K:PySem.W.Frag)(neg:Bool):R2:=fun x y H Q=>∃a b xs ys,x=.ref a/\y=.ref b/\SqL K H a xs/\SqL K H b ys/\xs.all okV=true/\ys.all okV=true/\Q (.bl (if neg then !eqL xs ys else eqL xs ys)) H
theorem q2e(hu:X.A.units+64 < cLine):OpR X (compareOp .Eq) (q4t X.K false):=by
 intro pins s σ H x y v u Q I rx ry h
 obtain⟨a,b,xs,ys,rfl,rfl,ha,hb,fa,fb,q⟩:=h
 cases rx; cases ry
 obtain⟨as,ra⟩:=I.readsL ha fa
 obtain⟨bs,rb⟩:=I.readsL hb fb
 exact eq_dataH ra rb (zah fa) (zah fb) hu ⟨.bl _,H,I,rfl,q⟩
theorem q29(hu:X.A.units+64 < cLine):OpR X (compareOp .NotEq) (q4t X.K true):=by
 intro pins s σ H x y v u Q I rx ry h
 obtain⟨a,b,xs,ys,rfl,rfl,ha,hb,fa,fb,q⟩:=h
 cases rx; cases ry
 obtain⟨as,ra⟩:=I.readsL ha fa
 obtain⟨bs,rb⟩:=I.readsL hb fb
 exact ne_dataH ra rb (zah fa) (zah fb) hu ⟨.bl _,H,I,rfl,q⟩
theorem zvk(xs:List V):eqL xs []=xs.isEmpty:=by
 cases xs<;>simp[eqL,PyData.eqv,PyData.eqvAll]
theorem zq3:CallR X (.builtin "isinstance") (fun xs H Q=>∃x n t b,xs=[x,.ty n]/\TyOf X.K H x t/\PySem.W.kitOne X.K t (.type n)=some b/\Q (.bl b) H):=by
 intro pins s σ H xs us Q I r h
 obtain⟨x,n,t,b,rfl,ty,e,q⟩:=h
 obtain⟨u,u2,rfl,r1,r2⟩:=r.two
 cases r2
 exact zv4 I r1 ty e fun tk=>⟨.bl b,H,I.tok tk,rfl,q⟩
theorem zeb:∀{bs:List Bool} {us:List Value},Vals (bs.map V.bl) us->us=bs.map Value.bool
 | [],_,.nil=>rfl
 | b::bs,_::_,.cons r t=>by
  cases r
  rw [zeb t]; rfl
def Its(z:Str):It:=⟨fun i _=>i < z.cps.size,fun i H x H'=>H'=H/\∃c,z.cps[i]?=some c/\x=.str ⟨#[c]⟩,fun i _=>i=z.cps.size⟩
def q5j(tl:TE):TI:=fun σ H R=>tl σ H fun x H1=>∃z,x=.str z/\R (Its z) H1
open PySem.AutoSeq1 (wpAny_loadPart') in
theorem q1c(l:Addr)(items:Array Value)(n:Nat)(dd:Option Addr)(sl:Array (Option Value))(x:Int)(u:Tok)(h2:2<=x)(hx:x < 2 ^ 62)(hne:items.isEmpty=false)(hz:items.size * x.toNat<=sizeLine) :
  Meets (Builtin.«tuple.__mul__» ⟨[.ref l,.int x u],[]⟩) (fun _ R s=>s.heap.get? l=some {cls:=.type "tuple",dict:=dd,data:=.seq items n,slots:=sl}/\R (.ok (.ret (Value.ref s.heap.objs.size))) {s with heap:=s.heap.push {cls:=Value.type "tuple",data:=Data.seq (List.foldl (fun x1 x2=>x1++x2) #[] (List.replicate x.toNat items))},toks:=s.toks}):=
 .of_wp fun prog w A R s h=>by
  obtain⟨hp,g,d,tk,os⟩:=s; obtain⟨hl,h⟩:=h
  have f1:=AutoSeq1.idx_int
  have hs:sizeLine=16777216:=sizeLine_eq
  have hm:((items.size * x.toNat:Nat):Int)=(items.size:Int) * x:=by
   rw [Int.natCast_mul,Int.toNat_of_nonneg (by omega)]
  have c0:¬ (decide (x < -2 ^ 63) || decide (x ≥ 2 ^ 63))=true:=by
   simp only[Bool.or_eq_true,decide_eq_true_eq,not_or]
   omega
  have c1:¬ (items.isEmpty || x == 1)=true:=by
   rw [hne,Bool.false_or]
   simp only[beq_iff_eq]
   omega
  have c2:¬ (decide (x<=0) || items.isEmpty)=true:=by
   rw [hne,Bool.or_false]
   simp only[decide_eq_true_eq]
   omega
  have c3:¬ ((items.size:Int) * x > (2 ^ 63 - 1) / 8):=by
   rw [<- hm]
   have:(2 ^ 63 - 1:Int) / 8=1152921504606846975:=by decide
   rw [this]
   omega
  have c4:¬ Builtin.Tuple.tupleTooMany ((items.size:Int) * x)=true:=by
   unfold Builtin.Tuple.tupleTooMany
   simp only[decide_eq_true_eq]
   rw [<- hm]
   omega
  wp_walk using wpAny_loadPart' hl
  refine PySem.W.KFB.if_not (Bool.eq_false_iff.mpr c0) ?_
  wp_walk using wpAny_loadPart' hl
  refine PySem.W.KFB.if_not (Bool.eq_false_iff.mpr c1) ?_
  refine PySem.W.KFB.if_not (Bool.eq_false_iff.mpr c2) ?_
  dsimp only
  rw [if_neg c3]
  refine PySem.W.KFB.if_not (Bool.eq_false_iff.mpr c4) ?_
  refine wpAny_bind (wpAny_newObj_type (wpAny_pure ⟨_,rfl,h⟩) ?_)
  show(List.foldl (fun x1 x2=>x1++x2) #[] (List.replicate x.toNat items)).size<=sizeLine
  have e:=znb items.toList x.toNat []
  rw [List.nil_append] at e
  have e2:items.toList.toArray=items:=by simp
  rw [e2] at e
  rw [show([]:List Value).toArray = #[] from rfl] at e
  rw [e,List.size_toArray,q0a,Array.length_toList,Nat.mul_comm]
  exact hz
def zs5(K:PySem.W.Frag):R2:=fun x y H Q=>∃l k xs,x=.ref l/\y=.int k/\SqT K H l xs/\2<=k/\k < 2 ^ 62/\xs≠[]/\xs.length * k.toNat<=sizeLine/\
 ∀p,H p=none->Q (.ref p) (upd H p (.tup (List.replicate k.toNat xs).flatten))
end
end L2
set_option Elab.async false
set_option linter.all false
set_option maxRecDepth 100000
namespace L2
open PySem PySem.Spec PyProof.Rows
section
variable{X:Cx}
def Seq(K:PySem.W.Frag)(H:Hp)(a:Addr):Prop:=(∃xs,SqL K H a xs)\/∃xs,SqT K H a xs
theorem zx5(hu:X.A.units+64 < cLine):OpR X (compareOp .Eq) (fun x y H Q=>∃a z,x=.ref a/\y=.str z/\Seq X.K H a/\Q (.bl false) H):=by
 intro pins s σ H x y v u Q I rx ry h
 obtain⟨a,z,rfl,rfl,hq,q⟩:=h
 cases rx
 obtain⟨t,rfl⟩:=ry
 show wpAny _ _ (richCompare .Eq _ _) _ _ _
 rcases hq with⟨xs,hq⟩ | ⟨xs,hq⟩
 ·obtain⟨its,r,pl,hz⟩:=I.list hq
  exact SeqAt.RcAt.list_str z t pl.isList (by omega) _ _ _ _ ⟨.bl false,H,I,rfl,q⟩
 ·obtain⟨its,r,pl,hz⟩:=I.tuple hq
  exact SeqAt.RcAt.tuple_str z t (show s.heap.IsTuple a its.toArray from pl) (by omega) _ _ _ _ ⟨.bl false,H,I,rfl,q⟩
def isN:V->Bool
 | .non=>true
 | _=>false
def q2v:Value->Bool
 | .none=>true
 | _=>false
theorem zsi(hu:X.A.units+64 < cLine):OpR X (compareOp .In) (fun x y H Q=>∃p xs,x=.non/\y=.ref p/\SqL X.K H p xs/\(∀v∈xs,v=.non\/∃a ys,v=.ref a/\SqT X.K H a ys)/\Q (.bl (xs.any isN)) H):=by
 intro pins s σ H x y v u Q I rx ry h
 obtain⟨p,xs,rfl,rfl,hq,hall,q⟩:=h
 cases rx; cases ry
 obtain⟨its,r,pl,hz⟩:=I.list hq
 have hmem:∀(xs:List V) (us:List Value),Vals xs us->(∀v∈xs,v=.non\/∃a ys,v=.ref a/\SqT X.K H a ys)->(∀u∈us,SeqAt.EqAt X.A.in1 s u .none (q2v u))/\us.any q2v=xs.any isN:=by
  intro xs us rv
  induction rv with
  | nil=>intro _; exact⟨fun u hu=>(by cases hu),rfl⟩
  | cons rr _ ih=>
   intro ha
   obtain⟨i1,i2⟩:=ih fun v hv=>ha v (List.mem_cons_of_mem _ hv)
   rcases ha _ List.mem_cons_self with e | ⟨a,ys,e,hs⟩
   ·subst e
    cases rr
    refine⟨fun u hu'=>?_,by rw [List.any_cons,List.any_cons,i2]; rfl⟩
    rcases List.mem_cons.mp hu' with rfl | h'
    ·exact SeqAt.EqAt.same _
    ·exact i1 u h'
   ·subst e
    cases rr
    refine⟨fun u hu'=>?_,by rw [List.any_cons,List.any_cons,i2]; rfl⟩
    rcases List.mem_cons.mp hu' with rfl | h'
    ·obtain⟨its,_,ht,_⟩:=I.tuple hs
     exact SeqAt.EqAt.tuple_none (show s.heap.IsTuple a its.toArray from ht) (by show X.A.units+1 < _; omega)
    ·exact i1 u h'
 obtain⟨h1,h2⟩:=hmem xs its r hall
 refine SeqAt.in_listAt q2v pl.isList (fun w hw=>h1 w (by simpa using hw)) ⟨.bl _,H,I,rfl,?_⟩
 rw [show its.toArray.any q2v=its.any q2v by simp,h2]
 exact q
def q1j:R2:=fun x y H Q=>∃i j,x=.str i/\y=.str j/\Q (.bl (!decide (j.cps.toList < i.cps.toList))) H
def q1i:R2:=fun x y H Q=>∃i j,x=.str i/\y=.str j/\Q (.bl (decide (i.cps.toList < j.cps.toList))) H
def q3w(K:PySem.W.Frag)(x y:V)(H:Hp)(b:Bool):Prop:=(q40 x y=true/\b=decide (x=y))\/
 (∃a c xs ys,x=.ref a/\y=.ref c/\SqL K H a xs/\SqL K H c ys/\xs.all okV=true/\ys.all okV=true/\b=eqL xs ys)\/(∃a z,x=.ref a/\y=.str z/\Seq K H a/\b=false)
def qEq(K:PySem.W.Frag):R2:=fun x y H Q=>∃b,q3w K x y H b/\Q (.bl b) H
def qNe(K:PySem.W.Frag):R2:=fun x y H Q=>∃b,((q40 x y=true/\b=decide (x=y))\/(∃a c xs ys,x=.ref a/\y=.ref c/\SqL K H a xs/\SqL K H c ys/\xs.all okV=true/\ys.all okV=true/\b=eqL xs ys))/\Q (.bl (!b)) H
def q5w(K:PySem.W.Frag)(x y:V)(H:Hp)(b:Bool):Prop:=(∃p xs,y=.ref p/\(SqL K H p xs\/SqT K H p xs)/\zbq x=true/\xs.all zbq=true/\b=inV x xs)\/
 (∃i j,x=.str i/\y=.str j/\b = !(Builtin.Str.occurrences j i 0 j.length 1).isEmpty)\/
 (∃p xs,x=.non/\y=.ref p/\SqL K H p xs/\(∀v∈xs,v=.non\/∃a ys,v=.ref a/\SqT K H a ys)/\b=xs.any isN)
def qIn(K:PySem.W.Frag):R2:=fun x y H Q=>∃b,q5w K x y H b/\Q (.bl b) H
def q19(K:PySem.W.Frag)(x y:V)(H:Hp)(b:Bool):Prop:=(∃p xs,y=.ref p/\(SqL K H p xs\/SqT K H p xs)/\zbq x=true/\xs.all zbq=true/\b = !inV x xs)\/
 (∃i j,x=.str i/\y=.str j/\b = !(!(Builtin.Str.occurrences j i 0 j.length 1).isEmpty))\/
 (∃a p xs,x=.ref a/\y=.ref p/\Seq K H a/\SqT K H p xs/\(∀v∈xs,∃z,v=.str z)/\b=true)
def zge(K:PySem.W.Frag):R2:=fun x y H Q=>∃b,q19 K x y H b/\Q (.bl b) H
def q1a(K:PySem.W.Frag)(x:V)(H:Hp)(n:Nat):Prop:=(∃p ys,x=.ref p/\(SqL K H p ys\/SqT K H p ys)/\n=ys.length)\/∃z,x=.str z/\z.length<=sizeLine/\n=z.length
def zzp(K:PySem.W.Frag):List V->Hp->VK->Prop:=fun xs H Q=>∃x n,xs=[x]/\q1a K x H n/\Q (.int n) H
def zzq:R2:=fun x y H Q=>y=.non/\Q (.bl (decide (x=.non))) H
def zoz:R2:=fun x y H Q=>y=.non/\Q (.bl (!decide (x=.non))) H
def q1k:R2:=fun x y H Q=>∃a b,x=.bl a/\y=.bl b/\Q (.bl (a == b)) H
def zs7:R2:=fun x y H Q=>∃a b,x=.bl a/\y=.bl b/\Q (.bl (a !=b)) H
theorem zpd(hu:X.A.units+64 < cLine):OpR X (compareOp .NotIn) (fun x y H Q=>∃a p xs,x=.ref a/\y=.ref p/\Seq X.K H a/\SqT X.K H p xs/\(∀v∈xs,∃z,v=.str z)/\Q (.bl true) H):=by
 intro pins s σ H x y v u Q I rx ry h
 obtain⟨a,p,xs,rfl,rfl,hq,hp,hall,q⟩:=h
 cases rx; cases ry
 obtain⟨its,r,pl,hz⟩:=I.tuple hp
 have hmem:∀(xs:List V) (us:List Value),Vals xs us->(∀v∈xs,∃z,v=.str z)->∀u∈us,SeqAt.EqAt X.A.in1 s u (.ref a) ((fun _=>false) u):=by
  intro xs us rv
  induction rv with
  | nil=>intro _ u hu; cases hu
  | cons rr _ ih=>
   intro ha u hu'
   rcases List.mem_cons.mp hu' with rfl | h'
   ·obtain⟨z,e⟩:=ha _ List.mem_cons_self
    subst e
    obtain⟨t,rfl⟩:=rr
    rcases hq with⟨ys,hq⟩ | ⟨ys,hq⟩
    ·obtain⟨its,_,pl,_⟩:=I.list hq
     exact SeqAt.EqAt.str_list z t pl.isList (by show X.A.units+1 < _; omega)
    ·obtain⟨its,_,pl,_⟩:=I.tuple hq
     exact SeqAt.EqAt.str_tuple z t (show s.heap.IsTuple a its.toArray from pl) (by show X.A.units+1 < _; omega)
   ·exact ih (fun v hv=>ha v (List.mem_cons_of_mem _ hv)) u h'
 refine SeqAt.notIn_tupleAt (fun _=>false) pl (fun w hw=>hmem xs its r hall w (by simpa using hw)) ⟨.bl _,H,I,rfl,?_⟩
 have e:(!its.toArray.any fun _=>false)=true:=by simp
 rw [e]
 exact q
theorem gEq(hu:X.A.units+64 < cLine):OpR X (compareOp .Eq) (qEq X.K):=by
 intro pins s σ H x y v u Q I rx ry h
 obtain⟨b,h,q⟩:=h
 rcases h with⟨h,rfl⟩ | ⟨a,c,xs,ys,h1,h2,h3,h4,h5,h6,rfl⟩ | ⟨a,z,h1,h2,h3,rfl⟩
 ·exact q2f pins s σ H x y v u Q I rx ry ⟨h,q⟩
 ·exact q2e hu pins s σ H x y v u Q I rx ry ⟨a,c,xs,ys,h1,h2,h3,h4,h5,h6,q⟩
 ·exact zx5 hu pins s σ H x y v u Q I rx ry ⟨a,z,h1,h2,h3,q⟩
theorem gNe(hu:X.A.units+64 < cLine):OpR X (compareOp .NotEq) (qNe X.K):=by
 intro pins s σ H x y v u Q I rx ry h
 obtain⟨b,h,q⟩:=h
 rcases h with⟨h,rfl⟩ | ⟨a,c,xs,ys,h1,h2,h3,h4,h5,h6,rfl⟩
 ·exact q2a pins s σ H x y v u Q I rx ry ⟨h,q⟩
 ·exact q29 hu pins s σ H x y v u Q I rx ry ⟨a,c,xs,ys,h1,h2,h3,h4,h5,h6,q⟩
theorem gIn(hu:X.A.units+64 < cLine):OpR X (compareOp .In) (qIn X.K):=by
 intro pins s σ H x y v u Q I rx ry h
 obtain⟨b,h,q⟩:=h
 rcases h with⟨p,xs,h1,h2,h3,h4,rfl⟩ | ⟨i,j,h1,h2,rfl⟩ | ⟨p,xs,h1,h2,h3,h4,rfl⟩
 ·exact zug pins s σ H x y v u Q I rx ry ⟨p,xs,h1,h2,h3,h4,q⟩
 ·exact zuf pins s σ H x y v u Q I rx ry ⟨i,j,h1,h2,q⟩
 ·exact zsi hu pins s σ H x y v u Q I rx ry ⟨p,xs,h1,h2,h3,h4,q⟩
theorem q2y(hu:X.A.units+64 < cLine):OpR X (compareOp .NotIn) (zge X.K):=by
 intro pins s σ H x y v u Q I rx ry h
 obtain⟨b,h,q⟩:=h
 rcases h with⟨p,xs,h1,h2,h3,h4,rfl⟩ | ⟨i,j,h1,h2,rfl⟩ | ⟨a,p,xs,h1,h2,h3,h4,h5,rfl⟩
 ·exact zmo pins s σ H x y v u Q I rx ry ⟨p,xs,h1,h2,h3,h4,q⟩
 ·exact zmn pins s σ H x y v u Q I rx ry ⟨i,j,h1,h2,q⟩
 ·exact zpd hu pins s σ H x y v u Q I rx ry ⟨a,p,xs,h1,h2,h3,h4,h5,q⟩
theorem zvd:CallR X (.builtin "len") (zzp X.K):=by
 intro pins s σ H xs us Q I r h
 obtain⟨x,n,rfl,h,q⟩:=h
 rcases h with⟨p,ys,rfl,h,rfl⟩ | ⟨z,rfl,hz,rfl⟩
 ·exact zo2 pins s σ H _ us Q I r ⟨p,ys,rfl,h,q⟩
 ·exact zo1 pins s σ H _ us Q I r ⟨z,rfl,hz,q⟩
theorem zdj:OpR X (compareOp .Eq) (rI0 fun i j=>.bl (decide (i=j))):=by
 intro pins s σ H x y v u Q I rx ry h
 obtain⟨i,j,rfl,rfl,q⟩:=h
 refine q2f pins s σ H _ _ v u Q I rx ry ⟨rfl,?_⟩
 have e:decide (V.int i=V.int j)=decide (i=j):=by simp
 rw [e]; exact q
theorem zmp:OpR X (compareOp .NotEq) (rI0 fun i j=>.bl (!decide (i=j))):=by
 intro pins s σ H x y v u Q I rx ry h
 obtain⟨i,j,rfl,rfl,q⟩:=h
 refine q2a pins s σ H _ _ v u Q I rx ry ⟨rfl,?_⟩
 have e:decide (V.int i=V.int j)=decide (i=j):=by simp
 rw [e]; exact q
theorem q5n:OpR X (compareOp .Is) zzq:=q2c
theorem zvc:OpR X (compareOp .IsNot) zoz:=q00
def zp1(K:PySem.W.Frag):List V->Hp->VK->Prop:=fun xs H Q=>∃x n b,xs=[x,.ty n]/\(∃t,TyOf K H x t/\PySem.W.kitOne K t (.type n)=some b)/\Q (.bl b) H
theorem q0m:CallR X (.builtin "isinstance") (zp1 X.K):=by
 intro pins s σ H xs us Q I r h
 obtain⟨x,n,b,rfl,⟨t,h1,h2⟩,q⟩:=h
 exact zq3 pins s σ H _ us Q I r ⟨x,n,t,b,rfl,h1,h2,q⟩
end
def zij:Expr->Bool
 | .Starred ..=>true
 | _=>false
def z1z:List Expr->Bool
 | []=>true
 | e::r=>!zij e && z1z r
theorem z0r{e:Expr}{es:List Expr}{env:Env}(h:zij e=false):starEach (e::es) env=(false,eval e env)::starEach es env:=by
 cases e<;>first | rfl | exact absurd (show true=false from h) (by decide)
theorem z1y{pos:Pos}{env:Env}:∀{es:List Expr},z1z es=true->(backTo pos (starEach es env)).any (·.1)=false
 | [],_=>rfl
 | e::r,h=>by
  rw [z1z,Bool.and_eq_true,Bool.not_eq_true'] at h
  rw [z0r h.1]
  have q:=z1y (pos:=pos) (env:=env) h.2
  show(false || (backTo pos (starEach r env)).any (·.1))=false
  rw [q]; rfl
theorem z06{X:Cx}{e:Expr}{es:List Expr}{te:TE}{t:TA}(ha:PE X e te)(hr:PA X es t)(h:zij e=false:=by rfl):PA X (e::es) (zd2 te t):=zzy ha hr (z0r h)
structure Callee(P:Program)(w:World)(K:PySem.W.Frag)(mg:Str->Option Value)(base:Heap)(x:Str)(ps:List Str)(k:Nat)(sp:Sp):Prop where
 ex:∃f fd,FnOk P w K mg base CX0 k f fd ps sp/\mg x=some (.ref f)/\PySem.W.keepIn K (.ref f)=true/\Binds K fd ps []
theorem z1n{X:Cx}{x:Str}{ps:List Str}{k j:Nat}{sp:Sp}{e:Expr}{es:List Expr}{t:TA}{p pos:Pos}(C:Callee X.prog X.w X.K X.mg X.base x ps k sp)(hr:Room j X.A)(hk:k<=j)(ha:PA X (e::es) t)(hg:Gl X x:=by rfl)
  (hdb:(x == ("__debug__" : Str))=false:=by decide) (hst:z1z (e::es)=true:=by rfl) :
  PE X (.Call (.Name x p) (e::es) [] pos) (zm2 sp [] E0 t):=by
 have hst':=hst
 rw [z1z,Bool.and_eq_true,Bool.not_eq_true'] at hst'
 have he:=z0r (es:=es) (env:=X.env) hst'.1
 have hpl:=z1y (pos:=pos) (env:=X.env) hst'.2
 obtain⟨f,fd,F,hm,hkp,hb⟩:=C
 intro pins s σ H Q I h
 refine wpAny_Call_Name_kw (z92 I hg hm ?_ hdb)
 refine PySem.W.callWith_K (h₀:=X.base) I.ok.mod.kin hkp (thn (ha pos pins s σ H _ I h) fun us s1 ⟨vs,H1,I1,r,q⟩=>⟨I1.kIn,?_⟩) he hpl
 exact zqi F (hr.mono hk) hb .nil (fun _ _ _ _ _ _ _ z=>z.elim) I1 r q
theorem z75{X:Cx}{x:Str}{p pos:Pos}{e:Expr}{es:List Expr}{t:TA}{id:String}{r:List V->Hp->VK->Prop}(hc:CallR X (.builtin id) r)(hg:Gl X x)(hm:X.mg x=none)(hv:bootBuiltins x=some (.builtin id))(ha:PA X (e::es) t) (hn:x≠"__name__") (hdb:(x == ("__debug__" : Str))=false)
  (hst:z1z (e::es)=true:=by rfl):PE X (.Call (.Name x p) (e::es) [] pos) (tCB r t):=by
 have hst':=hst
 rw [z1z,Bool.and_eq_true,Bool.not_eq_true'] at hst'
 exact zx3 hc hg hm hv ha hn hdb (z0r hst'.1) (z1y hst'.2)
theorem zl0{X:Cx}{x:Str}{p pos:Pos}{e:Expr}{es:List Expr}{t:TA}{T:String}{r:List V->Hp->VK->Prop}(hc:CallR X (.type T) r)(hg:Gl X x)(hm:X.mg x=none)(hv:bootBuiltins x=some (.type T))(ha:PA X (e::es) t) (hn:x≠"__name__") (hdb:(x == ("__debug__" : Str))=false)
  (hst:z1z (e::es)=true:=by rfl):PE X (.Call (.Name x p) (e::es) [] pos) (tCB r t):=by
 have hst':=hst
 rw [z1z,Bool.and_eq_true,Bool.not_eq_true'] at hst'
 exact zuc hc hg hm hv ha hn hdb (z0r hst'.1) (z1y hst'.2)
structure GC(mg:Str->Option Value)(x:Str)(v:V):Prop where
 ex:∃u,mg x=some u/\RelV v u
theorem q28{X:Cx}{x:Str}{v:V}{pos:Pos}(h:GC X.mg x v)(hg:Gl X x:=by rfl) (hd:(x == ("__debug__" : Str))=false:=by decide):PE X (.Name x pos) (tC v):=by
 obtain⟨u,hm,r⟩:=h
 exact zdq hg hm r hd
def zw4(N:List Str)(on:List (Str×NameKind))(sc:Scope)(N':List Str)(mp:List (Option Nat)):Bool:=
 sc.kind == .function && sc.names.all (fun y=>y.2 !=.cell) && sc.names.all (fun y=>y.2 !=.local || sc.names.lookup y.1 == some .local) && sc.names.all (fun y=>y.2 !=.free || on.lookup y.1 == some .cell) && compOk N on sc.names N' mp
theorem CompS.of{X:Cx}{N':List Str}{sc:Scope}{mp:List (Option Nat)}(h:zw4 X.N X.env.scope.names sc N' mp=true):CompS X N' sc mp:=by
 unfold zw4 at h
 simp only[Bool.and_eq_true,beq_iff_eq] at h
 obtain⟨⟨⟨⟨h1,h2⟩,h3⟩,h4⟩,h5⟩:=h
 refine⟨h1,fun y hy=>?_,fun y hy e=>?_,fun y hy e=>?_,h5⟩
 ·have:=List.all_eq_true.mp h2 y hy
  simpa using this
 ·have:=List.all_eq_true.mp h3 y hy
  simp only[e,Bool.or_eq_true,beq_iff_eq] at this
  rcases this with z | z
  ·exact absurd z (by decide)
  ·exact z
 ·have:=List.all_eq_true.mp h4 y hy
  simp only[e,Bool.or_eq_true,beq_iff_eq] at this
  rcases this with z | z
  ·exact absurd z (by decide)
  ·exact z
theorem opK{X:Cx}{K:PySem.W.Frag}{f:Value->Value->Sem Value}{r:PySem.W.Frag->R2}(h:OpR X f (r X.K))(hK:X.K=K):OpR X f (r K):=hK ▸ h
theorem ixK{X:Cx}{K:PySem.W.Frag}{r:PySem.W.Frag->R2}(h:IxR X (r X.K))(hK:X.K=K):IxR X (r K):=hK ▸ h
theorem zp8{X:Cx}{K:PySem.W.Frag}{es:List Expr}{k:Nat}{t:TGs}{n:Nat}{pos:Pos}(hK:X.K=K)(hc:X.calm=true)(h:PGs X es t)(hn:(assignEach es X.env).length=n:=by rfl)(hst:(assignEach es X.env).findIdx? (·.1)=none:=by rfl):PG X (.Tuple es k pos) (zyw K n t):=hK ▸ zel hc h hn hst
def q2w:Expr->Bool
 | .ListComp ..=>true
 | .SetComp ..=>true
 | .DictComp ..=>true
 | _=>false
theorem z05{e:Expr}{t:Option Expr}{l:Nat}{env:Env}(h:q2w e=false):swapsWith e t l env=pure false:=by
 cases e<;>first | rfl | exact absurd (show true=false from h) (by decide)
theorem zry{elt:Expr}{gs:List Comprehension}{sc:Scope}{cp p:Pos}{x:Str}{l:Nat}{env:Env}(h:env.scope.names.lookup x=some .cell):swapsWith (.ListComp elt gs sc cp) (some (.Name x p)) l env=pure false:=by
 unfold swapsWith
 have e:(env.kindOf x == some NameKind.local)=false:=by
  unfold Env.kindOf
  rw [h]; rfl
 simp only[e,Bool.and_false,Bool.false_and]
inductive Dm where
 | non | bl (b:Bool) | int (i:Int) | str (x:Str) | tup (ds:List Dm) | lst
mutual
inductive Dt (H:Hp):V->Dm->Prop where
 | non:Dt H .non .non
 | bl (b:Bool):Dt H (.bl b) (.bl b)
 | int (i:Int):Dt H (.int i) (.int i)
 | str (x:Str):Dt H (.str x) (.str x)
 | tup {a:Addr} {xs:List V} {ds:List Dm}:H a=some (.tup xs)->DtA H xs ds->Dt H (.ref a) (.tup ds)
 | lst {a:Addr} {xs:List V}:H a=some (.lst xs)->Dt H (.ref a) .lst
inductive DtA (H:Hp):List V->List Dm->Prop where
 | nil:DtA H [] []
 | cons {x:V} {xs:List V} {d:Dm} {ds:List Dm}:Dt H x d->DtA H xs ds->DtA H (x::xs) (d::ds)
end
structure Kp(H H':Hp):Prop where
 t:∀b xs,H b=some (.tup xs)->H' b=some (.tup xs)
 l:∀b xs,H b=some (.lst xs)->∃ys,H' b=some (.lst ys)
theorem Kp.refl(H:Hp):Kp H H:=⟨fun _ _ h=>h,fun _ xs h=>⟨xs,h⟩⟩
theorem Kp.trans{H H1 H2:Hp}(a:Kp H H1)(b:Kp H1 H2):Kp H H2:=⟨fun c xs h=>b.t c xs (a.t c xs h),fun c xs h=>let ⟨ys,e⟩:=a.l c xs h; b.l c ys e⟩
theorem Same.kp{H H':Hp}(s:Same H H'):Kp H H':=⟨fun b xs h=>s b _ h,fun b xs h=>⟨xs,s b _ h⟩⟩
theorem z04{H:Hp}{p:Addr}(h:H p=none)(o:HO):Same H (upd H p o):=fun b u q=>by rw [z0a (z0d q h)]; exact q
theorem Kp.new{H:Hp}{p:Addr}(h:H p=none)(o:HO):Kp H (upd H p o):=(z04 h o).kp
theorem Kp.set{H:Hp}{p:Addr}{xs ys:List V}(h:H p=some (.lst xs)):Kp H (upd H p (.lst ys)):=
 ⟨fun b zs e=>by rw [z0a (z86 e h (by intro z; cases z))]; exact e,fun b zs e=>by
  by_cases hb:b=p
  ·subst hb; exact⟨ys,z01⟩
  ·exact⟨zs,by rw [z0a hb]; exact e⟩⟩
mutual
theorem Dt.kp{H H':Hp}(k:Kp H H'):∀{v:V} {d:Dm},Dt H v d->Dt H' v d
 | _,_,.non=>.non
 | _,_,.bl b=>.bl b
 | _,_,.int i=>.int i
 | _,_,.str x=>.str x
 | _,_,.tup e r=>.tup (k.t _ _ e) (DtA.kp k r)
 | _,_,.lst e=>let ⟨_,e'⟩:=k.l _ _ e; .lst e'
theorem DtA.kp{H H':Hp}(k:Kp H H'):∀{xs:List V} {ds:List Dm},DtA H xs ds->DtA H' xs ds
 | _,_,.nil=>.nil
 | _,_,.cons r t=>.cons (Dt.kp k r) (DtA.kp k t)
end
theorem DtA.length{H:Hp}:∀{xs:List V} {ds:List Dm},DtA H xs ds->xs.length=ds.length
 | _,_,.nil=>rfl
 | _,_,.cons _ t=>by rw [List.length_cons,List.length_cons,DtA.length t]
theorem DtA.append{H:Hp}:∀{xs ys:List V} {ds es:List Dm},DtA H xs ds->DtA H ys es->DtA H (xs++ys) (ds++es)
 | _,_,_,_,.nil,h=>h
 | _,_,_,_,.cons r t,h=>.cons r (DtA.append t h)
theorem DtA.get{H:Hp}:∀{xs:List V} {ds:List Dm} {i:Nat} {x:V},DtA H xs ds->xs[i]?=some x->∃d,ds[i]?=some d/\Dt H x d
 | _,_,_,_,.nil,e=>by simp at e
 | _,_,0,_,.cons r _,e=>by simp at e; subst e; exact⟨_,rfl,r⟩
 | _,_,i+1,x,.cons _ t,e=>by
  obtain⟨d,h1,h2⟩:=DtA.get (i:=i) (x:=x) t (by simpa using e)
  exact⟨d,by simpa using h1,h2⟩
theorem Dt.tupI{H:Hp}{v:V}{ds:List Dm}(h:Dt H v (.tup ds)):∃a xs,v=.ref a/\H a=some (.tup xs)/\DtA H xs ds:=by
 cases h with
 | tup e r=>exact⟨_,_,rfl,e,r⟩
end L2
set_option Elab.async false
set_option linter.all false
set_option maxRecDepth 100000
namespace L2
open PySem PySem.Spec PyProof.Rows
section
variable{X:Cx}
def zs8(K:PySem.W.Frag):List V->Hp->VK->Prop:=fun xs H Q=>∃(a:Addr) (ns:List Int),xs=[.ref a]/\SqL K H a (ns.map V.int)/\0 < ns.length/\∀M,M∈ns->(∀a∈ns,M<=a)->Q (.int M) H
def zs9(K:PySem.W.Frag):List V->Hp->VK->Prop:=fun xs H Q=>∃(a:Addr) (ns:List Int),xs=[.ref a]/\SqL K H a (ns.map V.int)/\0 < ns.length/\∀M,M∈ns->(∀a∈ns,a<=M)->Q (.int M) H
def zjz(K:PySem.W.Frag):List V->Hp->VK->Prop:=fun xs H Q=>∃(a:Addr) (ns:List Int),xs=[.ref a]/\SqL K H a (ns.map V.int)/\ns.length < 64/\∀(l:Addr) (ms:List Int),H l=none->ms.Perm ns->ms.Pairwise (· <= ·)->Q (.ref l) (upd H l (.lst (ms.map V.int)))
def q1f(t ta tb:TT):TT:=fun σ H Q=>t σ H fun c H1=>if c=true then ta σ H1 Q else tb σ H1 Q
mutual
def Dm.dat:Dm->PyData
 | .non=>.none
 | .bl b=>.bool b
 | .int i=>.int i
 | .str x=>.str x
 | .tup ds=>.tuple (zh6 ds)
 | .lst=>.none
def zh6:List Dm->List PyData
 | []=>[]
 | d::ds=>d.dat::zh6 ds
end
mutual
def Dm.shut:Dm->Bool
 | .tup ds=>zhw ds
 | .lst=>false
 | .str x=>PyData.strOk x
 | _=>true
def zhw:List Dm->Bool
 | []=>true
 | d::ds=>d.shut && zhw ds
end
mutual
theorem Dt.reads{pins:List (Addr×Obj)}{σ : St}{H:Hp}{s:Shared}(I:Inv X pins σ H s):∀{x:V} {d:Dm} {u:Value},Dt H x d->d.shut=true->RelV x u->∃as,Reads s.heap u d.dat as
 | _,_,_,.non,_,r=>by cases r; exact⟨_,.none⟩
 | _,_,_,.bl b,_,r=>by cases r; exact⟨_,.bool b⟩
 | _,_,_,.int i,_,r=>by obtain⟨t,rfl⟩:=r; exact⟨_,.int i t⟩
 | _,_,_,.str x,_,r=>by obtain⟨t,rfl⟩:=r; exact⟨_,.str x t⟩
 | _,_,_,.tup e ra,hs,r=>by
  cases r
  obtain⟨its,rv,⟨o,ho,hc,n,hd⟩,_⟩:=I.tuple (SqT.of e)
  obtain⟨as,q⟩:=DtA.reads I ra (by simpa [Dm.shut] using hs) rv
  exact⟨as,by rw [Dm.dat]; exact .tuple ho hc hd (by simpa using q)⟩
 | _,_,_,.lst _,hs,_=>absurd hs (by simp[Dm.shut])
theorem DtA.reads{pins:List (Addr×Obj)}{σ : St}{H:Hp}{s:Shared}(I:Inv X pins σ H s):∀{xs:List V} {ds:List Dm} {us:List Value},DtA H xs ds->zhw ds=true->Vals xs us->∃as,ReadsAll s.heap us (zh6 ds) as
 | _,_,_,.nil,_,.nil=>⟨[],by rw [zh6]; exact .nil⟩
 | _,_,_,.cons r t,hs,.cons rv rt=>by
  rw [zhw,Bool.and_eq_true] at hs
  obtain⟨as,q1⟩:=Dt.reads I r hs.1 rv
  obtain⟨bs,q2⟩:=DtA.reads I t hs.2 rt
  exact⟨as++bs,by rw [zh6]; exact .cons q1 q2⟩
end
def EqD(H:Hp)(x y:V)(b:Bool):Prop:=∃d e,Dt H x d/\Dt H y e/\(d.shut=true/\SeqAt.shaped d.dat=true)/\(e.shut=true/\SeqAt.shaped e.dat=true)/\b=PyData.eqv d.dat e.dat
def zzr(_:PySem.W.Frag):R2:=fun x y H Q=>∃b,EqD H x y b/\Q (.bl b) H
def zzo(_:PySem.W.Frag):R2:=fun x y H Q=>∃b,EqD H x y b/\Q (.bl (!b)) H
theorem dEq(hu:X.A.units+64 < cLine):OpR X (compareOp .Eq) (zzr X.K):=by
 intro pins s σ H x y v u Q I rx ry h
 obtain⟨b,⟨d,e,dx,dy,⟨s1,s2⟩,⟨s3,s4⟩,rfl⟩,q⟩:=h
 obtain⟨as,ra⟩:=Dt.reads I dx s1 rx
 obtain⟨bs,rb⟩:=Dt.reads I dy s3 ry
 exact eq_dataH ra rb s2 s4 hu ⟨.bl _,H,I,rfl,q⟩
theorem dNe(hu:X.A.units+64 < cLine):OpR X (compareOp .NotEq) (zzo X.K):=by
 intro pins s σ H x y v u Q I rx ry h
 obtain⟨b,⟨d,e,dx,dy,⟨s1,s2⟩,⟨s3,s4⟩,rfl⟩,q⟩:=h
 obtain⟨as,ra⟩:=Dt.reads I dx s1 rx
 obtain⟨bs,rb⟩:=Dt.reads I dy s3 ry
 exact ne_dataH ra rb s2 s4 hu ⟨.bl _,H,I,rfl,q⟩
end
end L2
set_option Elab.async false
set_option linter.all false
set_option maxRecDepth 100000
namespace L2
open PySem PySem.Spec PyProof.Rows
section
variable{κ : Type} [DecidableEq κ]
def zoa(kvs:List (κ×V))(k : κ):Option V:=(kvs.find? fun kv=>decide (kv.1=k)).map (·.2)
def zp3(kvs:List (κ×V))(k : κ)(v:V):List (κ×V):=
 if(kvs.any fun kv=>decide (kv.1=k))=true then kvs.map (fun kv=>if kv.1=k then(kv.1,v) else kv) else kvs++[(k,v)]
theorem zh8{p : κ×V}{r:List (κ×V)}{k : κ}(e:p.1=k):zoa (p::r) k=some p.2:=by simp[zoa,List.find?_cons,e]
theorem zh9{p : κ×V}{r:List (κ×V)}{k : κ}(e:¬ p.1=k):zoa (p::r) k=zoa r k:=by simp[zoa,List.find?_cons,e]
theorem zq4(k : κ):∀kvs:List (κ×V),(kvs.any fun kv=>decide (kv.1=k))=(zoa kvs k).isSome
 | []=>rfl
 | p::r=>by
  rw [List.any_cons]
  by_cases e:p.1=k
  ·simp only[zh8 e,decide_eq_true e,Bool.true_or,Option.isSome_some]
  ·rw [zh9 e,decide_eq_false e,Bool.false_or]; exact zq4 k r
theorem zie(kvs:List (κ×V))(k : κ)(v:V):(zp3 kvs k v).length<=kvs.length+1:=by
 unfold zp3
 split
 ·rw [List.length_map]; omega
 ·rw [List.length_append,List.length_cons,List.length_nil]; omega
theorem RelO.isSome_eq{o:Option V}{u:Option Value}(r:RelO o u):o.isSome=u.isSome:=by
 cases o with
 | none=>cases u with
  | none=>rfl
  | some _=>exact(show False from r).elim
 | some _=>cases u with
  | none=>exact(show False from r).elim
  | some _=>rfl
theorem RelO.getD{o:Option V}{u:Option Value}{d:V}{d':Value}(r:RelO o u)(rd:RelV d d'):RelV (o.getD d) (u.getD d'):=by
 cases o with
 | none=>cases u with
  | none=>exact rd
  | some _=>exact(show False from r).elim
 | some _=>cases u with
  | none=>exact(show False from r).elim
  | some _=>exact r
theorem KV.val{kvs:List (κ×V)}{vs:List (κ×Value)}(r:KV kvs vs)(k : κ):RelO (zoa kvs k) (valueAt vs k):=by
 unfold KV at r
 induction r with
 | nil=>exact True.intro
 | @cons p q ps qs h t ih=>
  obtain⟨h1,h2⟩:=h
  by_cases e:p.1=k
  ·have e':q.1=k:=h1.symm.trans e
   have b:valueAt (q::qs) k=some q.2:=by simp[valueAt,List.find?_cons,e']
   rw [zh8 e,b]; exact h2
  ·have e':¬ q.1=k:=fun z=>e (h1.trans z)
   have b:valueAt (q::qs) k=valueAt qs k:=by simp[valueAt,List.find?_cons,e']
   rw [zh9 e,b]; exact ih
theorem KV.any{kvs:List (κ×V)}{vs:List (κ×Value)}(r:KV kvs vs)(k : κ):(kvs.any fun kv=>decide (kv.1=k))=vs.any fun kv=>decide (kv.1=k):=by
 unfold KV at r
 induction r with
 | nil=>rfl
 | cons h t ih=>rw [List.any_cons,List.any_cons,ih,h.1]
theorem KV.repl{kvs:List (κ×V)}{vs:List (κ×Value)}(r:KV kvs vs)(k : κ){y:V}{u:Value}(ry:RelV y u) :
  KV (kvs.map fun kv=>if kv.1=k then(kv.1,y) else kv) (vs.map fun kv=>if kv.1=k then(kv.1,u) else kv):=by
 unfold KV at r |-
 induction r with
 | nil=>exact .nil
 | @cons p q ps qs h t ih=>
  rw [List.map_cons,List.map_cons]
  refine .cons ?_ ih
  obtain⟨h1,h2⟩:=h
  by_cases e:p.1=k
  ·rw [if_pos e,if_pos (h1.symm.trans e)]; exact⟨h1,ry⟩
  ·rw [if_neg e,if_neg (fun z=>e (h1.trans z))]; exact⟨h1,h2⟩
theorem KV.put{kvs:List (κ×V)}{vs:List (κ×Value)}(r:KV kvs vs)(k : κ){y:V}{u:Value}(ry:RelV y u):KV (zp3 kvs k y) (stored vs k u):=by
 unfold zp3 stored
 rw [r.any k]
 by_cases e:(vs.any fun kv=>decide (kv.1=k))=true
 ·rw [if_pos e,if_pos e]; exact r.repl k ry
 ·rw [if_neg e,if_neg e]; exact Paired.snoc r ⟨rfl,ry⟩
theorem KV.keys{kvs:List (κ×V)}{vs:List (κ×Value)}(r:KV kvs vs):kvs.map (·.1)=vs.map (·.1):=by
 unfold KV at r
 induction r with
 | nil=>rfl
 | cons h t ih=>rw [List.map_cons,List.map_cons,ih,h.1]
theorem KV.length{kvs:List (κ×V)}{vs:List (κ×Value)}(r:KV kvs vs):kvs.length=vs.length:=Paired.length r
end
theorem zv3{P:Program}{w:World}{k:Key}{u:Value}(r:RelV (kV k) u):(z25 P w).is k u=true:=by
 cases k with
 | inl i=>obtain⟨t,e⟩:=(show ∃t,u=Value.int i t from r); subst e; exact zpo P w i t
 | inr x=>obtain⟨t,e⟩:=(show ∃t,u=Value.str x t from r); subst e; exact zpn P w x t
theorem zn3{P:Program}{w:World}:∀{ks:List Key} {us:List Value},Vals (ks.map kV) us->ItemsAre (z25 P w) ks us
 | [],_,r=>by rw [List.map_nil] at r; cases r; exact .nil
 | k::ks,_,r=>by
  rw [List.map_cons] at r
  cases r with
  | cons h t=>exact .cons (zv3 h) (zn3 t)
abbrev KT(H:Hp):List (List Key×V)->List (List Key×Addr×Value)->Prop:=Paired fun p q=>p.1=q.1/\H q.2.1=some (.tup (p.1.map kV))/\RelV p.2 q.2.2
theorem KT.val{H:Hp}{kvs:List (List Key×V)}{xs:List (List Key×Addr×Value)}(r:KT H kvs xs)(k:List Key):RelO (zoa kvs k) ((atKey xs k).map (·.2)):=by
 induction r with
 | nil=>exact True.intro
 | @cons p q ps qs h t ih=>
  obtain⟨h1,_,h2⟩:=h
  by_cases e:p.1=k
  ·have e':q.1=k:=h1.symm.trans e
   have b:atKey (q::qs) k=some q.2:=by simp[atKey,List.find?_cons,e']
   rw [zh8 e,b]; exact h2
  ·have e':¬ q.1=k:=fun z=>e (h1.trans z)
   have b:atKey (q::qs) k=atKey qs k:=by simp[atKey,List.find?_cons,e']
   rw [zh9 e,b]; exact ih
theorem KT.repl{H:Hp}{kvs:List (List Key×V)}{xs:List (List Key×Addr×Value)}(r:KT H kvs xs)(k:List Key){y:V}{u:Value}(ry:RelV y u) :
  KT H (kvs.map fun kv=>if kv.1=k then(kv.1,y) else kv) (xs.map (putAt k u)):=by
 induction r with
 | nil=>exact .nil
 | @cons p q ps qs h t ih=>
  rw [List.map_cons,List.map_cons]
  refine .cons ?_ ih
  obtain⟨h1,h2,h3⟩:=h
  unfold putAt
  by_cases e:p.1=k
  ·rw [if_pos e,if_pos (h1.symm.trans e)]; exact⟨h1,h2,ry⟩
  ·rw [if_neg e,if_neg (fun z=>e (h1.trans z))]; exact⟨h1,h2,h3⟩
theorem KT.put{H:Hp}{kvs:List (List Key×V)}{xs:List (List Key×Addr×Value)}(r:KT H kvs xs)(k:List Key){b:Addr}{y:V}{u:Value}(hb:H b=some (.tup (k.map kV)))(ry:RelV y u) :
  KT H (zp3 kvs k y) (storedH xs k b u):=by
 have e:(kvs.any fun kv=>decide (kv.1=k))=(atKey xs k).isSome:=by
  rw [zq4,(r.val k).isSome_eq,Option.isSome_map]
 unfold zp3 storedH
 rw [e]
 by_cases q:(atKey xs k).isSome=true
 ·rw [if_pos q,if_pos q]; exact r.repl k ry
 ·rw [if_neg q,if_neg q]; exact Paired.snoc r ⟨rfl,hb,ry⟩
theorem KT.keeps{H H':Hp}{kvs:List (List Key×V)}{xs:List (List Key×Addr×Value)}(r:KT H kvs xs)(ht:∀b ys,H b=some (.tup ys)->H' b=some (.tup ys)):KT H' kvs xs:=
 Paired.mapP r fun _ _ z=>⟨z.1,ht _ _ z.2.1,z.2.2⟩
section
variable{P:Program}{w:World}{H:Hp}{h:Heap}{a:Addr}
theorem q22{u:HO}(ok:HOk P w H h)(e:Rd H a u):ObjOk P w H h a u:=e.ok ok
theorem zsz{kvs:List (Key×V)}(ok:HOk P w H h)(e:Rd H a (.dK kvs)):kvs.length<=sizeLine/\(a == sysModules)=false/\∃vs,KV kvs vs/\h.DictOf (z25 P w) a vs:=
 show ObjOk P w H h a (.dK kvs) from q22 ok e
theorem q0q{kvs:List (Key×V)}(ok:HOk P w H h)(e:H a=some (.dK kvs)):kvs.length<=sizeLine/\(a == sysModules)=false/\∃vs,KV kvs vs/\h.DictOf (z25 P w) a vs:=zsz ok (.inl e)
theorem zk4{ks:List Key}(ok:HOk P w H h)(e:H a=some (.tup (ks.map kV))):(tupleKind (z25 P w)).is h ks a:=by
 obtain⟨_,its,r,o,h1,h2,n,h3⟩:=(show ObjOk P w H h a (.tup (ks.map kV)) from ok a _ e)
 exact⟨o,its.toArray,n,h1,h2,h3,by simpa using zn3 r⟩
theorem zsy{kvs:List (List Key×V)}(ok:HOk P w H h)(e:Rd H a (.dT kvs)):kvs.length<=sizeLine/\(a == sysModules)=false/\
  ∃xs,KT H kvs xs/\h.DictOfH (tupleKind (z25 P w)) a xs:=by
 obtain⟨z,y,xs,r,o,es,ep,h1,h2,h3,h4,h5⟩:=(show ObjOk P w H h a (.dT kvs) from q22 ok e)
 refine⟨z,y,xs,r,o,es,ep,h1,h2,h3,h4,fun x hx=>?_,h5⟩
 have all:∀{l:List (List Key×V)} {m:List (List Key×Addr×Value)},KT H l m->∀x∈m,(tupleKind (z25 P w)).is h x.1 x.2.1:=by
  intro l m q
  induction q with
  | nil=>intro x hx; exact nomatch hx
  | @cons p q ps qs hq t ih=>
   intro x hx
   rcases List.mem_cons.mp hx with e | hx
   ·subst e
    exact zk4 ok (by rw [<- hq.1]; exact hq.2.1)
   ·exact ih x hx
 exact all r x hx
theorem q4h{kvs:List (List Key×V)}(ok:HOk P w H h)(e:H a=some (.dT kvs)):kvs.length<=sizeLine/\(a == sysModules)=false/\
  ∃xs,KT H kvs xs/\h.DictOfH (tupleKind (z25 P w)) a xs:=zsy ok (.inl e)
end
def DGet(H:Hp)(a:Addr)(y:V)(r:Option V):Prop:=
 (∃kvs k,Rd H a (.dK kvs)/\y=kV k/\r=zoa kvs k)\/∃kvs k b,Rd H a (.dT kvs)/\y=.ref b/\H b=some (.tup (k.map kV))/\r=zoa kvs k
def DPut(H:Hp)(a:Addr)(y v:V)(H':Hp):Prop:=
 (∃kvs k,H a=some (.dK kvs)/\y=kV k/\kvs.length < sizeLine/\H'=upd H a (.dK (zp3 kvs k v)))\/
 ∃kvs k b,H a=some (.dT kvs)/\y=.ref b/\H b=some (.tup (k.map kV))/\kvs.length < sizeLine/\H'=upd H a (.dT (zp3 kvs k v))
theorem DGet.k{H:Hp}{a:Addr}{kvs:List (Key×V)}{k:Key}(e:H a=some (.dK kvs)):DGet H a (kV k) (zoa kvs k):=.inl ⟨kvs,k,.inl e,rfl,rfl⟩
theorem DGet.t{H:Hp}{a b:Addr}{kvs:List (List Key×V)}{k:List Key}(e:H a=some (.dT kvs))(eb:H b=some (.tup (k.map kV))):DGet H a (.ref b) (zoa kvs k):=.inr ⟨kvs,k,b,.inl e,rfl,eb,rfl⟩
theorem DPut.k{H:Hp}{a:Addr}{kvs:List (Key×V)}{k:Key}{v:V}(e:H a=some (.dK kvs))(hl:kvs.length < sizeLine):DPut H a (kV k) v (upd H a (.dK (zp3 kvs k v))):=.inl ⟨kvs,k,e,rfl,hl,rfl⟩
theorem DPut.t{H:Hp}{a b:Addr}{kvs:List (List Key×V)}{k:List Key}{v:V}(e:H a=some (.dT kvs))(eb:H b=some (.tup (k.map kV)))(hl:kvs.length < sizeLine) :
  DPut H a (.ref b) v (upd H a (.dT (zp3 kvs k v))):=.inr ⟨kvs,k,b,e,rfl,eb,hl,rfl⟩
section
variable{X:Cx}{pins:List (Addr×Obj)}{σ : St}{H:Hp}{s:Shared}{a:Addr}{y v:V}{u r:Value}{o:Option V}{A:Around}{E:Value->Shared->Prop}
theorem Inv.big(I:Inv X pins σ H s):sysModules < s.heap.objs.size:=by
 have h:mainGlobals < s.heap.objs.size:=(I.mod.glob.keeps I.bk).lt
 exact Nat.lt_trans (by decide) h
theorem zw1{Q:Value->Shared->Prop}(hu:A.units+1 < cLine)(I:Inv X pins σ H s)(g:DGet H a y (some v))(ry:RelV y u)(h:∀w' s',Inv X pins σ H s'->RelV v w'->Q w' s') :
  wpAny (model X.prog X.w) A (getItem (.ref a) u) Q E s:=by
 rcases g with⟨kvs,k,e,ey,l⟩ | ⟨kvs,k,b,e,ey,eb,l⟩
 ·subst ey
  obtain⟨z,hd,vs,rel,dd⟩:=zsz I.hok e
  obtain⟨w',hw,rw'⟩:=RelO.some_of (v:=v) (o:=valueAt vs k) (by rw [l]; exact rel.val k)
  exact wpAny_getItem_of (zv3 ry) dd.mapOf hw (h w' _ (I.tok _) rw')
 ·subst ey
  cases (show u=Value.ref b from ry)
  obtain⟨z,hd,xs,rel,dd⟩:=zsy I.hok e
  obtain⟨w',hw,rw'⟩:=RelO.some_of (v:=v) (o:=(atKey xs k).map (·.2)) (by rw [l]; exact rel.val k)
  obtain⟨p,hp,hp2⟩:=Option.map_eq_some_iff.mp hw
  refine wpAny_getItem_heap (tupleKind_room_in1 hu) (zk4 I.hok eb) dd hp ?_
  rw [hp2]
  exact h w' _ (I.tok _) rw'
theorem q0v{Q:Value->Shared->Prop}(hu:A.units+1 < cLine)(I:Inv X pins σ H s)(g:DGet H a y o)(ry:RelV y u)(h:∀s',Inv X pins σ H s'->Q (.bool (!o.isSome)) s') :
  wpAny (model X.prog X.w) A (compareOp .NotIn u (.ref a)) Q E s:=by
 rcases g with⟨kvs,k,e,ey,l⟩ | ⟨kvs,k,b,e,ey,eb,l⟩
 ·subst ey
  obtain⟨z,hd,vs,rel,dd⟩:=zsz I.hok e
  refine wpAny_notIn_of (zv3 ry) hd dd.mapOf ?_
  rw [<- (rel.val k).isSome_eq,<- l]
  exact h _ (I.tok _)
 ·subst ey
  cases (show u=Value.ref b from ry)
  obtain⟨z,hd,xs,rel,dd⟩:=zsy I.hok e
  refine wpAny_notIn_heap (tupleKind_room_in1 hu) (zk4 I.hok eb) hd dd ?_
  have q:=(rel.val k).isSome_eq
  rw [Option.isSome_map] at q
  rw [<- q,<- l]
  exact h _ (I.tok _)
theorem zvz{h':Heap}{t':Nat}{ob:HO}(I:Inv X pins σ H s)(mu:Mut (H a))(hs:Heap.SameBut a s.heap h')(he:∃q,h'.get? a=some q)(new:ObjOk X.prog X.w (upd H a ob) h' a ob) :
  Inv X pins σ (upd H a ob) {s with heap:=h',toks:=t'}:=
 I.write (x:=a) (e:=a) mu (.inl rfl) (fun b q hb z=>(hs.2 b hb).trans z) he new
theorem q35{P:Program}{w:World}{H':Hp}{h':Heap}{kvs:List (Key×V)}{vs:List (Key×Value)}(z:kvs.length<=sizeLine)(hd:(a == sysModules)=false)(rel:KV kvs vs)(dd:h'.DictOf (z25 P w) a vs) :
  ObjOk P w H' h' a (.dK kvs):=⟨z,hd,vs,rel,dd⟩
theorem zw0{H':Hp}{Q:Unit->Shared->Prop}(hu:A.units+1 < cLine)(I:Inv X pins σ H s)(g:DPut H a y v H')(ry:RelV y u)(rv:RelV v r)(h:∀s',Inv X pins σ H' s'->Q () s') :
  wpAny (model X.prog X.w) A (setItem (.ref a) u r) Q E s:=by
 rcases g with⟨kvs,k,e,ey,l,eH⟩ | ⟨kvs,k,b,e,ey,eb,l,eH⟩
 ·subst ey eH
  obtain⟨z,hd,vs,rel,dd⟩:=q0q I.hok e
  have hz:vs.length<=sizeLine:=by rw [<- rel.length]; exact z
  have hl:(zp3 kvs k v).length<=sizeLine:=by have:=zie kvs k v; omega
  refine wpAny_setItem_pairs (hsz:=hz) (zv3 ry) dd fun h' dd' hs=>h _ ?_
  have he:∃q,h'.get? a=some q:=let ⟨q,_,_,hq,_⟩:=dd'; ⟨q,hq⟩
  exact zvz I (by rw [e]; exact True.intro) hs he (q35 hl hd (rel.put k rv) dd')
 ·subst ey eH
  cases (show u=Value.ref b from ry)
  obtain⟨z,hd,xs,rel,dd⟩:=q4h I.hok e
  have hz:xs.length<=sizeLine:=by rw [<- Paired.length rel]; exact z
  have hl:(zp3 kvs k v).length<=sizeLine:=by have:=zie kvs k v; omega
  refine wpAny_setItem_heap (hsz:=hz) (tupleKind_room_in1 hu) (zk4 I.hok eb) dd fun h' dd' hs=>h _ ?_
  obtain⟨q,es,ep,hq,h2,h3,h4,_,h5⟩:=dd'
  refine zvz I (by rw [e]; exact True.intro) hs ⟨q,hq⟩ ⟨hl,hd,_,(rel.put k eb rv).keeps fun c ys ec=>?_,q,es,ep,hq,h2,h3,h4,h5⟩
  rw [z0a (z86 ec e (fun z=>nomatch z))]
  exact ec
end
section
variable{X:Cx}{pins:List (Addr×Obj)}{σ : St}{H:Hp}{s:Shared}{a:Addr}{kvs:List (Key×V)}{k:Key}{u:Value}{A:Around}{E:Value->Shared->Prop}
end
def q52(i:Expr):Prop:=∀ov iv,subscripted i false ov iv=operate [ov,iv] (getItem ov iv)
theorem zzc{prog:Program}{w:World}{A:Around}{E:Value->Shared->Prop}{s:Shared}{env:Env}{value slice:Expr}{pos:Pos}{T id:String}{Q:Value->Shared->Prop}
  (hl:typeLookup (.type T) "__getitem__" = pure (some (.builtin id))) (hs:q52 slice)
  (h:wpAny (model prog w) A (eval value env) (fun o s₁=>wpAny (model prog w) A (eval slice env) (fun i s₂=>s₂.TypeIs o T/\wpAny (model prog w) A (getItem o i) Q E s₂) E s₁) E s) :
  wpAny (model prog w) A (eval (.Subscript value slice pos) env) Q E s:=by
 refine Subscript_ (wpAny_mono h (fun o s₁ h₁=>wpAny_mono h₁ (fun i s₂ h₂=>?_) fun _ _ x=>x) fun _ _ x=>x)
 obtain⟨hT,h₂⟩:=h₂
 unfold subscriptTail
 refine wpAny_bind ?_
 rw [getitemInPython_of_ne hT.not_modules]
 refine wpAny_bind (wpAny_specialOf hT hl ?_)
 have fin:wpAny (model prog w) A (subscripted slice false o i) (fun r s₃=>wpAny (model prog w) A (letTemporaryGo value o r >>= fun _=>pure r) Q E s₃) E s₂:=by
  rw [hs o i]
  exact wpAny_operating (wpAny_mono h₂ (fun r s₃ h₃=>wpAny_bind (wpAny_letTemporaryGo (wpAny_pure h₃))) fun _ _ x=>x)
 first
  | exact wpAny_pure (wpAny_bind fin)
  | exact wpAny_bind (wpAny_pure (wpAny_bind fin))
  | exact wpAny_bind fin
theorem zpw{X:Cx}{pins:List (Addr×Obj)}{σ : St}{H:Hp}{s:Shared}{a:Addr}{y:V}{o:Option V}(I:Inv X pins σ H s)(g:DGet H a y o):s.TypeIs (.ref a) "dict":=by
 rcases g with⟨kvs,k,e,_,_⟩ | ⟨kvs,k,b,e,_,_,_⟩
 ·obtain⟨_,_,vs,_,dd⟩:=zsz I.hok e
  exact dd.typeIs
 ·obtain⟨_,_,xs,_,dd⟩:=zsy I.hok e
  exact dd.typeIs
def zom(td ty:TE):TE:=fun σ H Q=>td σ H fun x H1=>ty σ H1 fun y H2=>∃a v,x=.ref a/\DGet H2 a y (some v)/\Q v H2
def q5a(ty td:TE):TE:=fun σ H Q=>ty σ H fun y H1=>td σ H1 fun x H2=>∃a o,x=.ref a/\DGet H2 a y o/\Q (.bl o.isSome) H2
def ztm(ty td:TE):TE:=fun σ H Q=>ty σ H fun y H1=>td σ H1 fun x H2=>∃a o,x=.ref a/\DGet H2 a y o/\Q (.bl (!o.isSome)) H2
def zow(td ty tv:TE):TS:=fun D σ H=>tv σ H fun v H1=>td σ H1 fun x H2=>ty σ H2 fun y H3=>∃a H4,x=.ref a/\DPut H3 a y v H4/\D.nx σ H4
section
variable{X:Cx}{o i e value:Expr}{pos pos' tpos:Pos}{td ty tv:TE}
theorem zzv(hu:X.A.units+1 < cLine)(ho:PE X o td)(hi:PE X i ty)(hs:q52 i):PE X (.Subscript o i pos) (zom td ty):=by
 intro pins s σ H Q I h
 refine zzc PySem.F.slot_dict_getitem.lookup hs (thn (ho pins s σ H _ I h) fun u s1 ⟨x,H1,I1,rx,q1⟩=>thn (hi pins s1 σ H1 _ I1 q1) fun iv s2 ⟨y,H2,I2,ry,a,v,ex,g,q2⟩=>?_)
 subst ex
 obtain rfl:u=Value.ref a:=rx
 exact⟨zpw I2 g,zw1 hu I2 g ry fun w' s3 I3 rw'=>⟨v,H2,I3,rw',q2⟩⟩
theorem zud(hu:X.A.units+1 < cLine)(hi:PE X i ty)(ho:PE X o td):PC X .NotIn i o (ztm ty td):=by
 intro pins s σ H Q I h
 refine thn (hi pins s σ H _ I h) fun iv s1 ⟨y,H1,I1,ry,q1⟩=>thn (ho pins s1 σ H1 _ I1 q1) fun u s2 ⟨x,H2,I2,rx,a,ov,ex,g,q2⟩=>?_
 subst ex
 obtain rfl:u=Value.ref a:=rx
 exact q0v hu I2 g ry fun s3 I3=>⟨.bl (!ov.isSome),H2,I3,rfl,q2⟩
theorem zp4(hu:X.A.units+1 < cLine)(ho:PE X o td)(hi:PE X i ty)(hv:PE X value tv)(hs:swapsWith value (some (.Subscript o i pos')) pos.line X.env=pure false) :
  PS X (.Assign [.Subscript o i pos'] value pos) (zow td ty tv):=by
 intro pins s σ H D I h
 refine wpAny_Assign_Subscript (thn (hv pins s σ H _ I h) fun r s1 ⟨v,H1,I1,rv,q1⟩=>thn (ho pins s1 σ H1 _ I1 q1) fun u s2 ⟨x,H2,I2,rx,q2⟩=>thn (hi pins s2 σ H2 _ I2 q2) fun iv s3 ⟨y,H3,I3,ry,a,H4,ex,g,q3⟩=>?_) hs
 subst ex
 obtain rfl:u=Value.ref a:=rx
 exact zw0 hu I3 g ry rv fun s4 I4=>⟨σ,H4,I4,q3⟩
end
theorem zxu{P:Program}{w:World}{H:Hp}(h:Heap)(hb:sysModules < h.objs.size):ObjOk P w H (h.push {cls:=.type "dict",data:=.dict #[]}) h.objs.size (.dK []):=
 ⟨Nat.zero_le _,beq_eq_false_iff_ne.mpr (Ne.symm (Nat.ne_of_lt hb)),[],.nil,Heap.DictOf.new h⟩
def zhn:TE:=fun _ H Q=>∀p,H p=none->Q (.ref p) (upd H p (.dK []))
section
variable{X:Cx}{pos:Pos}
theorem zqq:PE X (.Dict [] [] pos) zhn:=fun pins s σ H Q I h=>
 wpAny_Dict_empty ⟨.ref s.heap.objs.size,_,I.laid (a:=s.heap.objs.size) (o:=.dK []) (t':=s.toks) (fun _ _ q=>Heap.get?_push_of_some _ q) (Nat.le_refl _) (zxu s.heap I.big),rfl,h _ (I.hok.fresh (Nat.le_refl _))⟩
end
def zgb:List (TE×TE)->St->Hp->(List (V×V)->Hp->Prop)->Prop
 | [],_,H,Q=>Q [] H
 | (tk,tv)::r,σ,H,Q=>tk σ H fun x H1=>tv σ H1 fun y H2=>zgb r σ H2 fun ps H3=>Q ((x,y)::ps) H3
def q2n(kvs more:List (Key×V)):List (Key×V):=more.foldl (fun acc kv=>zp3 acc kv.1 kv.2) kvs
def zrv(trs:List (TE×TE)):TE:=fun σ H Q=>∀p,H p=none->zgb trs σ (upd H p (.dK [])) fun ps H2=>H2 p=some (.dK [])/\∃kvs:List (Key×V),ps=kvs.map (fun kv=>(kV kv.1,kv.2))/\kvs.length<=15/\Q (.ref p) (upd H2 p (.dK (q2n [] kvs)))
structure M1(X:Cx)(o:Expr)(m:Str)(apos:Pos)(e:Expr)(cpos:Pos):Prop where
 base:attributeBase o m X.env (eval o X.env)=eval o X.env
 few:((backTo cpos (starEach [e] X.env)).all (fun x=>!x.1) && (backToKw cpos (keywordEach [] X.env)).all (fun x=>x.1.isSome)
  && decide (([e]:List Expr).length+([]:List Keyword).length+(if([]:List Keyword).isEmpty then 0 else 1) < 30))=true
 line:(apos.endLine == cpos.line)=true
 trees:backTo cpos (starEach [e] X.env)=[(false,eval e X.env)]
structure M2(X:Cx)(o:Expr)(m:Str)(apos:Pos)(e f:Expr)(cpos:Pos):Prop where
 base:attributeBase o m X.env (eval o X.env)=eval o X.env
 few:((backTo cpos (starEach [e,f] X.env)).all (fun x=>!x.1) && (backToKw cpos (keywordEach [] X.env)).all (fun x=>x.1.isSome)
  && decide (([e,f]:List Expr).length+([]:List Keyword).length+(if([]:List Keyword).isEmpty then 0 else 1) < 30))=true
 line:(apos.endLine == cpos.line)=true
 trees:backTo cpos (starEach [e,f] X.env)=[(false,eval e X.env),(false,eval f X.env)]
def IsD(H:Hp)(a:Addr):Prop:=(∃kvs,Rd H a (.dK kvs))\/∃kvs,Rd H a (.dT kvs)
theorem zyv{X:Cx}{pins:List (Addr×Obj)}{σ : St}{H:Hp}{s:Shared}{a:Addr}(I:Inv X pins σ H s)(d:IsD H a) :
  s.TypeIs (.ref a) "dict"/\(∀b,Value.ref a=.ref b->∃ob,s.heap.get? b=some ob/\ob.dict=none)/\(a == sysModules)=false:=by
 rcases d with⟨kvs,e⟩ | ⟨kvs,e⟩
 ·obtain⟨_,hd,vs,_,dd⟩:=zsz I.hok e
  refine⟨dd.typeIs,fun b q=>?_,hd⟩
  cases q
  obtain⟨ob,_,_,h1,h2,_⟩:=dd
  exact⟨ob,h1,h2.2.1⟩
 ·obtain⟨_,hd,xs,_,dd⟩:=zsy I.hok e
  refine⟨dd.typeIs,fun b q=>?_,hd⟩
  cases q
  obtain⟨ob,_,_,h1,h2,_⟩:=dd
  exact⟨ob,h1,h2.2.1⟩
section
variable{X:Cx}{pins:List (Addr×Obj)}{σ : St}{H:Hp}{s:Shared}{a:Addr}{y d:V}{u r:Value}{o:Option V}{A:Around}{E:Value->Shared->Prop}
theorem q3c{Q:Value->Shared->Prop}(hu:A.units+1 < cLine)(I:Inv X pins σ H s)(g:DGet H a y o)(ry:RelV y u)(h:∀w' s',Inv X pins σ H s'->RelV (o.getD .non) w'->Q w' s') :
  wpAny (model X.prog X.w) A (call (.builtin "dict.get") [.ref a,u]) Q E s:=by
 rcases g with⟨kvs,k,e,ey,l⟩ | ⟨kvs,k,b,e,ey,eb,l⟩
 ·subst ey
  obtain⟨z,hd,vs,rel,dd⟩:=zsz I.hok e
  refine call_meetsIn PySem.F.slot_dict_get dd.typeIs PySem.F.entry_dict_get (PySem.F.args_dict_get_2 _ _) (meets_dict_get (z25 X.prog X.w) a (zv3 ry) hd) ⟨_,dd.mapOf,h _ _ (I.tok _) ?_⟩
  rw [l]
  exact(rel.val k).getD rfl
 ·subst ey
  cases (show u=Value.ref b from ry)
  obtain⟨z,hd,xs,rel,dd⟩:=zsy I.hok e
  refine call_meetsIn PySem.F.slot_dict_get dd.typeIs PySem.F.entry_dict_get (PySem.F.args_dict_get_2 _ _) (meetsH_dict_get (tupleKind (z25 X.prog X.w)) a b hd) ⟨tupleKind_room_in1 hu,k,xs,zk4 I.hok eb,dd,h _ _ (I.tok _) ?_⟩
  rw [l]
  exact(rel.val k).getD rfl
end
def zho(td ty:TE):TE:=fun σ H Q=>td σ H fun x H1=>∃a,x=.ref a/\IsD H1 a/\ty σ H1 fun y H2=>∃o,DGet H2 a y o/\Q (o.getD .non) H2
def zm0(td ty tx:TE):TE:=fun σ H Q=>td σ H fun x H1=>∃a,x=.ref a/\IsD H1 a/\ty σ H1 fun y H2=>tx σ H2 fun z H3=>∃o,DGet H3 a y o/\Q (o.getD z) H3
section
variable{X:Cx}{o e f:Expr}{apos cpos:Pos}{td ty tx:TE}
theorem zx2(hu:X.A.units+1 < cLine)(ho:PE X o td)(he:PE X e ty) (m:M1 X o "get" apos e cpos):PE X (.Call (.Attribute o "get" apos) [e] [] cpos) (zho td ty):=by
 intro pins s σ H Q I h
 refine wpAny_Call_method m.base m.few m.line PySem.F.plainAttrs_dict PySem.F.slot_dict_get PySem.F.type_dict_get (thn (ho pins s σ H _ I h) fun u s1 ⟨x,H1,I1,rx,a,ex,d,q1⟩=>?_)
 subst ex
 obtain rfl:u=Value.ref a:=rx
 obtain⟨t1,t2,_⟩:=zyv I1 d
 refine⟨t1,t2,?_⟩
 rw [m.trees]
 refine Calls.callWith_builtin rfl (Calls.evalArgs_plain (Calls.spliced_cons (thn (he pins s1 σ H1 _ I1 q1) fun iv s2 ⟨y,H2,I2,ry,ov,g,q2⟩=>Calls.spliced_nil ?_)))
 exact q3c hu I2 g ry fun w' s3 I3 rw'=>⟨_,H2,I3,rw',q2⟩
end
section
variable{X:Cx}{pins:List (Addr×Obj)}{σ : St}{H:Hp}{s:Shared}{a:Addr}{kvs:List (Key×V)}{A:Around}{E:Value->Shared->Prop}
end
section
variable{X:Cx}{pins:List (Addr×Obj)}{σ : St}{H:Hp}{s:Shared}{a:Addr}{y:V}{u:Value}{A:Around}{E:Value->Shared->Prop}
end
end L2
namespace L2
open PySem PySem.Spec PyProof.Rows
section
variable{X:Cx}
end
section
variable{κ : Type} [DecidableEq κ]
end
end L2
set_option Elab.async false
set_option linter.all false
set_option maxRecDepth 100000
namespace L2
open PySem PySem.Spec PyProof.Rows
section
variable{X:Cx}
def q5v(K:PySem.W.Frag)(a:Addr)(f:Int->Option Value):Prop:=∃o es ep,K.lookup a=some o/\o.ExactDict/\o.data=.dict es ep/\(∀e∈es,∃k,Value.isInt k e.key=true/\e.hash=hashInt k)/\∀k,findBy Value.isInt es k=f k
def zru(K:PySem.W.Frag)(td ty:TE):TE:=fun σ H Q=>td σ H fun x H1=>ty σ H1 fun y H2=>∃a k u v f,x=.ref a/\y=.int k/\q5v K a f/\f k=some u/\RelV v u/\Q v H2
end
end L2
set_option Elab.async false
set_option linter.all false
set_option maxRecDepth 100000
namespace L2
open PySem PySem.Spec PyProof.Rows
section
variable{X:Cx}{pins:List (Addr×Obj)}{σ : List (Option V)}{H:Hp}{s:Shared}{h':Heap}
theorem Inv.turnedL{t':Nat}{ch:List Addr}(I:Inv X pins σ H s)(k:∀b o,b∉ch->s.heap.get? b=some o->h'.get? b=some o)(hf:∀b∈ch,FpOk X pins H b):Inv X pins σ H {s with heap:=h',toks:=t'}:=by
 have nit:∀b u,H b=some u->b∉ch:=fun b u e z=>by rw [(hf b z).1] at e; cases e
 refine I.step (g':=s.gens) (d':=s.drawn) (ch:=ch) (fun b hb=>?_) (fun b o _ _ hc e _=>k b o hc e) (fun b o _ _ hc e _=>⟨o.slots,k b o hc e⟩) (fun _ _ _ _ n=>n)
  (fun b o hc e=>⟨o,k b o hc e⟩) (fun _ _ e=>e) (fun _ _ _ e=>e) (fun b ps e=>⟨#[],by rw [e]; simp⟩) (fun m hm=>?_) (fun b u e=>?_) I.bare
 ·obtain⟨_,f1,_,f3,f4,f5⟩:=hf b hb
  exact⟨f3,f1,f4,f5⟩
 ·obtain⟨o,es,ep,ho,r⟩:=hm
  exact⟨o,es,ep,k _ o (fun z=>(hf _ z).2.1 rfl) ho,r⟩
 ·refine(I.hok b u e).stay (fun c v hc q=>k c v ?_ q) (fun _ q=>q) fun _ _ q=>q
  rcases hc with z | z
  ·rw [z]; exact nit b u e
  ·exact nit c _ z
end
def Ite(K:PySem.W.Frag)(a:Addr):It:=
 ⟨fun i H=>∃xs x,SqL K H a xs/\xs[i]?=some x,fun i H x H'=>∃T v,x=.ref T/\H T=none/\H'=upd H T (.tup [.int i,v])/\∀xs,SqL K H a xs->xs[i]?=some v,fun i H=>∃xs,SqL K H a xs/\xs.length<=i⟩
def Itz(K:PySem.W.Frag)(a b:Addr):It:=
 ⟨fun i H=>∃xs ys x y,SqL K H a xs/\SqL K H b ys/\xs[i]?=some x/\ys[i]?=some y,fun i H x H'=>∃T u v,x=.ref T/\H T=none/\H'=upd H T (.tup [u,v])/\(∀xs,SqL K H a xs->xs[i]?=some u)/\∀ys,SqL K H b ys->ys[i]?=some v,
  fun i H=>∃xs ys,SqL K H a xs/\SqL K H b ys/\(xs.length<=i\/ys.length<=i)⟩
theorem zth:(2:Nat)<=sizeLine:=by decide
section
variable{X:Cx}
def q4g(K:PySem.W.Frag)(ta:TA):TI:=fun σ H R=>ta σ H fun vs H1=>∃a,vs=[.ref a]/\(∃xs,SqL K H1 a xs)/\R (Ite K a) H1
end
section
variable{X:Cx}
def q5i(K:PySem.W.Frag)(ta:TA):TI:=fun σ H R=>ta σ H fun vs H1=>∃a b,vs=[.ref a,.ref b]/\(∃xs,SqL K H1 a xs)/\(∃ys,SqL K H1 b ys)/\R (Itz K a b) H1
end
end L2
set_option Elab.async false
set_option linter.all false
set_option maxRecDepth 100000
namespace L2
open PySem PySem.Spec PyProof.Rows
theorem Room.units1{k:Nat}{A:Around}(r:Room k A):A.units+1 < cLine:=by have:=r.un; omega
section
variable{X:Cx}
def zjy(K:PySem.W.Frag):List V->Hp->VK->Prop:=fun xs H Q=>∃(a:Addr) (ns:List Str),xs=[.ref a]/\SqL K H a (ns.map V.str)/\ns.length < 64/\∀(l:Addr) (ms:List Str),H l=none->ms.Perm ns->sortedS ms=true->Q (.ref l) (upd H l (.lst (ms.map V.str)))
def zfn(r r' r'':R2)(ta tb tc td:TE):TT:=fun σ H Q=>ta σ H fun x H1=>tb σ H1 fun y H2=>r x y H2 fun z H3=>∃k,z=.bl k/\(if k=true then tc σ H3 fun w H4=>r' y w H4 fun z H5=>∃k,z=.bl k/\
 (if k=true then td σ H5 fun v H6=>r'' w v H6 fun z H7=>∃k,z=.bl k/\Q k H7 else Q false H5) else Q false H3)
def q5k(K:PySem.W.Frag)(tl:TE):TI:=fun σ H R=>tl σ H fun x H1=>∃a,x=.ref a/\(((∃xs,SqL K H1 a xs)/\R (Itl K a) H1)\/((∃xs,SqT K H1 a xs)/\R (Itt K a) H1))
end
section
variable{X:Cx}
def q53(K:PySem.W.Frag)(H:Hp)(x y:V)(b:Bool):Prop:=∃a c xs ys ds es,x=.ref a/\y=.ref c/\SqL K H a xs/\SqL K H c ys/\DtA H xs ds/\DtA H ys es/\zhw ds=true/\zhw es=true/\SeqAt.shaped (.list (zh6 ds))=true/\SeqAt.shaped (.list (zh6 es))=true/\b=PyData.eqv (.list (zh6 ds)) (.list (zh6 es))
def zsa(K:PySem.W.Frag):R2:=fun x y H Q=>∃b,q53 K H x y b/\Q (.bl b) H
def zp0(K:PySem.W.Frag):R2:=fun x y H Q=>∃b,q53 K H x y b/\Q (.bl (!b)) H
theorem Inv.readsDL{pins:List (Addr×Obj)}{σ : St}{H:Hp}{s:Shared}{a:Addr}{xs:List V}{ds:List Dm}(I:Inv X pins σ H s)(h:SqL X.K H a xs)(d:DtA H xs ds)(hs:zhw ds=true):∃as,Reads s.heap (.ref a) (.list (zh6 ds)) as:=by
 obtain⟨its,r,⟨o,n,e,c,_,dd⟩,_⟩:=I.list h
 obtain⟨as,q⟩:=DtA.reads I d hs r
 exact⟨_,.list e c dd (by simpa using q)⟩
theorem q5o(hu:X.A.units+64 < cLine):OpR X (compareOp .NotEq) (zp0 X.K):=by
 intro pins s σ H x y v u Q I rx ry h
 obtain⟨b,⟨a,c,xs,ys,ds,es,rfl,rfl,h1,h2,d1,d2,s1,s2,s3,s4,rfl⟩,q⟩:=h
 cases rx; cases ry
 obtain⟨as,ra⟩:=I.readsDL h1 d1 s1
 obtain⟨bs,rb⟩:=I.readsDL h2 d2 s2
 exact ne_dataH ra rb s3 s4 hu ⟨.bl _,H,I,rfl,q⟩
end
end L2
set_option Elab.async false
set_option linter.all false
set_option maxRecDepth 100000
namespace L2
open PySem PySem.Spec PyProof.Rows
def Ris(xs:Array Nat):Prop:=xs.toList.Pairwise (· < ·)
theorem Ris.lt{xs:Array Nat}(h:Ris xs){i j:Nat}(hij:i < j)(hj:j < xs.size)(d:Nat):xs.getD i d < xs.getD j d:=by
 have e:=List.pairwise_iff_getElem.mp h i j (by simp; omega) (by simpa using hj) hij
 simpa [Array.getD,hj,Nat.lt_trans hij hj] using e
end L2
set_option Elab.async false
set_option linter.all false
set_option maxRecDepth 100000
namespace L2
open PySem PySem.Spec PyProof.Rows
section
variable{prog:Program}{w:World}{κ : Type} [DecidableEq κ] (knd:PySem.KeyKind prog w κ) (key:Value->κ)
def SetX(a:Addr)(L:Bool)(ks:List κ)(h:Heap):Prop:=
 ∃o es ep t,h.get? a=some o/\o.ExactSet/\o.data=.set es ep t/\ElemsOf knd es.toList/\ks=es.toList.map (fun e=>key e.2)/\ks.Nodup/\es.size < scanBound/\t.fits es.size=true/\Ris t.place/\t.led=L
variable{knd key}{A:Around}{E:Value->Shared->Prop}{s:Shared}{a:Addr}{L:Bool}{ks:List κ}
theorem SetX.len{h:Heap}(x:SetX knd key a L ks h):ks.length < scanBound:=by
 obtain⟨o,es,ep,t,_,_,_,_,rfl,_,hb,_⟩:=x
 simpa using hb
abbrev q3j(w:World):Bool:=w.params.followText "set-order"
end
end L2
set_option Elab.async false
set_option linter.all false
set_option maxRecDepth 100000
namespace L2
open PySem PySem.Spec PyProof.Rows
section
variable{prog:Program}{w:World}{A:Around}{E:Value->Shared->Prop}{s:Shared}{S I:Addr}{es:Array (Int×Value)}{ep:Nat}{t:SetTable}{o:Obj}
end
end L2
set_option Elab.async false
set_option linter.all false
set_option maxRecDepth 100000
namespace L2
open PySem PySem.Spec PyProof.Rows
section
variable{prog:Program}{w:World}{A:Around}{E:Value->Shared->Prop}{s:Shared}{S I:Addr}{es:Array (Int×Value)}{ep:Nat}{t:SetTable}{o:Obj}
def q5g:Value->Int
 | .int k _=>k
 | _=>0
end
end L2
set_option Elab.async false
set_option linter.all false
set_option maxRecDepth 100000
namespace L2
open PySem PySem.Spec PyProof.Rows
def q4r(P:Program)(w:World)(p:Addr)(ks:List Int):HO:=.ext (SetX (intKind P w) q5g p (!q3j w) ks)
def q49(P:Program)(w:World)(K:PySem.W.Frag):List V->Hp->VK->Prop:=fun xs H Q=>∃(a:Addr) (ns:List Int),xs=[.ref a]/\SqL K H a (ns.map V.int)/\ns.length<=1000/\
 ∀(p:Addr) (ks:List Int),H p=none->ks.Nodup->(∀x,x∈ks↔x∈ns)->ks.length<=ns.length->Q (.ref p) (upd H p (q4r P w p ks))
def zwx(P:Program)(w:World):List V->Hp->VK->Prop:=fun xs H Q=>∃(a:Addr) (ks:List Int),xs=[.ref a]/\H a=some (q4r P w a ks)/\ks.length < 64/\
 ∀(l:Addr) (ms:List Int),H l=none->ms.Perm ks->ms.Pairwise (· <= ·)->Q (.ref l) (upd H l (.lst (ms.map V.int)))
section
variable{X:Cx}
end
end L2
set_option Elab.async false
set_option linter.all false
set_option maxRecDepth 100000
namespace L2
open PySem PyProof.Rows
def zjt(L:Addr->Sp->Prop)(i:Nat)(t:TA):TE:=fun σ H Q=>∃f,σ[i]?=some (some (.ref f))/\∃sp,L f sp/\t σ H fun vs H1=>sp vs H1 Q E0
end L2
set_option Elab.async false
set_option linter.all false
set_option maxRecDepth 100000
namespace L2
open PySem PyProof.Rows
section
variable{P:Program}{w:World}{A:Around}{E:Value->Shared->Prop}{s:Shared}
theorem zqt{it t:Addr}{i:Nat}{its:Array Value}{x:Value}{Q:Value->Shared->Prop}(a:s.heap.IsTupleIter it t i)(b:s.heap.IsTuple t its)(c:its[i]?=some x)
  (q:∀h',h'.IsTupleIter it t (i+1)->Heap.SameBut it s.heap h'->Q x {s with heap:=h'}):wpAny (model P w) A (Builtin.SmallTypes.nextOf (.ref it)) Q E s:=by
 have ty:=a.typeIs
 obtain⟨⟨_,dc,_,sl⟩,eo,rfl,rfl⟩:=a
 obtain⟨⟨_,dl,_,ll⟩,el,rfl,nl,rfl⟩:=b
 rw [Builtin.SmallTypes.nextOf]
 refine wpAny_bind (wpAny_callSpecial?_slot (name:="__next__") ty F.slot_tuple_iterator_next (wpAny_call_entry F.slot_tuple_iterator_next ty F.entry_tuple_iterator_next ?_ (F.args_tuple_iterator_next_1 _)))
 wp_walk
 simp only[Int.toNat_natCast,c]
 wp_walk
 exact⟨_,rfl,wpAny_pure (q _ ⟨_,Heap.get?_update_self _ eo rfl,rfl,by simp[Obj.mapFields,rawInt]⟩ (Heap.SameBut.update ..))⟩
theorem zct{it t:Addr}{i:Nat}{its:Array Value}{Q:Value->Shared->Prop}(hh:A.handled=none)(a:s.heap.IsTupleIter it t i)(b:s.heap.IsTuple t its)(c:its[i]?=none)
  (q:∀h' e,Heap.ExtBut it s.heap h'->(∃o,h'.get? e=some o/\o.cls=.type "StopIteration")->E (.ref e) {s with heap:=h'}):wpAny (model P w) A (Builtin.SmallTypes.nextOf (.ref it)) Q E s:=by
 have ty:=a.typeIs
 obtain⟨⟨_,dc,_,sl⟩,eo,rfl,rfl⟩:=a
 obtain⟨⟨_,dl,_,ll⟩,el,rfl,nl,rfl⟩:=b
 rw [Builtin.SmallTypes.nextOf]
 refine wpAny_bind (wpAny_callSpecial?_slot (name:="__next__") ty F.slot_tuple_iterator_next (wpAny_call_entry F.slot_tuple_iterator_next ty F.entry_tuple_iterator_next ?_ (F.args_tuple_iterator_next_1 _)))
 wp_walk
 simp only[Int.toNat_natCast,c]
 have hh':A.in1.handled=none:=hh
 wp_walk
 rw [raiseNew]
 wp_walk
 exact q _ _ (((Heap.SameBut.update ..).extBut.push _).push _) ⟨_,Heap.get?_push_size _ rfl,rfl⟩
theorem zod(t u:Addr)(xs ys:Array Value):Meets (Builtin.«zip.__new__» ⟨[.type "zip",.ref t,.ref u],[]⟩) (fun _ R s=>s.heap.IsTuple t xs/\s.heap.IsTuple u ys/\
  ∀h',IsZip h' (s.heap.objs.size+4) (s.heap.objs.size+2) (s.heap.objs.size+3) .none->IsPair h' (s.heap.objs.size+2) (.ref s.heap.objs.size) (.ref (s.heap.objs.size+1))->IsPair h' (s.heap.objs.size+3) .none .none->
   h'.IsTupleIter s.heap.objs.size t 0->h'.IsTupleIter (s.heap.objs.size+1) u 0->h'.objs.size=s.heap.objs.size+5->(∀c o,s.heap.get? c=some o->h'.get? c=some o)->R (.ok (.ret (.ref (s.heap.objs.size+4)))) {s with heap:=h'}):=by
 refine .of_wp fun prog w A R s h=>?_
 obtain⟨hp,g,d,tk,os⟩:=s
 obtain⟨h1,h2,h⟩:=h
 have zz:=sub_zip
 have e1:Heap.IsTuple (Shared.heap ⟨hp,g,d,tk,os⟩) t xs:=h1
 have e2:Heap.IsTuple (Shared.heap ⟨hp.push {cls:=.type "tuple_iterator",data:=.fields #[.ref t,.int 0 0]},g,d,tk,os⟩) u ys:=Heap.IsTuple.push h2 _
 wp_walk using wpAny_pyIter_tuple e1,wpAny_pyIter_tuple e2
 refine⟨_,rfl,?_⟩
 have put:∀{k:Heap} {o:Obj} {n:Nat},n=k.objs.size->o.isFreed=false->(k.push o).get? n=some o:=fun e f=>by subst e; exact Heap.get?_push_size _ f
 have up:∀{k:Heap} {o o':Obj} {n:Nat},k.get? n=some o->(k.push o').get? n=some o:=fun e=>Heap.get?_push_of_some _ e
 simp only[Heap.size_push,Nat.add_assoc,Nat.reduceAdd]
 refine h _ ?_ ?_ ?_ ⟨_,up (up (up (up (put rfl rfl)))),rfl,rfl⟩ ⟨_,up (up (up (put (by simp[Heap.size_push]) rfl))),rfl,rfl⟩ (by simp[Heap.size_push]) fun c o x=>up (up (up (up (up x))))
 ·exact put (by simp[Heap.size_push]) rfl
 ·exact up (up (put (by simp[Heap.size_push]) rfl))
 ·exact up (put (by simp[Heap.size_push]) rfl)
def Nx(P:Program)(w:World)(A:Around)(it:Addr)(Q:Value->Shared->Prop)(E:Value->Shared->Prop)(s:Shared):Prop:=wpAny (model P w) A (Builtin.SmallTypes.nextOf (.ref it)) Q E s
theorem zi8{it:Addr}{Q:Value->Shared->Prop}(h:Nx P w A it Q E s):wpAny (model P w) A (Builtin.SmallTypes.nextOf (.ref it)) Q E s:=h
end
end L2
set_option Elab.async false
set_option linter.all false
set_option maxRecDepth 100000
namespace L2
open PySem PyProof.Rows
section
variable{P:Program}{w:World}{A:Around}{E:Value->Shared->Prop}{s:Shared}
set_option maxHeartbeats 8000000 in
theorem zro{z I O i1 i2 t u:Addr}{k:Nat}{xs ys:Array Value}{x y a b:Value}{Q:Value->Shared->Prop}(D:ZipApart z I O i1 i2 t u)(hz:IsZip s.heap z I O .none)(hI:IsPair s.heap I (.ref i1) (.ref i2))(hO:IsPair s.heap O a b)
  (h1:s.heap.IsTupleIter i1 t k) (h2:s.heap.IsTupleIter i2 u k) (ht:s.heap.IsTuple t xs) (hu:s.heap.IsTuple u ys) (hx:xs[k]?=some x) (hy:ys[k]?=some y)
  (q:∀h',IsZip h' z I O (rawInt s.heap.objs.size)->IsPair h' O x y->h'.IsTupleIter i1 t (k+1)->h'.IsTupleIter i2 u (k+1)->IsPair h' s.heap.objs.size x y->h'.objs.size=s.heap.objs.size+1->
   (∀c o,c≠z->c≠O->c≠i1->c≠i2->s.heap.get? c=some o->h'.get? c=some o)->Q (.ref s.heap.objs.size) {s with heap:=h'}) :
  wpAny (model P w) A (Builtin.«zip.__next__» ⟨[.ref z],[]⟩) (fun fin s'=>∃v,fin=.done (.ret v)/\Q v s') E s:=by
 wp_walk using wpAny_onRaise,zi8
 have m0:Heap.SameBut z s.heap (s.heap.update z (Obj.mapFields fun x=>x.setIfInBounds 0 Value.ellipsis)):=Heap.SameBut.update ..
 have z0:IsZip (s.heap.update z (Obj.mapFields fun x=>x.setIfInBounds 0 Value.ellipsis)) z I O .ellipsis:=Heap.get?_update_self _ hz rfl
 generalize s.heap.update z (Obj.mapFields fun x=>x.setIfInBounds 0 Value.ellipsis)=g0 at m0 z0 |-
 refine zqt (h1.extBut m0.extBut D.i1z) (ht.extBut m0.extBut D.l1z) hx fun g1 j1 m1=>?_
 have o1:IsPair g1 O a b:=m1.extBut _ _ D.TOi1 (m0.extBut _ _ D.TOz hO)
 wp_walk using wpAny_onRaise,zi8
 have m2:Heap.SameBut O g1 (g1.update O (Obj.mapSeq fun v=>v.setIfInBounds 0 x)):=Heap.SameBut.update ..
 have o2:IsPair (g1.update O (Obj.mapSeq fun v=>v.setIfInBounds 0 x)) O x b:=Heap.get?_update_self _ o1 rfl
 generalize g1.update O (Obj.mapSeq fun v=>v.setIfInBounds 0 x)=g2 at m2 o2 |-
 refine zqt (((h2.extBut m0.extBut D.i2z).extBut m1.extBut D.i12.symm).extBut m2.extBut D.TOi2.symm) (((hu.extBut m0.extBut D.l2z).extBut m1.extBut D.l2i1).extBut m2.extBut D.l2TO) hy fun g3 j3 m3=>?_
 have o3:IsPair g3 O x b:=m3.extBut _ _ D.TOi2 o2
 have z3:IsZip g3 z I O .ellipsis:=m3.extBut _ _ D.i2z.symm (m2.extBut _ _ D.TOz.symm (m1.extBut _ _ D.i1z.symm z0))
 wp_walk using wpAny_onRaise,zi8
 have m4:Heap.SameBut O g3 (g3.update O (Obj.mapSeq fun v=>v.setIfInBounds (0+1) y)):=Heap.SameBut.update ..
 have o4:IsPair (g3.update O (Obj.mapSeq fun v=>v.setIfInBounds (0+1) y)) O x y:=Heap.get?_update_self _ o3 rfl
 generalize g3.update O (Obj.mapSeq fun v=>v.setIfInBounds (0+1) y)=g4 at m4 o4 |-
 have n4:g4.objs.size=s.heap.objs.size:=m4.1.trans (m3.1.trans (m2.1.trans (m1.1.trans m0.1)))
 rw [show((fun v:Array Value=>v.setIfInBounds (0+1) y) #[x,b]).toList.toArray = #[x,y] from rfl]
 have e5:IsPair (g4.push {cls:=.type "tuple",data:=.seq #[x,y]}) g4.objs.size x y:=Heap.get?_push_size _ rfl
 have z4:IsZip (g4.push {cls:=.type "tuple",data:=.seq #[x,y]}) z I O .ellipsis:=Heap.get?_push_of_some _ (m4.extBut _ _ D.TOz.symm z3)
 have k5:∀c o,c≠z->c≠O->c≠i1->c≠i2->s.heap.get? c=some o->(g4.push {cls:=.type "tuple",data:=.seq #[x,y]}).get? c=some o:=fun c o c1 c2 c3 c4 h=>Heap.get?_push_of_some _ (m4.extBut _ _ c2 (m3.extBut _ _ c4 (m2.extBut _ _ c2 (m1.extBut _ _ c3 (m0.extBut _ _ c1 h)))))
 have o5:IsPair (g4.push {cls:=.type "tuple",data:=.seq #[x,y]}) O x y:=Heap.get?_push_of_some _ o4
 have y1:(g4.push {cls:=.type "tuple",data:=.seq #[x,y]}).IsTupleIter i1 t (k+1):=(((j1.extBut m2.extBut D.TOi1.symm).extBut m3.extBut D.i12).extBut m4.extBut D.TOi1.symm).at fun o h=>Heap.get?_push_of_some _ h
 have y2:(g4.push {cls:=.type "tuple",data:=.seq #[x,y]}).IsTupleIter i2 u (k+1):=(j3.extBut m4.extBut D.TOi2.symm).at fun o h=>Heap.get?_push_of_some _ h
 have s5:(g4.push {cls:=.type "tuple",data:=.seq #[x,y]}).objs.size=s.heap.objs.size+1:=by rw [size_push',n4]
 rw [n4] at e5
 rw [n4]
 generalize g4.push {cls:=.type "tuple",data:=.seq #[x,y]}=g5 at e5 z4 k5 o5 y1 y2 s5 |-
 wp_walk
 have m6:Heap.SameBut z g5 ((g5.update z (Obj.mapFields fun v=>v.setIfInBounds 0 (rawInt s.heap.objs.size))).update z (Obj.mapFields fun v=>v.setIfInBounds 1 (Value.bool false))):=(Heap.SameBut.update ..).trans (Heap.SameBut.update ..)
 refine⟨_,rfl,q _ (Heap.get?_update_self _ (Heap.get?_update_self _ z4 rfl) rfl) (m6.extBut _ _ D.TOz o5) (y1.extBut m6.extBut D.i1z) (y2.extBut m6.extBut D.i2z) (m6.extBut _ _ (Nat.ne_of_gt (Heap.lt_size hz)) e5) (m6.1.trans s5) fun c o c1 c2 c3 c4 h=>m6.extBut _ _ c1 (k5 c o c1 c2 c3 c4 h)⟩
set_option maxHeartbeats 8000000 in
theorem zoe{z I O i1 i2 t u:Addr}{k:Nat}{xs ys:Array Value}{a b:Value}{Q:Fin->Shared->Prop}(hh:A.handled=none)(D:ZipApart z I O i1 i2 t u)(hz:IsZip s.heap z I O .none)(hI:IsPair s.heap I (.ref i1) (.ref i2))(hO:IsPair s.heap O a b)
  (h1:s.heap.IsTupleIter i1 t k) (h2:s.heap.IsTupleIter i2 u k) (ht:s.heap.IsTuple t xs) (hu:s.heap.IsTuple u ys) (hend:xs[k]?=none\/ys[k]?=none)
  (q:∀h' e,(∀c o,c≠z->c≠O->c≠i1->c≠i2->s.heap.get? c=some o->h'.get? c=some o)->(∃o,h'.get? e=some o/\o.cls=.type "StopIteration")->E (.ref e) {s with heap:=h'}) :
  wpAny (model P w) A (Builtin.«zip.__next__» ⟨[.ref z],[]⟩) Q E s:=by
 wp_walk using wpAny_onRaise,zi8
 have m0:Heap.SameBut z s.heap (s.heap.update z (Obj.mapFields fun x=>x.setIfInBounds 0 Value.ellipsis)):=Heap.SameBut.update ..
 have z0:IsZip (s.heap.update z (Obj.mapFields fun x=>x.setIfInBounds 0 Value.ellipsis)) z I O .ellipsis:=Heap.get?_update_self _ hz rfl
 generalize s.heap.update z (Obj.mapFields fun x=>x.setIfInBounds 0 Value.ellipsis)=g0 at m0 z0 |-
 cases hx:xs[k]? with
 | none=>
  refine zct hh (h1.extBut m0.extBut D.i1z) (ht.extBut m0.extBut D.l1z) hx fun g1 e1 m1 he=>?_
  have z1:IsZip g1 z I O .ellipsis:=m1 _ _ D.i1z.symm z0
  obtain⟨oe,ho,hc⟩:=he
  have ne:e1≠z:=fun x=>by subst x; rw [z1] at ho; cases ho; simp at hc
  exact wpAny_setField_rec z1 (by simp) fun h5 _ m5=>q h5 e1 (fun c o c1 c2 c3 c4 h=>m5.extBut _ _ c1 (m1 _ _ c3 (m0.extBut _ _ c1 h))) ⟨oe,m5.extBut _ _ ne ho,hc⟩
 | some x=>
  have hy:ys[k]?=none:=hend.resolve_left (by rw [hx]; simp)
  refine zqt (h1.extBut m0.extBut D.i1z) (ht.extBut m0.extBut D.l1z) hx fun g1 j1 m1=>?_
  have o1:IsPair g1 O a b:=m1.extBut _ _ D.TOi1 (m0.extBut _ _ D.TOz hO)
  wp_walk using wpAny_onRaise,zi8
  have m2:Heap.SameBut O g1 (g1.update O (Obj.mapSeq fun v=>v.setIfInBounds 0 x)):=Heap.SameBut.update ..
  generalize g1.update O (Obj.mapSeq fun v=>v.setIfInBounds 0 x)=g2 at m2 |-
  refine zct hh (((h2.extBut m0.extBut D.i2z).extBut m1.extBut D.i12.symm).extBut m2.extBut D.TOi2.symm) (((hu.extBut m0.extBut D.l2z).extBut m1.extBut D.l2i1).extBut m2.extBut D.l2TO) hy fun g3 e3 m3 he=>?_
  have z3:IsZip g3 z I O .ellipsis:=m3 _ _ D.i2z.symm (m2.extBut _ _ D.TOz.symm (m1.extBut _ _ D.i1z.symm z0))
  obtain⟨oe,ho,hc⟩:=he
  have ne:e3≠z:=fun x=>by subst x; rw [z3] at ho; cases ho; simp at hc
  exact wpAny_setField_rec z3 (by simp) fun h5 _ m5=>q h5 e3 (fun c o c1 c2 c3 c4 h=>m5.extBut _ _ c1 (m3 _ _ c4 (m2.extBut _ _ c2 (m1.extBut _ _ c3 (m0.extBut _ _ c1 h))))) ⟨oe,m5.extBut _ _ ne ho,hc⟩
end
end L2
set_option Elab.async false
set_option linter.all false
set_option maxRecDepth 100000
namespace L2
open PySem PySem.Spec PyProof.Rows
section
variable{P:Program}{w:World}{A:Around}{E:Value->Shared->Prop}{s:Shared}
theorem ztf{z I O i1 i2 t u:Addr}{k:Nat}{xs ys:Array Value}{x y a b:Value}{Q:Option Value->Shared->Prop}(D:ZipApart z I O i1 i2 t u)(hz:IsZip s.heap z I O .none)(hI:IsPair s.heap I (.ref i1) (.ref i2))(hO:IsPair s.heap O a b)
  (h1:s.heap.IsTupleIter i1 t k) (h2:s.heap.IsTupleIter i2 u k) (ht:s.heap.IsTuple t xs) (hu:s.heap.IsTuple u ys) (hx:xs[k]?=some x) (hy:ys[k]?=some y)
  (q:∀h',IsZip h' z I O (rawInt s.heap.objs.size)->IsPair h' O x y->h'.IsTupleIter i1 t (k+1)->h'.IsTupleIter i2 u (k+1)->IsPair h' s.heap.objs.size x y->h'.objs.size=s.heap.objs.size+1->
   (∀c o,c≠z->c≠O->c≠i1->c≠i2->s.heap.get? c=some o->h'.get? c=some o)->Q (some (.ref s.heap.objs.size)) {s with heap:=h'}):wpAny (model P w) A (pyNext (.ref z)) Q E s:=by
 have ty:s.TypeIs (.ref z) "zip":=⟨_,hz,rfl⟩
 rw [pyNext]
 refine wpAny_bind (wpAny_attempt (wpAny_callSpecial?_slot (name:="__next__") ty PySem.F.slot_zip_next (wpAny_call_entry PySem.F.slot_zip_next ty PySem.F.entry_zip_next ?_ (PySem.F.args_zip_next_1 _))))
 exact zro D hz hI hO h1 h2 ht hu hx hy fun h' b1 b2 b3 b4 b5 b6 b7=>wpAny_pure (q h' b1 b2 b3 b4 b5 b6 b7)
theorem zwl{z I O i1 i2 t u:Addr}{k:Nat}{xs ys:Array Value}{a b:Value}{Q:Option Value->Shared->Prop}(hh:A.handled=none)(D:ZipApart z I O i1 i2 t u)(hz:IsZip s.heap z I O .none)(hI:IsPair s.heap I (.ref i1) (.ref i2))(hO:IsPair s.heap O a b)
  (h1:s.heap.IsTupleIter i1 t k) (h2:s.heap.IsTupleIter i2 u k) (ht:s.heap.IsTuple t xs) (hu:s.heap.IsTuple u ys) (hend:xs[k]?=none\/ys[k]?=none)
  (q:∀h',(∀c o,c≠z->c≠O->c≠i1->c≠i2->s.heap.get? c=some o->h'.get? c=some o)->Q none {s with heap:=h'}):wpAny (model P w) A (pyNext (.ref z)) Q E s:=by
 have ty:s.TypeIs (.ref z) "zip":=⟨_,hz,rfl⟩
 rw [pyNext]
 refine wpAny_bind (wpAny_attempt (wpAny_callSpecial?_slot (name:="__next__") ty PySem.F.slot_zip_next (wpAny_call_entry PySem.F.slot_zip_next ty PySem.F.entry_zip_next (zoe (by simpa using hh) D hz hI hO h1 h2 ht hu hend fun h' e hk he=>?_) (PySem.F.args_zip_next_1 _))))
 obtain⟨o,ho,hc⟩:=he
 exact wpAny_bind (wpAny_isInstance (b:=true) ⟨o,ho,hc⟩ isSubtype_stop (wpAny_pure (q _ hk)))
theorem zw8{t u:Addr}{xs ys:Array Value}{Q:Value->Shared->Prop}(ht:s.heap.IsTuple t xs)(hu:s.heap.IsTuple u ys)
  (h:∀h',IsZip h' (s.heap.objs.size+4) (s.heap.objs.size+2) (s.heap.objs.size+3) .none->IsPair h' (s.heap.objs.size+2) (.ref s.heap.objs.size) (.ref (s.heap.objs.size+1))->IsPair h' (s.heap.objs.size+3) .none .none->
   h'.IsTupleIter s.heap.objs.size t 0->h'.IsTupleIter (s.heap.objs.size+1) u 0->h'.objs.size=s.heap.objs.size+5->(∀c o,s.heap.get? c=some o->h'.get? c=some o)->Q (.ref (s.heap.objs.size+4)) {s with heap:=h'}) :
  wpAny (model P w) A (call (.type "zip") [.ref t,.ref u]) Q E s:=by
 refine callType_new PySem.F.called_zip (by decide) (PySem.F.typeCall_zip_2 _ _) (PySem.F.newCall_zip_2 _ _) (fun obj=>PySem.F.args_object_init_3 obj _ _) PySem.F.entry_zip_new (zod t u xs ys) ⟨ht,hu,fun h' b1 b2 b3 b4 b5 b6 b7=>?_⟩
 exact⟨⟨_,b1,rfl⟩,h h' b1 b2 b3 b4 b5 b6 b7⟩
end
def q1b(K:PySem.W.Frag)(a b:Addr):It:=
 ⟨fun i H=>∃xs ys x y,SqT K H a xs/\SqT K H b ys/\xs[i]?=some x/\ys[i]?=some y,fun i H x H'=>∃T u v,x=.ref T/\H T=none/\H'=upd H T (.tup [u,v])/\(∀xs,SqT K H a xs->xs[i]?=some u)/\∀ys,SqT K H b ys->ys[i]?=some v,
  fun i H=>∃xs ys,SqT K H a xs/\SqT K H b ys/\(xs.length<=i\/ys.length<=i)⟩
theorem zti{P:Program}{w:World}{K:PySem.W.Frag}{elts:List Expr}{kt:Nat}{pt:Pos}(a b z TI TO i1 i2:Addr)(D:ZipApart z TI TO i1 i2 a b) :
  Turn P w K (.Tuple elts kt pt) (q1b K a b) [z,TI,TO,i1,i2] z (fun i h=>IsZip h z TI TO .none/\IsPair h TI (.ref i1) (.ref i2)/\(∃u v,IsPair h TO u v)/\h.IsTupleIter i1 a i/\h.IsTupleIter i2 b i) where
 mem:=by simp
 obj:=fun i h st c hc=>by
  obtain⟨hz,hTI,⟨u,v,hTO⟩,h1,h2⟩:=st
  simp only[List.mem_cons,List.not_mem_nil,or_false] at hc
  rcases hc with rfl | rfl | rfl | rfl | rfl
  ·exact⟨_,hz,fun v z=>by cases z⟩
  ·exact⟨_,hTI,fun v z=>by cases z⟩
  ·exact⟨_,hTO,fun v z=>by cases z⟩
  ·obtain⟨o,e',c,d⟩:=h1
   exact⟨o,e',fun v z=>by rw [d] at z; cases z⟩
  ·obtain⟨o,e',c,d⟩:=h2
   exact⟨o,e',fun v z=>by rw [d] at z; cases z⟩
 keep:=fun i h h' st k=>by
  obtain⟨hz,hTI,⟨u,v,hTO⟩,h1,h2⟩:=st
  exact⟨k z (by simp) _ hz,k TI (by simp) _ hTI,⟨u,v,k TO (by simp) _ hTO⟩,h1.at fun o q=>k i1 (by simp) o q,h2.at fun o q=>k i2 (by simp) o q⟩
 item:=by
  intro X hP hw hK hc i pins s σ H E I hf st hg
  subst hP hw hK
  obtain⟨hz,hTI,⟨u0,v0,hTO⟩,h1,h2⟩:=st
  obtain⟨xs,ys,x,y,hq,hq2,hx,hy⟩:=hg
  obtain⟨its,rv,p,_⟩:=I.tuple hq
  obtain⟨its2,rv2,p2,_⟩:=I.tuple hq2
  obtain⟨u,hu,ru⟩:=rv.get hx
  obtain⟨u2,hu2,ru2⟩:=rv2.get hy
  refine ztf D hz hTI hTO h1 h2 p p2 (x:=u) (y:=u2) (by simpa using hu) (by simpa using hu2) fun h3 a1 a2 a3 a4 a5 a6 hk=>?_
  refine⟨_,rfl,wpAny_letOwnedTupleGo_zip a1 fun h4 hz4 hs4=>?_⟩
  have hs4':Heap.SameBut z h3 h4:=hs4
  have hzl:z < s.heap.objs.size:=Heap.lt_size hz
  have kk:∀c o,c∉[z,TI,TO,i1,i2]->s.heap.get? c=some o->h4.get? c=some o:=fun c o hc' q=>
   hs4'.extBut c o (fun e=>hc' (by simp[e])) (hk c o (fun e=>hc' (by simp[e])) (fun e=>hc' (by simp[e])) (fun e=>hc' (by simp[e])) (fun e=>hc' (by simp[e])) q)
  have I1:Inv X pins σ H {s with heap:=h4,toks:=s.toks}:=I.turnedL kk hf
  have hTn:H s.heap.objs.size=none:=I.hok.fresh (Nat.le_refl _)
  have hT2:h4.get? s.heap.objs.size=some {cls:=.type "tuple",data:=.seq #[u,u2]}:=hs4'.extBut _ _ (Nat.ne_of_gt hzl) a5
  have I2:Inv X pins σ (upd H s.heap.objs.size (.tup [x,y])) {s with heap:=h4,toks:=s.toks}:=
   I1.track hTn (I.fpOk (Nat.le_refl _) hTn) (show ObjOk X.prog X.w _ h4 _ (.tup [x,y]) from⟨zth,[u,u2],.cons ru (.cons ru2 .nil),⟨_,hT2,rfl,_,rfl⟩⟩)
  refine⟨.ref s.heap.objs.size,_,I2,rfl,⟨s.heap.objs.size,x,y,rfl,hTn,rfl,fun zs hz'=>by rw [I.tuple_inj hz' hq]; exact hx,fun zs hz'=>by rw [I.tuple_inj hz' hq2]; exact hy⟩,
   ⟨hz4,hs4'.extBut _ _ D.TIz (hk _ _ D.TIz D.TITO D.TIi1 D.TIi2 hTI),⟨_,_,hs4'.extBut _ _ D.TOz a2⟩,a3.at fun o q=>(hs4'.2 i1 D.i1z).trans q,a4.at fun o q=>(hs4'.2 i2 D.i2z).trans q⟩,fun c hc'=>?_⟩
  have hcl:c < s.heap.objs.size:=by
   simp only[List.mem_cons,List.not_mem_nil,or_false] at hc'
   rcases hc' with rfl | rfl | rfl | rfl | rfl
   ·exact hzl
   ·exact Heap.lt_size hTI
   ·exact Heap.lt_size hTO
   ·obtain⟨o,e',_⟩:=h1; exact Heap.lt_size e'
   ·obtain⟨o,e',_⟩:=h2; exact Heap.lt_size e'
  rw [z0a (Nat.ne_of_lt hcl)]
  exact(hf c hc').1
 done:=by
  intro X hP hw hK hc i pins s σ H E I hf st hg
  subst hP hw hK
  obtain⟨hz,hTI,⟨u0,v0,hTO⟩,h1,h2⟩:=st
  obtain⟨xs,ys,hq,hq2,hend⟩:=hg
  obtain⟨its,rv,p,_⟩:=I.tuple hq
  obtain⟨its2,rv2,p2,_⟩:=I.tuple hq2
  have e1:=rv.length
  have e2:=rv2.length
  refine zwl (I.ok.hd hc) D hz hTI hTO h1 h2 p p2 ?_ fun h' hk=>⟨rfl,I.turnedL (t':=s.toks) (fun c o hc' q=>hk c o (fun e=>hc' (by simp[e])) (fun e=>hc' (by simp[e])) (fun e=>hc' (by simp[e])) (fun e=>hc' (by simp[e])) q) hf⟩
  rcases hend with z | z
  ·exact .inl (by simp; omega)
  ·exact .inr (by simp; omega)
 self:=fun _ _ _ _ _ st h=>wpAny_pyIter_zip st.1 h
section
variable{X:Cx}
def q0g(K:PySem.W.Frag)(ta:TA):TI:=fun σ H R=>ta σ H fun vs H1=>∃a b,vs=[.ref a,.ref b]/\(∃xs,SqT K H1 a xs)/\(∃ys,SqT K H1 b ys)/\R (q1b K a b) H1
theorem zu6{elts:List Expr}{kt:Nat}{pt p pos:Pos}{l l2:Expr}{ta:TA} (hg:Gl X "zip") (hm:X.mg "zip" = none) (ha:PA X [l,l2] ta) (hst:zij l=false:=by rfl) (hst2:zij l2=false:=by rfl):PI X (.Tuple elts kt pt) (.Call (.Name "zip" p) [l,l2] [] pos) (q0g X.K ta):=by
 intro pins s σ H R I h
 have hpl:=z1y (pos:=pos) (env:=X.env) (es:=[l2]) (by simp[z1z,hst2])
 refine Call_ (zig I hg hm boot_zip (PyProof.Rows.callWith_type1 (thn (ha pos pins s σ H _ I h) fun us s1 ⟨vs,H1,I1,r1,q1⟩=>?_) (z0r hst) hpl))
 obtain⟨a,b,e,⟨xs,hq⟩,⟨ys,hq2⟩,q⟩:=q1
 subst e
 cases r1 with
 | cons r rr=>
  cases rr with
  | cons r2 rr=>
   cases rr
   cases r
   cases r2
   obtain⟨its,rv,pl,_⟩:=I1.tuple hq
   obtain⟨its2,rv2,pl2,_⟩:=I1.tuple hq2
   have hla:a < s1.heap.objs.size:=by obtain⟨_,e,_⟩:=pl; exact Heap.lt_size e
   have hlb:b < s1.heap.objs.size:=by obtain⟨_,e,_⟩:=pl2; exact Heap.lt_size e
   refine zw8 pl pl2 fun h' hz hTI hTO h1 h2 hsz hk=>?_
   have I2:Inv X pins σ H1 {s1 with heap:=h'}:=I1.kept (t':=s1.toks) hk
   refine wpAny_pyIter_zip hz ?_
   refine⟨s1.heap.objs.size+4,[s1.heap.objs.size+4,s1.heap.objs.size+2,s1.heap.objs.size+3,s1.heap.objs.size,s1.heap.objs.size+1],_,_,H1,rfl,I2,zti a b _ _ _ _ _ (zipApart_new hla hlb),⟨hz,hTI,⟨_,_,hTO⟩,h1,h2⟩,fun c hc=>?_,q⟩
   have hle:s1.heap.objs.size<=c:=by
    simp only[List.mem_cons,List.not_mem_nil,or_false] at hc
    rcases hc with rfl | rfl | rfl | rfl | rfl<;>first | exact Nat.le_refl _ | exact Nat.le_add_right _ _
   exact I1.fpOk hle (I1.hok.fresh hle)
end
section
variable{prog:Program}{w:World}{A:Around}{E:Value->Shared->Prop}{s:Shared}
theorem ze0{t sl:Addr}{items:Array Value}{vl vu:Value}{lo hi:Option Int}{Q:Value->Shared->Prop}(ht:IsTup s.heap t items)(hs:s.heap.IsSliceOf sl vl vu .none)(pl:IsPart vl lo)(pu:IsPart vu hi)
  (hw:HT.sIx items.size 0 lo=0/\HT.sIx items.size items.size hi=items.size) (h:Q (.ref t) s):wpAny (model prog w) A (getItem (.ref t) (.ref sl)) Q E s:=by
 obtain⟨os,hos,hcs,hds⟩:=id hs
 have ts:s.TypeIs (.ref sl) "slice":=⟨os,hos,hcs⟩
 unfold getItem
 try with_reducible refine wpAny_holding ?_
 first | refine wpAny_bind (wpAny_pure ?_) | skip
 refine wpAny_bind (wpAny_sequenceKey ht.typeIs (by decide) ?_)
 refine wpAny_bind (wpAny_callSpecial?_slot (name:=Str.ofString "__getitem__") ht.typeIs PyProof.Rows.slot_tuple_getitem (wpAny_call_entry PyProof.Rows.slot_tuple_getitem ht.typeIs entry_tuple_getitem ?_ (args_tuple_getitem _ _)))
 show wpAny _ _ (Builtin.Tuple.tupleItemsOf (.ref t) >>= _) _ _ s
 refine wpAny_bind (PyProof.Rows.tupleItemsOf_ ht (wpAny_bind (wpAny_typeOf ts ?_)))
 rw [if_pos (by decide)]
 refine wpAny_bind (HT.zb6 hs pl pu ?_)
 refine wpAny_ite_split (fun _=>?_) (fun c=>absurd ?_ c)
 ·unfold Builtin.Tuple.tupleIsExact
  refine wpAny_bind (wpAny_bind (wpAny_typeOf ht.typeIs (wpAny_pure ?_)))
  refine wpAny_ite_split (fun _=>?_) (fun c=>absurd (by decide) c)
  exact wpAny_bind (wpAny_rule (wpAny_pure ⟨_,rfl,wpAny_pure h⟩))
 ·rw [hw.1,hw.2]
  simp
end
section
variable{X:Cx}
def q23(K:PySem.W.Frag):V->Option Int->Option Int->Hp->VK->Prop:=fun x lo hi H Q=>∃a xs,x=.ref a/\SqT K H a xs/\
 (((HT.sIx xs.length 0 lo=0/\HT.sIx xs.length xs.length hi=xs.length)/\Q (.ref a) H)\/(¬ (HT.sIx xs.length 0 lo=0/\HT.sIx xs.length xs.length hi=xs.length)/\∀p,H p=none->Q (.ref p) (upd H p (.tup (zt3 xs lo hi)))))
theorem zze:SlR X (q23 X.K):=by
 intro pins s σ H x v vl vu lo hi sl Q I rx hs pl pu h
 obtain⟨a,xs,rfl,hx,⟨hw,q⟩ | ⟨hw,q⟩⟩:=h
 ·cases rx
  obtain⟨its,r,ht,hz⟩:=I.tuple hx
  have hlen:its.toArray.size=xs.length:=by rw [List.size_toArray]; exact r.length.symm
  exact⟨"tuple",_,PyProof.Rows.slot_tuple_getitem.lookup,ht.typeIs,ze0 ht hs pl pu (by rw [hlen]; exact hw) ⟨.ref a,H,I,rfl,q⟩⟩
 ·exact q1y pins s σ H (.ref a) v vl vu lo hi sl Q I rx hs pl pu ⟨a,xs,rfl,hx,hw,q⟩
end
end L2
set_option Elab.async false
set_option linter.all false
set_option maxRecDepth 100000
namespace L2
open PySem PySem.Spec PyProof.Rows
inductive DX where
 | c (d:Dm) | var (i:Nat) | tup (l:List DX) | lst (l:List DX) | cat (a b:DX) | lof (a:DX)
def q50:Dm->Dm->Dm
 | .tup x,.tup y=>.tup (x++y)
 | _,_=>.non
mutual
def DX.val(ρ : Nat->Dm):DX->Dm
 | .c d=>d
 | .var i=>ρ i
 | .tup l=>.tup (zga ρ l)
 | .lst _=>.lst
 | .cat a b=>q50 (a.val ρ) (b.val ρ)
 | .lof _=>.lst
def zga(ρ : Nat->Dm):List DX->List Dm
 | []=>[]
 | x::r=>x.val ρ::zga ρ r
end
mutual
def DX.Fit(ρ : Nat->Dm)(σ : St)(H:Hp):DX->Prop
 | .c _=>True
 | .var i=>∃v,σ[i]?=some (some v)/\Dt H v (ρ i)
 | .tup l=>l.length<=1000/\FitA ρ σ H l
 | .lst l=>l.length<=1000/\FitA ρ σ H l
 | .cat a b=>a.Fit ρ σ H/\b.Fit ρ σ H/\∃x y,a.val ρ = .tup x/\b.val ρ = .tup y/\x.length+y.length<=1000
 | .lof a=>a.Fit ρ σ H/\∃x,a.val ρ = .tup x
def FitA(ρ : Nat->Dm)(σ : St)(H:Hp):List DX->Prop
 | []=>True
 | x::r=>x.Fit ρ σ H/\FitA ρ σ H r
end
mutual
theorem DX.Fit.mono{ρ : Nat->Dm}{σ : St}{H H':Hp}(s:Same H H'):∀{x:DX},x.Fit ρ σ H->x.Fit ρ σ H'
 | .c _,_=>by rw [DX.Fit]; trivial
 | .var i,h=>by
  rw [DX.Fit] at h |-
  obtain⟨v,e,d⟩:=h
  exact⟨v,e,d.kp s.kp⟩
 | .tup l,h=>by
  rw [DX.Fit] at h |-
  exact⟨h.1,FitA.mono s h.2⟩
 | .lst l,h=>by
  rw [DX.Fit] at h |-
  exact⟨h.1,FitA.mono s h.2⟩
 | .cat a b,h=>by
  rw [DX.Fit] at h |-
  exact⟨DX.Fit.mono s h.1,DX.Fit.mono s h.2.1,h.2.2⟩
 | .lof a,h=>by
  rw [DX.Fit] at h |-
  exact⟨DX.Fit.mono s h.1,h.2⟩
theorem FitA.mono{ρ : Nat->Dm}{σ : St}{H H':Hp}(s:Same H H'):∀{l:List DX},FitA ρ σ H l->FitA ρ σ H' l
 | [],_=>by rw [FitA]; trivial
 | x::r,h=>by
  rw [FitA] at h |-
  exact⟨DX.Fit.mono s h.1,FitA.mono s h.2⟩
end
def q3i(vt:List Nat):DX->DX->Bool
 | .var i,.tup l=>vt.contains i && decide (l.length<=100)
 | _,_=>false
def q2o(vt:List Nat):DX->Bool
 | .var i=>vt.contains i
 | _=>false
mutual
def DX.chk(vo vt:List Nat):DX->Bool
 | .c _=>true
 | .var i=>vo.contains i
 | .tup l=>decide (l.length<=100) && q3g vo vt l
 | .lst l=>decide (l.length<=100) && q3g vo vt l
 | .cat a b=>q3i vt a b && a.chk vo vt && b.chk vo vt
 | .lof a=>q2o vt a && a.chk vo vt
def q3g(vo vt:List Nat):List DX->Bool
 | []=>true
 | x::r=>x.chk vo vt && q3g vo vt r
end
structure Env(ρ : Nat->Dm)(σ : St)(H:Hp)(vo vt:List Nat):Prop where
 o:∀i∈vo,∃v,σ[i]?=some (some v)/\Dt H v (ρ i)
 t:∀i∈vt,∃ds,ρ i=.tup ds/\ds.length<=100
theorem zly(ρ : Nat->Dm):∀l:List DX,(zga ρ l).length=l.length
 | []=>rfl
 | _::r=>by rw [zga,List.length_cons,List.length_cons,zly ρ r]
mutual
theorem Env.fit{ρ : Nat->Dm}{σ : St}{H:Hp}{vo vt:List Nat}(e:Env ρ σ H vo vt):∀{x:DX},x.chk vo vt=true->x.Fit ρ σ H
 | .c _,_=>by rw [DX.Fit]; trivial
 | .var i,h=>by
  rw [DX.chk] at h
  rw [DX.Fit]
  exact e.o i (List.contains_iff_mem.mp h)
 | .tup l,h=>by
  rw [DX.chk,Bool.and_eq_true,decide_eq_true_eq] at h
  rw [DX.Fit]
  exact⟨by omega,e.fitA h.2⟩
 | .lst l,h=>by
  rw [DX.chk,Bool.and_eq_true,decide_eq_true_eq] at h
  rw [DX.Fit]
  exact⟨by omega,e.fitA h.2⟩
 | .cat a b,h=>by
  rw [DX.chk,Bool.and_eq_true,Bool.and_eq_true] at h
  obtain⟨⟨h0,h1⟩,h2⟩:=h
  rw [DX.Fit]
  refine⟨e.fit h1,e.fit h2,?_⟩
  unfold q3i at h0
  split at h0
  ·rename_i i l
   rw [Bool.and_eq_true,decide_eq_true_eq] at h0
   obtain⟨ds,ed,hl⟩:=e.t i (List.contains_iff_mem.mp h0.1)
   exact⟨ds,zga ρ l,by rw [DX.val]; exact ed,by rw [DX.val],by rw [zly]; omega⟩
  ·cases h0
 | .lof a,h=>by
  rw [DX.chk,Bool.and_eq_true] at h
  rw [DX.Fit]
  refine⟨e.fit h.2,?_⟩
  have h0:=h.1
  unfold q2o at h0
  split at h0
  ·rename_i i
   obtain⟨ds,ed,hl⟩:=e.t i (List.contains_iff_mem.mp h0)
   exact⟨ds,by rw [DX.val]; exact ed⟩
  ·cases h0
theorem Env.fitA{ρ : Nat->Dm}{σ : St}{H:Hp}{vo vt:List Nat}(e:Env ρ σ H vo vt):∀{l:List DX},q3g vo vt l=true->FitA ρ σ H l
 | [],_=>by rw [FitA]; trivial
 | x::r,h=>by
  rw [q3g,Bool.and_eq_true] at h
  rw [FitA]
  exact⟨e.fit h.1,e.fitA h.2⟩
end
def tDX(x:DX):TE:=fun σ H Q=>∃ ρ,x.Fit ρ σ H/\∀v H',Same H H'->Dt H' v (x.val ρ)->Q v H'
def zwi(l:List DX):TA:=fun σ H Q=>∃ ρ,FitA ρ σ H l/\∀vs H',Same H H'->DtA H' vs (zga ρ l)->Q vs H'
theorem zq5(ρ : Nat->Dm):∀l:List DX,(zga ρ l).length=l.length
 | []=>rfl
 | _::r=>by rw [zga,List.length_cons,List.length_cons,zq5 ρ r]
section
variable{X:Cx}
theorem PE.weak{e:Expr}{t t':TE}(h:PE X e t)(k:∀ σ H Q,t' σ H Q->t σ H Q):PE X e t':=fun pins s σ H Q I q=>h pins s σ H Q I (k σ H Q q)
theorem PA.weak{es:List Expr}{t t':TA}(h:PA X es t)(k:∀ σ H Q,t' σ H Q->t σ H Q):PA X es t':=fun pos pins s σ H Q I q=>h pos pins s σ H Q I (k σ H Q q)
theorem q4z{e:Expr}{v:V}{d:Dm}(h:PE X e (tC v))(k:∀H,Dt H v d):PE X e (tDX (.c d)):=h.weak fun σ H Q ⟨ρ,_,q⟩=>q v H (Same.refl _) (k H)
theorem z4c{i:Int}{j pos}:PE X (.Constant (.int i) j pos) (tDX (.c (.int i))):=q4z z02 fun _=>.int i
theorem z8h{x j pos}:PE X (.Constant (.str x) j pos) (tDX (.c (.str x))):=q4z z0i fun _=>.str x
theorem q32{i:Int}{j p pos}:PE X (.UnaryOp .USub (.Constant (.int i) j p) pos) (tDX (.c (.int (-i)))):=(zp9 zhl z02).weak fun σ H Q ⟨ρ,_,q⟩=>⟨i,rfl,q _ H (Same.refl _) (.int _)⟩
theorem zr8{e:Expr}{i:Nat}(h:PE X e (zq6 i)):PE X e (tDX (.var i)):=h.weak fun σ H Q ⟨ρ,f,q⟩=>by
 rw [DX.Fit] at f
 obtain⟨v,ev,d⟩:=f
 exact⟨v,ev,q v H (Same.refl _) d⟩
theorem z2p:PA X [] (zwi []):=pa_nil.weak fun σ H Q ⟨ρ,_,q⟩=>q [] H (Same.refl _) .nil
theorem z2h{e:Expr}{es:List Expr}{x:DX}{l:List DX}(h:PE X e (tDX x))(k:PA X es (zwi l))(hs:zij e=false:=by rfl):PA X (e::es) (zwi (x::l)):=(z06 h k hs).weak fun σ H Q ⟨ρ,f,q⟩=>by
 rw [FitA] at f
 exact⟨ρ,f.1,fun v H1 s1 d1=>⟨ρ,f.2.mono s1,fun vs H2 s2 d2=>q (v::vs) H2 (s1.trans s2) (.cons (d1.kp s2.kp) d2)⟩⟩
theorem z4u{es:List Expr}{x1}{l:List DX}{pos:Pos}(h:PA X es (zwi l)):PE X (.Tuple es x1 pos) (tDX (.tup l)):=(z11 h).weak fun σ H Q ⟨ρ,f,q⟩=>by
 rw [DX.Fit] at f
 exact⟨ρ,f.2,fun vs H1 s1 d1=>⟨by rw [d1.length,zq5]; exact Nat.le_of_lt (z3e f.1),fun p hp=>q _ _ (s1.trans (z04 hp _)) (.tup z01 (d1.kp (z04 hp _).kp))⟩⟩
theorem q33{a b:Expr}{x y:DX}{pos:Pos}(ha:PE X a (tDX x))(hb:PE X b (tDX y)):PE X (.BinOp a .Add b pos) (tDX (.cat x y)):=(z0o z3x ha hb).weak fun σ H Q ⟨ρ,f,q⟩=>by
 rw [DX.Fit] at f
 obtain⟨f1,f2,ds,es,e1,e2,hz⟩:=f
 refine⟨ρ,f1,fun v H1 s1 d1=>⟨ρ,f2.mono s1,fun u H2 s2 d2=>?_⟩⟩
 have ev:(DX.cat x y).val ρ = .tup (ds++es):=by rw [DX.val,e1,e2]; rfl
 rw [ev] at q
 rw [e1] at d1
 rw [e2] at d2
 have d1:=d1.kp s2.kp
 cases d1 with
 | @tup p xs _ e r=>
  cases d2 with
  | @tup p2 ys _ e' r'=>
   have s12:=s1.trans s2
   refine⟨p,p2,xs,ys,rfl,rfl,SqT.of e,SqT.of e',Nat.le_of_lt (z3e (by rw [r.length,r'.length]; exact hz)),fun z=>?_,fun _ z=>?_,fun _ _ p3 hp3=>?_⟩
   ·subst z
    cases r
    exact q _ _ s12 (.tup e' r')
   ·subst z
    cases r'
    rw [List.append_nil] at q
    exact q _ _ s12 (.tup e r)
   ·exact q _ _ (s12.trans (z04 hp3 _)) (.tup z01 ((r.append r').kp (z04 hp3 _).kp))
end
end L2
set_option Elab.async false
set_option linter.all false
set_option maxRecDepth 100000
namespace L2
open PySem PySem.Spec PyProof.Rows PySem.W
def ltI:List Int->List Int->Bool
 | _,[]=>false
 | [],_::_=>true
 | a::x,b::y=>if a=b then ltI x y else decide (a < b)
theorem zyq:∀{x y:List Int},ltI x y=true->ltI y x=false
 | _,[],h=>by cases ‹List Int›<;>simp[ltI] at h
 | [],b::y,_=>by simp[ltI]
 | a::x,b::y,h=>by
  rw [ltI] at h |-
  by_cases e:a=b
  ·subst e
   rw [if_pos rfl] at h |-
   exact zyq h
  ·rw [if_neg e] at h
   rw [if_neg (Ne.symm e)]
   simp only[decide_eq_true_eq,decide_eq_false_iff_not] at h |-
   omega
section
variable{prog:Program}{w:World}{A:Around}{E:Value->Shared->Prop}{s:Shared}
variable{k:SortKind}{vs:List Value}{st:SortSt}
end
end L2
set_option Elab.async false
set_option linter.all false
set_option maxRecDepth 100000
namespace L2
open PySem PySem.Spec PyProof.Rows PySem.W
section
variable{prog:Program}{w:World}{A:Around}{E:Value->Shared->Prop}{s:Shared}
end
def pathD(p:List Int):Dm:=.tup (p.map Dm.int)
abbrev Rw2:=List Int×Dm
def q1g(r:Rw2):Dm:=.tup [pathD r.1,r.2]
theorem zcv{H:Hp}:∀{xs:List V} {p:List Int},DtA H xs (p.map Dm.int)->xs=p.map V.int
 | _,[],.nil=>rfl
 | _,_::_,.cons (.int _) r=>by rw [List.map_cons,<- zcv r]
section
variable{X:Cx}{pins:List (Addr×Obj)}{σ : St}{H:Hp}{s:Shared}
end
end L2
set_option Elab.async false
set_option linter.all false
set_option maxRecDepth 100000
namespace L2
open PySem PyProof.Rows
open AutoSeq1 (wpAny_loadPart')
theorem znd(l:Addr)(items:Array Value)(n:Nat)(dct:Option Addr)(sl:Array (Option Value)) :
  Meets (Builtin.«enumerate.__new__» ⟨[.type "enumerate",.ref l],[]⟩) (fun _ R s=>s.heap.get? l=some {cls:=.type "tuple",dict:=dct,data:=.seq items n,slots:=sl}/\
   R (.ok (.ret (.ref (s.heap.push {cls:=.type "tuple_iterator",data:=.fields #[.ref l,.int 0 0]}).objs.size)))
    {s with heap:=(s.heap.push {cls:=.type "tuple_iterator",data:=.fields #[.ref l,.int 0 0]}).push {cls:=.type "enumerate",data:=.fields #[.none,.bool false,.ref s.heap.objs.size,rawInt 0,.none,.none]}}):=
 .of_wp fun prog w A R s h=>by
  obtain⟨hp,g,d,tk,os⟩:=s; obtain⟨hl,h⟩:=h
  have hsub:=sub_enumerate
  have hL:Heap.IsTuple (Shared.heap ⟨hp,g,d,tk,os⟩) l items:=⟨_,hl,rfl,n,rfl⟩
  wp_walk using wpAny_loadPart' hl
  refine wpAny_stack_any fun st=>wpAny_pure ?_
  split
  ·rename_i c _ _ _ _ _
   cases (c == Value.type "enumerate")
   ·wp_walk using wpAny_loadPart' hl,wpAny_pyIter_tuple hL
    exact⟨_,rfl,h⟩
   ·wp_walk using wpAny_loadPart' hl,wpAny_pyIter_tuple hL
    exact⟨_,rfl,h⟩
  ·wp_walk using wpAny_loadPart' hl,wpAny_pyIter_tuple hL
   exact⟨_,rfl,h⟩
section
variable{prog:Program}{w:World}{A:Around}{E:Value->Shared->Prop}{s:Shared}
theorem zt7{l:Addr}{items:Array Value}{Q:Value->Shared->Prop}(hL:s.heap.IsTuple l items)
  (h:∀h',IsEnum h' (s.heap.objs.size+1) s.heap.objs.size 0 .none->h'.IsTupleIter s.heap.objs.size l 0->h'.objs.size=s.heap.objs.size+2->
   (∀b o,s.heap.get? b=some o->h'.get? b=some o)->Q (.ref (s.heap.objs.size+1)) {s with heap:=h'}) :
  wpAny (model prog w) A (call (.type "enumerate") [.ref l]) Q E s:=by
 obtain⟨⟨c,dct,dt,sl⟩,hl,hc,n,hd⟩:=hL
 replace hc:c=.type "tuple":=hc
 replace hd:dt=.seq items n:=hd
 subst hc hd
 refine callType_new F.called_enumerate (by decide) (F.typeCall_enumerate_1 _) (F.newCall_enumerate_1 _) (fun obj=>F.args_object_init_2 obj _) F.entry_enumerate_new
  (znd l items n dct sl) ⟨hl,?_⟩
 have hz:(s.heap.push {cls:=.type "tuple_iterator",data:=.fields #[.ref l,.int 0 0]}).objs.size=s.heap.objs.size+1:=Heap.size_push ..
 show _/\_
 rw [hz]
 have he:IsEnum ((s.heap.push {cls:=.type "tuple_iterator",data:=.fields #[.ref l,.int 0 0]}).push
   {cls:=.type "enumerate",data:=.fields #[.none,.bool false,.ref s.heap.objs.size,rawInt 0,.none,.none]}) (s.heap.objs.size+1) s.heap.objs.size 0 .none:=by
  have:=Heap.get?_push_size (s.heap.push {cls:=.type "tuple_iterator",data:=.fields #[.ref l,.int 0 0]})
   (o:={cls:=.type "enumerate",data:=.fields #[.none,.bool false,.ref s.heap.objs.size,rawInt 0,.none,.none]}) rfl
  rw [hz] at this; exact this
 refine⟨⟨_,he,rfl⟩,h _ he ⟨_,Heap.get?_push_of_some _ (Heap.get?_push_size _ rfl),rfl,rfl⟩ (by rw [Heap.size_push,hz]) fun b o x=>Heap.get?_push_of_some _ (Heap.get?_push_of_some _ x)⟩
theorem zvl{e it l:Addr}{i:Nat}{items:Array Value}{old:Value}{Q:Option Value->Shared->Prop}(hh:A.handled=none)(he:IsEnum s.heap e it i old)(hit:s.heap.IsTupleIter it l i)(hl:s.heap.IsTuple l items)(hx:items[i]?=none)
  (hQ:∀h',Heap.ExtBut it s.heap h'->Q none {s with heap:=h'}):wpAny (model prog w) A (pyNext (.ref e)) Q E s:=by
 have hT:s.TypeIs (.ref e) "enumerate":=⟨_,he,rfl⟩
 unfold pyNext
 refine wpAny_bind (wpAny_attempt (wpAny_callSpecial?_slot (name:=Str.ofString "__next__") hT F.slot_enumerate_next
  (wpAny_call_entry F.slot_enumerate_next hT F.entry_enumerate_next ?_ (F.args_enumerate_next_1 _))))
 show wpAny _ _ (field (.ref e) 2 >>= _) _ _ _
 refine wpAny_bind (wpAny_field he rfl (x:=.ref it) rfl ?_)
 refine wpAny_bind (zct hh hit hl hx fun h' x he' hx'=>?_)
 obtain⟨o,ho,hc⟩:=hx'
 refine wpAny_bind (wpAny_isInstance (T:="StopIteration") (b:=true) ⟨o,ho,hc⟩ isSubtype_stop ?_)
 exact wpAny_pure (hQ _ he')
end
theorem q34{prog:Program}{w:World}{A:Around}(hh:A.handled=none)(it l:Addr)(hne:l≠it)(items:Array Value) :
  Draws prog w A it [it,l] items.size (fun i v=>items[i]?=some v) (fun i h=>h.IsTupleIter it l i/\h.IsTuple l items) where
 live:=fun _ _ st=>let ⟨o,ho,_⟩:=st.1; ⟨o,ho⟩
 frame:=fun _ _ _ st hk=>⟨st.1.at fun o e=>hk it (by simp) o e,let ⟨o,ho,r⟩:=st.2; ⟨o,hk l (by simp) o ho,r⟩⟩
 item:=fun i s Q E hi st hQ=>by
  refine zqt st.1 st.2 (x:=items[i]) (by simp[hi]) fun h' hit' hs'=>?_
  exact hQ _ h' s.toks (by simp[hi]) ⟨hit',st.2.extBut hs'.extBut hne⟩ hs'
 done:=fun s Q E st hE=>zct hh st.1 st.2 (by simp) hE
def zz0(K:PySem.W.Frag)(a:Addr):It:=
 ⟨fun i H=>∃xs x,SqT K H a xs/\xs[i]?=some x,fun i H x H'=>∃T v,x=.ref T/\H T=none/\H'=upd H T (.tup [.int i,v])/\∀xs,SqT K H a xs->xs[i]?=some v,fun i H=>∃xs,SqT K H a xs/\xs.length<=i⟩
theorem zrr{P:Program}{w:World}{K:PySem.W.Frag}{elts:List Expr}{kt:Nat}{pt:Pos}(a e it:Addr)(hne:e≠it)(hea:e≠a)(hai:a≠it):Turn P w K (.Tuple elts kt pt) (zz0 K a) [e,it] e (fun i h=>(∃old,IsEnum h e it i old)/\h.IsTupleIter it a i) where
 mem:=by simp
 obj:=fun i h st b hb=>by
  obtain⟨⟨old,he⟩,hi⟩:=st
  rcases List.mem_cons.mp hb with rfl | hb
  ·exact⟨_,he,fun v z=>by cases z⟩
  ·obtain rfl:=List.mem_singleton.mp hb
   obtain⟨o,e',c,d⟩:=hi
   exact⟨o,e',fun v z=>by rw [d] at z; cases z⟩
 keep:=fun i h h' st k=>by
  obtain⟨⟨old,he⟩,hi⟩:=st
  exact⟨⟨old,k e (by simp) _ he⟩,hi.at fun o q=>k it (by simp) o q⟩
 item:=by
  intro X hP hw hK hc i pins s σ H E I hf st hg
  subst hP hw hK
  obtain⟨⟨old,he⟩,hit⟩:=st
  obtain⟨xs,x,hq,hx⟩:=hg
  obtain⟨its,rv,p,hz⟩:=I.tuple hq
  obtain⟨u,hu,ru⟩:=rv.get hx
  have hui:its.toArray[i]?=some u:=by simpa using hu
  have hlt:i < its.toArray.size:=by
   rcases Nat.lt_or_ge i its.toArray.size with c | c
   ·exact c
   ·rw [Array.getElem?_eq_none c] at hui; cases hui
  refine wpAny_pyNext_enum_itemD (q34 (A:=X.A.in1) (show X.A.in1.handled=none from I.ok.hd hc) it a hai its.toArray) he ⟨hit,p⟩ hlt hne (by simp[hne,hea]) fun y h1 tk hy ho hst1 hT hsz hk=>?_
  have hy':its.toArray[i]?=some y:=hy
  obtain rfl:u=y:=by rw [hui] at hy'; exact Option.some.inj hy'
  have hit1:=hst1.1
  refine⟨_,rfl,wpAny_letOwnedTupleGo_enum ho fun h2 he2 hs2=>?_⟩
  have helt:e < s.heap.objs.size:=Heap.lt_size he
  have hs2':Heap.SameBut e h1 h2:=hs2
  have kk:∀b o,b∉[e,it]->s.heap.get? b=some o->h2.get? b=some o:=fun b o hb q=>hs2'.extBut b o (fun z=>hb (by simp[z])) (hk b o (fun z=>hb (by simp[z])) (fun z=>hb (by simp[z])) q)
  have I1:Inv X pins σ H {s with heap:=h2,toks:=tk+1}:=I.turnedL kk hf
  have hTn:H s.heap.objs.size=none:=I.hok.fresh (Nat.le_refl _)
  have hT2:h2.get? s.heap.objs.size=some {cls:=.type "tuple",data:=.seq #[.int i tk,u]}:=hs2'.extBut _ _ (Nat.ne_of_gt helt) hT
  have I2:Inv X pins σ (upd H s.heap.objs.size (.tup [.int i,x])) {s with heap:=h2,toks:=tk+1}:=
   I1.track hTn (I.fpOk (Nat.le_refl _) hTn) (show ObjOk X.prog X.w _ h2 _ (.tup [.int i,x]) from⟨zth,[.int i tk,u],.cons ⟨_,rfl⟩ (.cons ru .nil),⟨_,hT2,rfl,_,rfl⟩⟩)
  refine⟨.ref s.heap.objs.size,_,I2,rfl,⟨s.heap.objs.size,x,rfl,hTn,rfl,fun ys hy=>by rw [I.tuple_inj hy hq]; exact hx⟩,⟨⟨u,by simpa using he2⟩,hit1.at fun o q=>(hs2'.2 it hne.symm).trans q⟩,fun b hb=>?_⟩
  have hbl:b < s.heap.objs.size:=by
   rcases List.mem_cons.mp hb with rfl | hb
   ·exact helt
   ·obtain rfl:=List.mem_singleton.mp hb
    obtain⟨o,e',_⟩:=hit
    exact Heap.lt_size e'
  rw [z0a (Nat.ne_of_lt hbl)]
  exact(hf b hb).1
 done:=by
  intro X hP hw hK hc i pins s σ H E I hf st hg
  subst hP hw hK
  obtain⟨⟨old,he⟩,hit⟩:=st
  obtain⟨xs,hq,hx⟩:=hg
  obtain⟨its,rv,p,hz⟩:=I.tuple hq
  have hl:=rv.length
  exact zvl (I.ok.hd hc) he hit p (by simp; omega) fun h' eb=>⟨rfl,I.turnedL (t':=s.toks) (fun b o hb q=>eb b o (fun z=>hb (by simp[z])) q) hf⟩
 self:=fun _ _ _ _ _ st h=>by
  obtain⟨⟨old,he⟩,_⟩:=st
  exact wpAny_pyIter_enum he h
section
variable{X:Cx}
def zv8(K:PySem.W.Frag)(ta:TA):TI:=fun σ H R=>ta σ H fun vs H1=>∃a,vs=[.ref a]/\(∃xs,SqT K H1 a xs)/\R (zz0 K a) H1
theorem zkx{elts:List Expr}{kt:Nat}{pt p pos:Pos}{l:Expr}{ta:TA} (hg:Gl X "enumerate") (hm:X.mg "enumerate" = none) (ha:PA X [l] ta) (hst:zij l=false:=by rfl):PI X (.Tuple elts kt pt) (.Call (.Name "enumerate" p) [l] [] pos) (zv8 X.K ta):=by
 intro pins s σ H R I h
 refine Call_ (zig I hg hm boot_enumerate (PyProof.Rows.callWith_type1 (thn (ha pos pins s σ H _ I h) fun us s1 ⟨vs,H1,I1,r1,q1⟩=>?_) (z0r hst) rfl))
 obtain⟨a,e,⟨xs,hq⟩,q⟩:=q1
 subst e
 cases r1 with
 | cons r rr=>
  cases rr
  cases r
  obtain⟨its,rv,pl,hz⟩:=I1.tuple hq
  have hal:a < s1.heap.objs.size:=by
   obtain⟨o,e,_⟩:=pl
   exact Heap.lt_size e
  refine zt7 pl fun h' he hi hsz hk=>?_
  have I2:Inv X pins σ H1 {s1 with heap:=h'}:=I1.kept (t':=s1.toks) hk
  refine wpAny_pyIter_enum he ?_
  refine⟨s1.heap.objs.size+1,[s1.heap.objs.size+1,s1.heap.objs.size],_,_,H1,rfl,I2,zrr a _ _ (Nat.succ_ne_self _) (Nat.ne_of_gt (Nat.lt_succ_of_lt hal)) (Nat.ne_of_lt hal),⟨⟨_,he⟩,hi⟩,fun b hb=>?_,q⟩
  have hle:s1.heap.objs.size<=b:=by
   rcases List.mem_cons.mp hb with rfl | hb
   ·exact Nat.le_succ _
   ·obtain rfl:=List.mem_singleton.mp hb
    exact Nat.le_refl _
  exact I1.fpOk hle (I1.hok.fresh hle)
end
theorem zna{K:PySem.W.Frag}{a:Addr}{xs:List V}{g:TG}{tb:TS}{D:Ends}{σ : St}{H:Hp}(Pv:Nat->St->Hp->Prop)(h0:Pv 0 σ H)(hl:∀i σ H,i<=xs.length->Pv i σ H->SqT K H a xs)
  (hs:∀i x σ H T,xs[i]?=some x->Pv i σ H->H T=none->g (.ref T) σ (upd H T (.tup [.int i,x])) fun σ2 H2=>tb {D with nx:=Pv (i+1),ct:=Pv (i+1),bk:=D.nx} σ2 H2) (hd:∀ σ H,Pv xs.length σ H->D.nx σ H) :
  ∃W:Nat->Nat->St->Hp->Prop,(∃m,W 0 m σ H)/\∀i m σ H,W i m σ H->
   ((zz0 K a).stop i H/\D.nx σ H)\/((zz0 K a).go i H/\∃N:St->Hp->Prop,(∀ σ' H',N σ' H'->∃m',m' < m/\W (i+1) m' σ' H')/\∀x H',(zz0 K a).yld i H x H'->g x σ H' fun σ2 H2=>tb {D with nx:=N,ct:=N,bk:=D.nx} σ2 H2):=by
 refine⟨fun i m σ H=>m=xs.length - i/\i<=xs.length/\Pv i σ H,⟨xs.length,by simp,Nat.zero_le _,h0⟩,?_⟩
 rintro i m σ H ⟨rfl,hi,p⟩
 have q:=hl i σ H hi p
 by_cases hlt:i < xs.length
 ·refine .inr ⟨⟨xs,xs[i],q,by simp[hlt]⟩,Pv (i+1),fun σ' H' p'=>⟨xs.length - (i+1),by omega,rfl,hlt,p'⟩,fun x H' y=>?_⟩
  obtain⟨T,v,rfl,hT,rfl,y⟩:=y
  exact hs i v σ H T (y xs q) p hT
 ·have e:i=xs.length:=by omega
  subst e
  exact .inl ⟨⟨xs,q,Nat.le_refl _⟩,hd σ H p⟩
end L2
set_option Elab.async false
set_option linter.all false
set_option maxRecDepth 100000
namespace L2
open PySem PySem.Spec PyProof.Rows
section
variable{prog:Program}{w:World}{A:Around}{E:Value->Shared->Prop}{s:Shared}{S:Addr}
end
def zs0(P:Program)(w:World)(p:Addr)(ks:List Str):HO:=.ext (SetX (PySem.strKind P w) strOf p (!q3j w) ks)
section
variable{X:Cx}
end
end L2
set_option Elab.async false
set_option linter.all false
set_option maxRecDepth 100000
namespace L2
open PySem PySem.Spec PyProof.Rows PySem.W
def zte(r:Nat->Nat)(n:Nat):Nat->Nat->(Bool->Shared->Prop)->Shared->Prop:=fun i j C s=>i < n/\j < n/\C (decide (r i < r j)) s
theorem zwf{α : Type}{r:Nat->Nat}{n:Nat}{cmp:Nat->Nat->(Bool->Shared->Prop)->Shared->Prop}{s:Shared}{Q : α->Shared->Prop}(hc:∀i j C,i < n->j < n->C (decide (r i < r j)) s->cmp i j C s) :
  ∀(t:KasT α),t.kasWp (zte r n) (fun a s'=>Q a s) s->t.kasWp cmp Q s
 | .ret a,h=>h
 | .ask i j k,⟨h1,h2,h⟩=>hc i j _ h1 h2 (zwf hc (k _) h)
section
variable{r:Nat->Nat}{n:Nat}{s:Shared}
theorem zj4{α : Type}{i j:Nat}{T1 T2:KasT α}{Q : α->Shared->Prop}(hi:i < n)(hj:j < n)(h1:r i < r j->T1.kasWp (zte r n) Q s)(h2:¬ r i < r j->T2.kasWp (zte r n) Q s):(KasT.ask i j fun c=>if c=true then T1 else T2).kasWp (zte r n) Q s:=by
 refine⟨hi,hj,?_⟩
 by_cases c:r i < r j
 ·have:=h1 c
  simpa [c] using this
 ·have:=h2 c
  simpa [c] using this
def rk(r:Nat->Nat)(p:Array Nat)(i:Nat):Nat:=r (p.getD i 0)
def Asc(r:Nat->Nat)(p:Array Nat)(m:Nat):Prop:=∀i j,i < j->j < m->rk r p i < rk r p j
def Dsc(r:Nat->Nat)(p:Array Nat)(m:Nat):Prop:=∀i j,i < j->j < m->rk r p j < rk r p i
structure PermN(r:Nat->Nat)(n:Nat)(p:Array Nat):Prop where
 sz:p.size=n
 lt:∀i,i < n->p.getD i 0 < n
 inj:∀i j,i < n->j < n->rk r p i=rk r p j->i=j
 pm:p.toList.Perm (List.range n)
theorem PermN.of(hr:∀i j,i < n->j < n->r i=r j->i=j){p:Array Nat}(h:p.toList.Perm (List.range n)):PermN r n p:=by
 have sz:p.size=n:=by simpa using h.length_eq
 have lt:∀i,i < n->p.getD i 0 < n:=fun i hi=>by
  have hi':i < p.size:=by omega
  have:p.getD i 0∈p.toList:=by simp[Array.getD,hi']
  simpa using h.mem_iff.mp this
 refine⟨sz,lt,fun i j hi hj e=>?_,h⟩
 have e':=hr _ _ (lt i hi) (lt j hj) e
 have nd:p.toList.Nodup:=h.nodup_iff.mpr List.nodup_range
 have hi':i < p.size:=by omega
 have hj':j < p.size:=by omega
 have:p.toList[i]'(by simpa using hi')=p.toList[j]'(by simpa using hj'):=by simpa [Array.getD,hi',hj'] using e'
 exact(List.getElem_inj nd).mp this
theorem zlj{p q:Array Nat}{i j:Nat}(h:p[i]?=q[j]?):p.getD i 0=q.getD j 0:=by
 have e1:p.getD i 0=(p[i]?).getD 0:=by simp
 have e2:q.getD j 0=(q[j]?).getD 0:=by simp
 rw [e1,e2,h]
theorem q4j{p:Array Nat}(P:PermN r n p){Q:Nat->Shared->Prop}:∀(f m:Nat),1<=m->m+f<=n->Asc r p m->(∀k,m<=k->k<=m+f->Asc r p k->(k < m+f->rk r p k < rk r p (k - 1))->Q k s)->(kas_asc p f m).kasWp (zte r n) Q s
 | 0,m,h1,h2,h,q=>q m (Nat.le_refl _) (Nat.le_refl _) h (fun z=>absurd z (by omega))
 | f+1,m,h1,h2,h,q=>by
  refine zj4 (P.lt _ (by omega)) (P.lt _ (by omega)) (fun c=>?_) (fun(c:¬ rk r p m < rk r p (m - 1))=>?_)
  ·exact q m (Nat.le_refl _) (by omega) h (fun _=>c)
  ·refine q4j P f (m+1) (by omega) (by omega) (fun i j hij hj=>?_) fun k k1 k2 k3 k4=>q k (by omega) (by omega) k3 (fun z=>k4 (by omega))
   have last:rk r p (m - 1) < rk r p m:=by
    have:rk r p (m - 1)≠rk r p m:=fun e=>by have:=P.inj _ _ (by omega) (by omega) e; omega
    omega
   by_cases e:j=m
   ·subst e
    by_cases e2:i=j - 1
    ·rw [e2]; exact last
    ·exact Nat.lt_trans (h i (j - 1) (by omega) (by omega)) last
   ·exact h i j hij (by omega)
theorem q36{p:Array Nat}(P:PermN r n p){Q:Array Nat×Nat×Nat->Shared->Prop}:∀(f m:Nat),1<=m->m+f<=n->Dsc r p m->(∀k,m<=k->k<=m+f->Dsc r p k->Q (p,k,0) s)->(kas_desc f p m 0).kasWp (zte r n) Q s
 | 0,m,h1,h2,h,q=>q m (Nat.le_refl _) (Nat.le_refl _) h
 | f+1,m,h1,h2,h,q=>by
  refine zj4 (P.lt _ (by omega)) (P.lt _ (by omega)) (fun c=>?_) (fun(c:¬ rk r p m < rk r p (m - 1))=>?_)
  ·rw [if_neg (by omega)]
   refine q36 P f (m+1) (by omega) (by omega) (fun i j hij hj=>?_) fun k k1 k2 k3=>q k (by omega) (by omega) k3
   by_cases e:j=m
   ·subst e
    by_cases e2:i=j - 1
    ·rw [e2]; exact c
    ·exact Nat.lt_trans c (h i (j - 1) (by omega) (by omega))
   ·exact h i j hij (by omega)
  ·have last:rk r p (m - 1) < rk r p m:=by
    have:rk r p (m - 1)≠rk r p m:=fun e=>by have:=P.inj _ _ (by omega) (by omega) e; omega
    omega
   refine zj4 (P.lt _ (by omega)) (P.lt _ (by omega)) (fun c=>?_) (fun c=>absurd last c)
   exact q m (Nat.le_refl _) (by omega) h
theorem zwv(hr:∀i j,i < n->j < n->r i=r j->i=j){p:Array Nat}(P:PermN r n p)(i j:Nat):PermN r n (kas_rev p i j):=
 .of hr ((Array.perm_iff_toList_perm.mp (mirror_perm _ _ _ _)).trans P.pm)
theorem zyh{p:Array Nat}{m:Nat}(hm:m<=p.size)(k:Nat)(hk:k < m):rk r (kas_rev p 0 m) k=rk r p (m - 1 - k):=by
 have e:=getElem?_mirror_all (xs:=p) (i:=0) hm k
 rw [if_pos (by omega)] at e
 show r _=r _
 rw [show kas_rev p 0 m=mirror p 0 m ((m - 0) / 2) from rfl,zlj e]
 congr 2
 omega
theorem q1t(hr:∀i j,i < n->j < n->r i=r j->i=j){p:Array Nat}(P:PermN r n p){m:Nat}{Q:Nat×Array Nat->Shared->Prop}(h1:1<=m)(h2:m<=n)(h:Dsc r p m)
  (q:∀k p',PermN r n p'->1<=k->k<=n->Asc r p' k->Q (k,p') s):(kas_tail3 m n p).kasWp (zte r n) Q s:=by
 unfold kas_tail3
 rw [KasT.kasWp_bind]
 have P':=zwv hr P 0 m
 refine q4j P' (n - m) m h1 (by omega) (fun i j hij hj=>?_) fun k k1 k2 k3 _=>q k _ P' (by omega) (by omega) k3
 rw [zyh (by rw [P.sz]; exact h2) _ (by omega),zyh (by rw [P.sz]; exact h2) _ hj]
 exact h _ _ (by omega) (by omega)
theorem zvn(hr:∀i j,i < n->j < n->r i=r j->i=j){p:Array Nat}(P:PermN r n p){m:Nat}{Q:Nat×Array Nat->Shared->Prop}(h2:m+1<=n)(h:Dsc r p (m+1))
  (q:∀k p',PermN r n p'->1<=k->k<=n->Asc r p' k->Q (k,p') s):(kas_descPart m n p).kasWp (zte r n) Q s:=by
 unfold kas_descPart
 rw [KasT.kasWp_bind]
 refine q36 P (n - (m+1)) (m+1) (by omega) (by omega) h fun k k1 k2 k3=>?_
 rw [if_neg (show ¬ (p,k,0).2.2 > 0 from Nat.lt_irrefl 0)]
 have a1:1<=k:=by omega
 have a2:k<=n:=by omega
 exact q1t hr P a1 a2 k3 q
theorem q3f(hr:∀i j,i < n->j < n->r i=r j->i=j){p:Array Nat}(P:PermN r n p){Q:Nat×Array Nat->Shared->Prop}(h1:1<=n)
  (q:∀k p',PermN r n p'->1<=k->k<=n->Asc r p' k->Q (k,p') s):(kas_count n p).kasWp (zte r n) Q s:=by
 unfold kas_count
 rw [KasT.kasWp_bind]
 refine q4j P (n - 1) 1 (Nat.le_refl _) (by omega) (fun i j hij hj=>by omega) fun m m1 m2 m3 m4=>?_
 by_cases e:m=n
 ·rw [if_pos (by simpa using e)]
  exact q m p P m1 (by omega) m3
 ·rw [if_neg (by simpa using e)]
  by_cases e2:m > 1
  ·rw [if_pos e2]
   refine zj4 (P.lt _ (by omega)) (P.lt _ (by omega)) (fun c=>?_) (fun c=>absurd (m3 0 (m - 1) (by omega) (by omega)) c)
   exact q m p P m1 (by omega) m3
  ·rw [if_neg e2]
   obtain rfl:m=1:=by omega
   refine zvn hr P (by omega) (fun i j hij hj=>?_) q
   obtain rfl:i=0:=by omega
   obtain rfl:j=1:=by omega
   exact m4 (by omega)
theorem zu5{p:Array Nat}(P:PermN r n p){k:Nat}(hk:k < n)(hs:Asc r p k){Q:Nat->Shared->Prop}:∀(f l u:Nat),l<=u->u<=k->u - l<=f->(∀i,i < l->rk r p i < rk r p k)->(∀i,u<=i->i < k->rk r p k < rk r p i)->
  (∀m,m<=k->(∀i,i < m->rk r p i < rk r p k)->(∀i,m<=i->i < k->rk r p k < rk r p i)->Q m s)->(kas_place p k f l u).kasWp (zte r n) Q s
 | 0,l,u,h1,h2,h3,lo,hi,q=>by
  obtain rfl:l=u:=by omega
  exact q l h2 lo hi
 | f+1,l,u,h1,h2,h3,lo,hi,q=>by
  unfold kas_place
  by_cases e:l ≥ u
  ·rw [if_pos e]
   obtain rfl:l=u:=by omega
   exact q l h2 lo hi
  ·rw [if_neg e]
   refine zj4 (P.lt _ hk) (P.lt _ (by omega)) (fun c=>?_) (fun(c:¬ rk r p k < rk r p ((l+u) / 2))=>?_)
   ·refine zu5 P hk hs f l ((l+u) / 2) (by omega) (by omega) (by omega) lo (fun i h1 h2=>?_) q
    by_cases e2:i=(l+u) / 2
    ·rw [e2]; exact c
    ·exact Nat.lt_trans c (hs _ _ (by omega) h2)
   ·have c':rk r p ((l+u) / 2) < rk r p k:=by
     have:rk r p ((l+u) / 2)≠rk r p k:=fun e=>by have:=P.inj _ _ (by omega) hk e; omega
     omega
    refine zu5 P hk hs f ((l+u) / 2+1) u (by omega) h2 (by omega) (fun i h1=>?_) hi q
    by_cases e2:i=(l+u) / 2
    ·rw [e2]; exact c'
    ·exact Nat.lt_trans (hs _ _ (show i < (l+u) / 2 by omega) (by omega)) c'
theorem q51(hr:∀i j,i < n->j < n->r i=r j->i=j){Q:Array Nat->Shared->Prop}:∀(f:Nat) (p:Array Nat) (k:Nat),PermN r n p->k+f=n->Asc r p k->(∀p',PermN r n p'->Asc r p' n->Q p' s)->(kas_bin f p k).kasWp (zte r n) Q s
 | 0,p,k,P,e,h,q=>by
  obtain rfl:k=n:=e
  exact q p P h
 | f+1,p,k,P,e,h,q=>by
  rw [show kas_bin (f+1) p k=(kas_place p k k 0 k).bind fun l=>kas_bin f (bubble p k (k - l)) (k+1) from rfl,KasT.kasWp_bind]
  have hk:k < n:=by omega
  refine zu5 P hk h k 0 k (Nat.zero_le _) (Nat.le_refl _) (by omega) (fun i z=>absurd z (by omega)) (fun i z z'=>absurd z' (by omega)) fun m m1 m2 m3=>?_
  refine q51 hr f _ (k+1) (.of hr ((Array.perm_iff_toList_perm.mp (bubble_perm _ _ _)).trans P.pm)) (by omega) (fun i j hij hj=>?_) q
  have at_:∀x,rk r (bubble p k (k - m)) x=if x=m then rk r p k else if m < x/\x<=k then rk r p (x - 1) else rk r p x:=fun x=>by
   have z:=getElem?_bubble (xs:=p) (src:=k) (by rw [P.sz]; exact hk) (k - m) (by omega) x
   rw [show k - (k - m)=m by omega] at z
   show r _=_
   by_cases e1:x=m
   ·rw [if_pos e1] at z |-
    rw [zlj z,rk]
   ·rw [if_neg e1] at z |-
    by_cases e2:m < x/\x<=k
    ·rw [if_pos e2] at z |-
     rw [zlj z,rk]
    ·rw [if_neg e2] at z |-
     rw [zlj z,rk]
  rw [at_,at_]
  repeat' split
  all_goals first
   | (exfalso; omega)
   | exact m2 _ (by omega)
   | exact m3 _ (by omega) (by omega)
   | exact h _ _ (by omega) (by omega)
theorem q47(hr:∀i j,i < n->j < n->r i=r j->i=j)(h1:1<=n){Q:Array Nat->Shared->Prop}(q:∀p,PermN r n p->Asc r p n->Q p s):(kas_sort n).kasWp (zte r n) Q s:=by
 unfold kas_sort
 rw [KasT.kasWp_bind]
 refine q3f hr (.of hr (by simp)) h1 fun k p P k1 k2 k3=>?_
 dsimp only
 by_cases e:k < n
 ·rw [if_pos e,show max k 1=k by omega]
  exact q51 hr _ p k P (by omega) k3 q
 ·rw [if_neg e]
  obtain rfl:k=n:=by omega
  exact q p P k3
end
end L2
set_option Elab.async false
set_option linter.all false
set_option maxRecDepth 100000
namespace L2
open PySem PySem.Spec PyProof.Rows PySem.W
structure TabOk(t:SetTable):Prop where
 dm:t.dummies = #[]
 mz:t.mask=7/\t.place.size<=4\/t.mask=31/\t.place.size<=18\/t.mask=127/\t.place.size<=60
 rs:Ris t.place
theorem TabOk.slot{t:SetTable}(T:TabOk t)(j:Nat):t.slot j=if t.place[SetTable.below t.place j]?=some j then .live (SetTable.below t.place j) else .empty:=by
 unfold SetTable.slot
 have:SetTable.has t.dummies j=false:=by rw [T.dm]; rfl
 rw [this]
 simp
end L2
set_option Elab.async false
set_option linter.all false
set_option maxRecDepth 100000
namespace L2
open PySem PySem.Spec PyProof.Rows PySem.W
section
variable{prog:Program}{w:World}{A:Around}{E:Value->Shared->Prop}{s:Shared}{a:Addr}{L:Bool}
theorem zkn{n:Nat}(h:n<=1000):n<=sizeLine:=by rw [sizeLine_eq]; omega
theorem zid{vs:List Value}{a:Addr}{n:Nat}{r:Nat->Nat}{P:PySem.Fin->Shared->Prop} (ho:s.heap.get? a=some (seqObj "list" vs.toArray n)) (h64:vs.length < 64) (hr:∀i j,i < vs.length->j < vs.length->r i=r j->i=j)
  (hR:2<=vs.length->∀h':Heap,(∀b o,b≠a->s.heap.get? b=some o->h'.get? b=some o)->∃k,(∀(E:Value->Shared->Prop) (Q:SortKind->Shared->Prop),Q k {s with heap:=h'}->wpAny (model prog w) A (keyKind' vs.toArray) Q E {s with heap:=h'})/\
   ∀i j,i < vs.length->j < vs.length->∀(E:Value->Shared->Prop) (Q:Bool->Shared->Prop),Q (decide (r i < r j)) {s with heap:=h'}->wpAny (model prog w) A (keyLt' k (vs.getD i .none) (vs.getD j .none)) Q E {s with heap:=h'})
  (h:∀p,PermN r vs.length p->Asc r p vs.length->P (.done (.ret .none)) {s with heap:=sortedHeap s.heap a vs (p.toList.map fun i=>vs.getD i .none).toArray}) :
  wpAny (model prog w) A (Builtin.«list.sort» ⟨[.ref a],[]⟩) P E s:=by
 rw [list_sort_plain]
 have hz:vs.length<=sizeLine:=zkn (by omega)
 have ha:a < s.heap.objs.size:=Heap.lt_size ho
 refine wpAny_bind (listItems_at ho rfl ?_)
 refine wpAny_bind (listUpdate_at ho rfl ?_ (by simpa using hz) (Nat.zero_le _))
 obtain⟨e1,ho1⟩:∃e1,(s.heap.update a (Obj.mapSeq fun _=>#[])).get? a=some (seqObj "list" #[] e1):=⟨_,get?_update_seq ho (fun _=>#[])⟩
 refine wpAny_bind (seqEpoch_at ho1 rfl ?_)
 refine wpAny_bind (wpAny_newTuple ?_ (by simpa using hz))
 refine wpAny_bind (wpAny_newList ?_ (Nat.zero_le _))
 refine wpAny_holding ?_
 have ho6:(((s.heap.update a (Obj.mapSeq fun _=>#[])).push (seqObj "tuple" vs.toArray 0)).push (seqObj "list" #[] 0)).get? a=some (seqObj "list" #[] e1):=by
  rw [Heap.get?_push_ne _ _ _ (by rw [size_push',Heap.size_update]; exact Nat.ne_of_lt (Nat.lt_succ_of_lt ha)),Heap.get?_push_ne _ _ _ (by rw [Heap.size_update]; exact Nat.ne_of_lt ha)]
  exact ho1
 have hkeep:∀b o,b≠a->s.heap.get? b=some o->(((s.heap.update a (Obj.mapSeq fun _=>#[])).push (seqObj "tuple" vs.toArray 0)).push (seqObj "list" #[] 0)).get? b=some o:=fun b o hb e=>by
  refine Heap.get?_push_of_some _ (Heap.get?_push_of_some _ ?_)
  rw [Heap.get?_update_ne _ _ _ _ hb]
  exact e
 show wpAny (model prog w) A _ P E {s with heap:=((s.heap.update a (Obj.mapSeq fun _=>#[])).push (seqObj "tuple" vs.toArray 0)).push (seqObj "list" #[] 0)}
 dsimp only
 have hsz:vs.toArray.size=vs.length:=by simp
 by_cases h2:vs.toArray.size < 2
 ·rw [if_pos h2,if_pos h2]
  refine wpAny_bind (wpAny_pure ?_)
  rw [StateT.run_pure]
  refine wpAny_bind (wpAny_pure ?_)
  dsimp only
  refine wpAny_bind (seqEpoch_at ho6 rfl ?_)
  refine wpAny_bind (listUpdate_at ho6 rfl ?_ (Nat.zero_le _) (by rw [Array.size_map]; show(pairsOf vs).size<=_; rw [pairsOf_size]; exact Nat.le_succ_of_le hz))
  simp only[bne_self_eq_false,Bool.false_eq_true,if_false]
  have e:(arrOf (SortSt.mk' general' (vs.toArray.zip vs.toArray) #[] 7 none)).map (·.2)=vs.toArray:=by
   show(vs.toArray.zip vs.toArray).map (·.2)=_
   apply Array.toList_inj.mp
   simp[List.map_snd_zip]
  rw [e]
  have z:=h (List.toArray (List.range vs.length)) (.of hr (by simp)) (fun i j hij hj=>by rw [hsz] at h2; omega)
  have ev:((List.toArray (List.range vs.length)).toList.map fun i=>vs.getD i Value.none)=vs:=by
   refine List.ext_getElem (by simp) fun i h1 h2=>?_
   simp[h2]
  rw [ev] at z
  exact wpAny_pure z
 ·rw [if_neg h2,if_neg h2]
  rw [hsz] at h2
  obtain⟨kk,hK,hRi⟩:=hR (by omega) _ hkeep
  refine wpAny_bind (hK _ _ ?_)
  refine wpAny_bind (wpAny_mono (kat_run (κ:=kk) (Q:=fun st' s'=>∃p:Array Nat,PermN r vs.length p/\Asc r p vs.length/\arrOf st'=p.map (kas_item (vs.toArray.zip vs.toArray))/\failedOf st'=none/\s' = {s with heap:=((s.heap.update a (Obj.mapSeq fun _=>#[])).push (seqObj "tuple" vs.toArray 0)).push (seqObj "list" #[] 0)})
   (G:=fun p s'=>PermN r vs.length p/\Asc r p vs.length/\s' = {s with heap:=((s.heap.update a (Obj.mapSeq fun _=>#[])).push (seqObj "tuple" vs.toArray 0)).push (seqObj "list" #[] 0)})
   rfl (by omega) h64 (fun p' st' s' a1 a2 a3 ⟨a4,a5,a6⟩=>⟨p',a4,a5,a2,a3,a6⟩) (zwf (r:=r) (fun i j C hi hj hc=>hRi i j hi hj _ _ hc) _ (q47 hr (by omega) fun p P1 P2=>⟨P1,P2,rfl⟩))) ?_ fun _ _ e=>e)
  rintro⟨⟨⟩,st'⟩ s' ⟨p,P1,P2,har,hf,rfl⟩
  dsimp only at har hf |-
  have e:=kat_snds (ks:=vs) (vs:=vs) rfl har
  refine wpAny_bind (seqEpoch_at ho6 rfl ?_)
  refine wpAny_bind (listUpdate_at ho6 rfl ?_ (Nat.zero_le _) (by rw [e,List.size_toArray,List.length_map,Array.length_toList,P1.sz]; exact Nat.le_succ_of_le hz))
  rw [hf]
  simp only[bne_self_eq_false,Bool.false_eq_true,if_false,e]
  exact wpAny_pure (h p P1 P2)
end
theorem zl9:∀x:List Int,ltI x x=false
 | []=>rfl
 | a::x=>by rw [ltI,if_pos rfl]; exact zl9 x
section
variable{prog:Program}{w:World}{A:Around}{E:Value->Shared->Prop}{s:Shared}{S:Addr}
end
def RisP(ps:List (List Int)):Prop:=(∀p∈ps,p≠[])/\ps.Pairwise (fun p q=>ltI p q=true)/\ps.length<=60
section
variable{X:Cx}{pins:List (Addr×Obj)}{σ : St}{H:Hp}{s:Shared}
theorem RisP.lt{ps:List (List Int)}(R:RisP ps){i j:Nat}(hi:i < ps.length)(hj:j < ps.length):ltI (ps.getD i []) (ps.getD j [])=decide (i < j):=by
 have up:∀i j,i < j->j < ps.length->ltI (ps.getD i []) (ps.getD j [])=true:=fun i j hij hj=>by
  rw [List.getD_eq_getElem?_getD,List.getD_eq_getElem?_getD,List.getElem?_eq_getElem (by omega),List.getElem?_eq_getElem hj]
  exact List.pairwise_iff_getElem.mp R.2.1 i j (by omega) hj hij
 rcases Nat.lt_trichotomy i j with z | rfl | z
 ·rw [up i j z hj,decide_eq_true z]
 ·rw [zl9,decide_eq_false (Nat.lt_irrefl _)]
 ·rw [zyq (up j i z hi),decide_eq_false (by omega)]
theorem RisP.inj{ps:List (List Int)}(R:RisP ps){i j:Nat}(hi:i < ps.length)(hj:j < ps.length)(e:ps.getD i []=ps.getD j []):i=j:=by
 have a:=R.lt hi hj
 have b:=R.lt hj hi
 rw [e,zl9] at a b
 have a:=of_decide_eq_false a.symm
 have b:=of_decide_eq_false b.symm
 omega
end
end L2
set_option Elab.async false
set_option linter.all false
set_option maxRecDepth 100000
namespace L2
open PySem PySem.Spec PyProof.Rows PySem.W
section
variable{prog:Program}{w:World}{A:Around}{E:Value->Shared->Prop}{s:Shared}
end
def ztl(K:PySem.W.Frag)(ta:TA)(tc:TE):TE:=fun σ H Q=>ta σ H fun vs H1=>tc σ H1 fun y H2=>∃(a:Addr) (ns:List Int) (d:Int),vs=[.ref a]/\y=.int d/\SqL K H2 a (ns.map V.int)/\∀M,((ns=[]/\M=d)\/(M∈ns/\∀a∈ns,a<=M))->Q (.int M) H2
def q24(K:PySem.W.Frag):List V->Hp->VK->Prop:=fun xs H Q=>∃(a:Addr) (ns:List Int),xs=[.ref a]/\SqL K H a (ns.map V.int)/\Q (.int ns.sum) H
section
variable{X:Cx}
end
theorem zt4{K:PySem.W.Frag}{a:Addr}{xs:List V}{g:TG}{tt:TT}{te:TE}{Q:VK}{σ : St}{H:Hp}(Pv:Nat->List V->St->Hp->Prop)(h0:Pv 0 [] σ H)(hz:xs.length < sizeLine)(hy:∀i ys σ H,Pv i ys σ H->ys.length<=i)(hl:∀i ys σ H,i<=xs.length->Pv i ys σ H->SqT K H a xs)
  (hs:∀i ys x σ H T,xs[i]?=some x->Pv i ys σ H->H T=none->g (.ref T) σ (upd H T (.tup [.int i,x])) fun σ2 H2=>tt σ2 H2 fun b H3=>if b=true then te σ2 H3 (fun v H4=>Pv (i+1) (ys++[v]) σ2 H4) else Pv (i+1) ys σ2 H3)
  (hd:∀ys σ H,Pv xs.length ys σ H->∀p,H p=none->Q (.ref p) (upd H p (.lst ys))):zh7 (zz0 K a) g tt te Q σ H:=by
 refine⟨fun i m ys σ H=>m=xs.length - i/\i<=xs.length/\Pv i ys σ H,⟨xs.length,by simp,Nat.zero_le _,h0⟩,?_⟩
 rintro i m ys σ H ⟨rfl,hi,p⟩
 have q:=hl i ys σ H hi p
 have hyl:=hy i ys σ H p
 by_cases hlt:i < xs.length
 ·refine .inr ⟨⟨xs,xs[i],q,by simp[hlt]⟩,by omega,Pv (i+1),fun ys' σ' H' p'=>⟨xs.length - (i+1),by omega,rfl,hlt,p'⟩,fun x H' y=>?_⟩
  obtain⟨T,v,rfl,hT,rfl,y⟩:=y
  exact hs i ys v σ H T (y xs q) p hT
 ·have e:i=xs.length:=by omega
  subst e
  exact .inl ⟨⟨xs,q,Nat.le_refl _⟩,by omega,hd ys σ H p⟩
theorem z7o{K:PySem.W.Frag}{ta:TA}{g:TG}{tt:TT}{te:TE}{mp:List (Option Nat)}{σ : St}{H:Hp}{Q:VK}:zm1 (zv8 K ta) g tt te mp σ H Q=ta σ H fun vs H1=>∃a,vs=[.ref a]/\(∃xs,SqT K H1 a xs)/\zh7 (zz0 K a) g tt te Q (subσ mp σ) H1:=rfl
end L2
set_option Elab.async false
set_option linter.all false
set_option maxRecDepth 100000
namespace L2
open PySem PySem.Spec PyProof.Rows PySem.W
def zi0:V->List V->Hp->VK->Prop:=fun x vs H Q=>∃(l:Addr) (ss:List Str) (y:Str),x=.ref l/\vs=[.str y]/\H l=some (.lst (ss.map V.str))/\Q (.int (ss.count y:Nat)) H
section
variable{X:Cx}
theorem Inv.grow{pins:List (Addr×Obj)}{σ : St}{H H':Hp}{s:Shared}{h':Heap}{t':Nat}(I:Inv X pins σ H s)(k:∀b u,s.heap.get? b=some u->h'.get? b=some u)(sm:Same H H')(old:∀b,b < s.heap.objs.size->H b=none->H' b=none)
  (new:∀b u,H b=none->H' b=some u->ObjOk X.prog X.w H' h' b u):Inv X pins σ H' {s with heap:=h',toks:=t'}:=by
 refine I.un ⟨fun b u q _ _ _=>k b u q,fun b u q _ _ _=>⟨u.slots,k b u q⟩,fun b u q n _=>old b (Heap.lt_size q) n,fun b u q _=>⟨u,k b u q⟩,fun b xs q=>sm _ _ q,fun b u xs q=>sm _ _ q,fun b ps q=>⟨#[],by rw [sm _ _ q]; simp⟩⟩ fun b u e=>?_
 cases hb:H b with
 | none=>exact new b u hb e
 | some u'=>
  have:=sm _ _ hb
  rw [e] at this
  cases this
  exact(I.hok b u hb).stay (fun c v _ q=>k c v q) (fun c q=>sm _ _ q) fun c xs q=>sm _ _ q
end
def zn4(v d:Addr):HO:=.ext fun h=>h.IsItemsView v d
def zhz:V->List V->Hp->VK->Prop:=fun x vs H Q=>∃(d:Addr) (kvs:List (Key×V)),x=.ref d/\vs=[]/\H d=some (.dK kvs)/\∀p,H p=none->Q (.ref p) (upd H p (zn4 p d))
def zsh(p:Str×Int):Dm:=.tup [.str p.1,.int p.2]
def zs6:List V->Hp->VK->Prop:=fun xs H Q=>∃(v d:Addr) (kvs:List (Str×Int)) (ρ : Str->Nat),xs=[.ref v]/\H v=some (zn4 v d)/\H d=some (.dK (kvs.map fun p=>(Sum.inr p.1,V.int p.2)))/\kvs.length < 64/\
 (∀p∈kvs,∀q∈kvs,decide (p.1.cps.toList < q.1.cps.toList)=decide (ρ p.1 < ρ q.1)/\(ρ p.1 = ρ q.1->p.1=q.1))/\
 ∀(l:Addr) (H':Hp) (ws:List V) (ms:List (Str×Int)),Same H H'->H l=none->H' l=some (.lst ws)->DtA H' ws (ms.map zsh)->ms.Perm kvs->ms.Pairwise (fun p q=>ρ p.1 < ρ q.1)->Q (.ref l) H'
section
variable{prog:Program}{w:World}{A:Around}{E:Value->Shared->Prop}{s:Shared}
theorem q09{x y:Str}{a c:Addr}{ox oy:Obj}{xs ys:Array Value}{n m:Nat}{t u:Tok}{d e:Value}{Q:Bool->Shared->Prop}(ha:s.heap.get? a=some ox)(da:ox.data=.seq xs n)(hc:s.heap.get? c=some oy)(dc:oy.data=.seq ys m)
  (ex:xs.toList=[.str x t,d]) (ey:ys.toList=[.str y u,e]) (hne:x≠y) (h:Q (decide (x.cps.toList < y.cps.toList)) s):wpAny (model prog w) A (keyLt' (tuples' true) (.ref a) (.ref c)) Q E s:=by
 refine kat_lt ha da hc dc ?_
 rw [ex,ey,List.zip_cons_cons]
 refine kat_cons (wpAny_eqBool_str ?_)
 rw [decide_eq_false hne]
 exact kat_no (oneLt_str h)
end
section
variable{prog:Program}{w:World}{A:Around}{E:Value->Shared->Prop}{s:Shared}{K:Type} [DecidableEq K] {knd:PySem.KeyKind prog w K}
theorem zlc{r d:Addr}{kvs:List (K×Value)}{ep:Nat}{Q:List Value->Shared->Prop}(hh:A.handled=none)(hv:s.heap.IsItemsView r d)(hm:s.heap.DictAt knd d kvs ep)(hn:kvs.length<=sizeLine)
  (q:∀(h':Heap) (tk:Nat) (as:List Addr),s.heap.objs.size<=h'.objs.size->(∀b o,s.heap.get? b=some o->h'.get? b=some o)->as.length=kvs.length->KdxG knd kvs s.heap.objs.size h' as->Q (as.map Value.ref) {s with heap:=h',toks:=tk}) :
  wpAny (model prog w) A (collect (.ref r)) Q E s:=by
 have hr:r < s.heap.objs.size:=let ⟨_,ho,_⟩:=hv; Heap.lt_size ho
 have hd:d < s.heap.objs.size:=hm.lt_size
 unfold collect
 refine wpAny_bind (wpAny_runValue (codeAny_builtin PySem.F.entry_proto_collect ?_))
 rw [Around.under_plainId PySem.F.plain_proto_collect]
 refine wpAny_bind (wpAny_newList (wpAny_pure ⟨plainId_quiet PySem.F.plain_list_iadd _,codeAny_builtin PySem.F.entry_list_iadd ?_⟩))
 rw [Around.under_plainId PySem.F.plain_list_iadd]
 have e0:(s.heap.push (seqObj "list" #[] 0)).get? s.heap.objs.size=some (seqObj "list" #[] 0):=Heap.get?_push_size _ rfl
 show wpAny _ _ (Builtin.List.listExtendWith (.ref s.heap.objs.size) (.ref r) (.ref s.heap.objs.size)) _ _ {s with heap:=s.heap.push (seqObj "list" #[] 0)}
 have fin:∀(v:Result) (s':Shared),(∃(h':Heap) (tk:Nat) (acc:Array Value) (c:Nat) (as:List Addr),v=.ok (.ret (.ref s.heap.objs.size))/\s' = {s with heap:=h',toks:=tk}/\h'.get? s.heap.objs.size=some {cls:=.type "list",dict:=none,data:=.seq acc c,slots:=#[]}/\acc.toList=as.map Value.ref/\Q (as.map Value.ref) {s with heap:=h',toks:=tk})->
   (match v with | .ok (.ret v)=>wpAny (model prog w) A (match v with | .ref a=>(do match (<- load a).data with | .seq xs _=>pure xs.toList | _=>unsupported "internal:collect") | _=>unsupported "internal:collect") Q E s' | .ok _=>False | .error e=>E e s'):=by
  rintro v s' ⟨h',tk,acc,c,as,rfl,rfl,hS,hacc,hq⟩
  refine wpAny_bind (wpAny_load hS (wpAny_pure ?_))
  rw [hacc]
  exact hq
 refine wpAny_mono (kdx_extend (A:=A) (s:={s with heap:=s.heap.push (seqObj "list" #[] 0)}) (knd:=knd) (kvs:=kvs) (ep:=ep)
  (R:=fun v s'=>∃(h':Heap) (tk:Nat) (acc:Array Value) (c:Nat) (as:List Addr),v=.ok (.ret (.ref s.heap.objs.size))/\s' = {s with heap:=h',toks:=tk}/\h'.get? s.heap.objs.size=some {cls:=.type "list",dict:=none,data:=.seq acc c,slots:=#[]}/\acc.toList=as.map Value.ref/\Q (as.map Value.ref) {s with heap:=h',toks:=tk})
  hh (let ⟨o,ho,x⟩:=hv; ⟨o,Heap.get?_push_of_some _ ho,x⟩) (hm.push _) s.heap.objs.size (Nat.ne_of_gt hr) (Nat.ne_of_lt hd) (.ref s.heap.objs.size) 0 e0 (fun h' tk acc c as hk hS hl g hacc=>⟨h',tk,acc,c,as,rfl,rfl,hS,hacc,?_⟩) hn) (fun f s' z=>?_) (fun e s' z=>fin _ _ z)
 ·refine q h' tk as (Nat.le_of_lt (Heap.lt_size hS)) (fun b o e=>hk b o (Nat.ne_of_lt (Heap.lt_size e)) (Heap.get?_push_of_some _ e)) hl (g.low ?_)
  show s.heap.objs.size<=(s.heap.push _).objs.size
  rw [Heap.size_push]
  exact Nat.le_succ _
 ·cases f with
  | done f=>exact fin _ _ z
  | again c=>exact⟨z.1,codeAny_mono z.2 fun r s2 y=>fin r s2 y⟩
end
def zwo:List Addr->List (List V)->Hp->Hp
 | a::as,x::xs,H=>upd (zwo as xs H) a (.tup x)
 | _,_,H=>H
theorem zfm:∀{as:List Addr} {xs:List (List V)} {H:Hp} {b:Addr},b∉as->zwo as xs H b=H b
 | [],_,_,_,_=>rfl
 | a::as,[],_,_,_=>rfl
 | a::as,x::xs,H,b,h=>by
  rw [zwo,z0a (show b≠a from fun z=>h (by rw [z]; exact List.mem_cons_self))]
  exact zfm fun z=>h (.tail _ z)
theorem zof:∀{as:List Addr} {xs:List (List V)} {H:Hp} {j:Nat} {a:Addr} {x:List V},as.Pairwise (· < ·)->as[j]?=some a->xs[j]?=some x->zwo as xs H a=some (.tup x)
 | [],_,_,_,_,_,_,h,_=>by simp at h
 | a::as,[],_,_,_,_,_,_,h=>by simp at h
 | a::as,x::xs,H,0,b,y,_,h1,h2=>by
  have e1:a=b:=by simpa using h1
  have e2:x=y:=by simpa using h2
  subst e1 e2
  exact z01
 | a::as,x::xs,H,j+1,b,y,hp,h1,h2=>by
  obtain⟨p1,p2⟩:=List.pairwise_cons.mp hp
  have h1':as[j]?=some b:=by simpa using h1
  have hlt:=p1 b (List.mem_of_getElem? h1')
  rw [zwo,z0a (Nat.ne_of_gt hlt)]
  exact zof p2 h1' (by simpa using h2)
theorem zz4:∀{as:List Addr} {xs:List (List V)} {H:Hp} {b:Addr} {u:HO},as.length=xs.length->as.Pairwise (· < ·)->b∈as->zwo as xs H b=some u->∃(j:Nat) (x:List V),as[j]?=some b/\xs[j]?=some x/\u=.tup x:=by
 intro as xs H b u hl hp hb e
 obtain⟨j,hj,ej⟩:=List.getElem_of_mem hb
 have h1:as[j]?=some b:=by rw [List.getElem?_eq_getElem hj,ej]
 have h2:xs[j]?=some xs[j]:=List.getElem?_eq_getElem (by omega)
 have z:=zof (H:=H) hp h1 h2
 rw [e] at z
 cases z
 exact⟨j,_,h1,h2,rfl⟩
section
variable{X:Cx}
theorem zxd:MtM X "dict.items" zhz:=by
 intro pins s σ H x vs v us Q I rx rv h
 obtain⟨d,kvs,rfl,rfl,hH,q⟩:=h
 cases rx
 cases rv
 obtain⟨z,hd,xs,rel,dd⟩:=q0q I.hok hH
 have hT:s.TypeIs (.ref d) "dict":=dd.typeIs
 refine call_meetsIn F.slot_dict_items hT F.entry_dict_items (F.args_dict_items_1 _) (meets_dict_items (z25 X.prog X.w) d hd) ⟨⟨_,dd⟩,?_⟩
 have e:=Heap.get?_push_size s.heap (o:={cls:=.type "dict_items",data:=.fields #[.ref d]}) rfl
 refine⟨.ref s.heap.objs.size,_,I.laid (t':=s.toks) (fun b u q=>Heap.get?_push_of_some _ q) (Nat.le_refl _) (show ObjOk X.prog X.w _ _ _ (zn4 s.heap.objs.size d) from⟨⟨_,e,rfl,rfl⟩,⟨_,e⟩,fun h1 h2 ⟨o,e1,r⟩ y=>⟨o,y _ e1,r⟩⟩),rfl,q _ (I.hok.fresh (Nat.le_refl _))⟩
theorem zyt{kvs:List (Str×Int)}:∀{vs:List (Key×Value)},KV (kvs.map fun p=>((Sum.inr p.1:Key),V.int p.2)) vs->∀(j:Nat) (k:Key) (x:Value),vs[j]?=some (k,x)->∃p t,kvs[j]?=some p/\k=Sum.inr p.1/\x=.int p.2 t:=by
 induction kvs with
 | nil=>
  intro vs rel j k x e
  cases rel
  simp at e
 | cons p kvs ih=>
  intro vs rel j k x e
  cases rel with
  | cons rr rt=>
   cases j with
   | zero=>
    obtain⟨h1,t,h2⟩:=rr
    simp only[List.getElem?_cons_zero,Option.some.injEq] at e
    subst e
    exact⟨p,t,rfl,h1.symm,h2⟩
   | succ j=>exact ih rt j k x (by simpa using e)
theorem zra{α : Type}{H:Hp}{f : α->V}{g : α->Dm}:∀{l:List α},(∀i∈l,Dt H (f i) (g i))->DtA H (l.map f) (l.map g)
 | [],_=>.nil
 | i::l,h=>.cons (h i (.head _)) (zra fun j hj=>h j (.tail _ hj))
theorem zlx{α : Type}{f : α->V}{g : α->Value}:∀{l:List α},(∀i∈l,RelV (f i) (g i))->Vals (l.map f) (l.map g)
 | [],_=>.nil
 | i::l,h=>.cons (h i (.head _)) (zlx fun j hj=>h j (.tail _ hj))
theorem zbf(hc:X.calm=true):CallR X (.builtin "sorted") zs6:=by
 intro pins s σ H xs us Q I r h
 obtain⟨v,d,kvs,ρ,rfl,hv,hd,h64,hρ,q⟩:=h
 obtain⟨u,rfl,r1⟩:=r.one
 cases r1
 have view:s.heap.IsItemsView v d:=(show ObjOk X.prog X.w H s.heap v (zn4 v d) from I.hok v _ hv).1
 obtain⟨zl,hsm,xs,rel,dd⟩:=q0q I.hok hd
 obtain⟨ep,da⟩:=dd.dictAt
 have hxl:xs.length=kvs.length:=by have:=rel.length; rw [List.length_map] at this; exact this.symm
 refine Calls.call_function_entry kind_sorted plain_sorted entry_sorted (args_sorted1 _) ?_
 unfold Builtin.«sorted»
 refine wpAny_bind (m:=checkCount "sorted" 1 1 _) (wpAny_pure (wpAny_bind (zlc (A:=X.A.in1) (by simpa using I.ok.hd hc) view da (zkn (by omega)) fun h1 tk as hsz k1 hal g=>?_)))
 have hal':as.length=kvs.length:=by omega
 have hpair:∀j a,as[j]?=some a->∃(p:Str×Int) (t u:Tok),kvs[j]?=some p/\h1.get? a=some {cls:=.type "tuple",data:=.seq #[.str p.1 t,.int p.2 u]}:=fun j a ha=>by
  obtain⟨key,k,x,e1,e2,e3⟩:=g.pairs j a ha
  obtain⟨p,t,e4,rfl,rfl⟩:=zyt rel j k x e1
  rcases z3v (show zpq (Sum.inr p.1) key=true from e2) with⟨i,t',e5,rfl⟩ | ⟨y,t',e5,rfl⟩
  ·cases e5
  ·cases e5
   exact⟨p,t',t,e4,e3⟩
 have hnd:(kvs.map (·.1)).Nodup:=by
  have z:=da.nodup
  have e:xs.map (·.1)=kvs.map fun p=>(Sum.inr p.1:Key):=by
   refine List.ext_getElem? fun j=>?_
   rw [List.getElem?_map,List.getElem?_map]
   cases ej:xs[j]? with
   | none=>
    have:kvs[j]?=none:=by rw [List.getElem?_eq_none_iff] at ej |-; omega
    rw [this]; rfl
   | some kx=>
    obtain⟨k,x⟩:=kx
    obtain⟨p,t,e4,e5,_⟩:=zyt rel j k x ej
    rw [e4,e5]; rfl
  rw [e] at z
  exact List.pairwise_map.mpr ((List.pairwise_map.mp z).imp fun h e=>h (by rw [e]))
 have hD:∀i,i < kvs.length->kvs[i]?=some (kvs.getD i (⟨#[]⟩,0)):=fun i hi=>by
  rw [List.getD_eq_getElem?_getD,List.getElem?_eq_getElem hi]; rfl
 have hA:∀i,i < kvs.length->as[i]?=some (as.getD i 0):=fun i hi=>by
  rw [List.getD_eq_getElem?_getD,List.getElem?_eq_getElem (by omega)]; rfl
 have hmem:∀i,i < kvs.length->kvs.getD i (⟨#[]⟩,0)∈kvs:=fun i hi=>List.mem_of_getElem? (hD i hi)
 have hat:∀i,i < kvs.length->∃t u,h1.get? (as.getD i 0)=some {cls:=.type "tuple",data:=.seq #[.str (kvs.getD i (⟨#[]⟩,0)).1 t,.int (kvs.getD i (⟨#[]⟩,0)).2 u]}:=fun i hi=>by
  obtain⟨p,t,u,e1,e2⟩:=hpair i _ (hA i hi)
  rw [hD i hi] at e1
  cases e1
  exact⟨t,u,e2⟩
 have hvl:(as.map Value.ref).length=kvs.length:=by rw [List.length_map,hal']
 have hvd:∀i,i < kvs.length->(as.map Value.ref).getD i .none=.ref (as.getD i 0):=fun i hi=>by
  rw [List.getD_eq_getElem?_getD,List.getElem?_map,hA i hi]; rfl
 have hne:∀i j,i < kvs.length->j < kvs.length->(kvs.getD i (⟨#[]⟩,0)).1=(kvs.getD j (⟨#[]⟩,0)).1->i=j:=fun i j hi hj e=>by
  have hi':i < (kvs.map (·.1)).length:=by rw [List.length_map]; exact hi
  have hj':j < (kvs.map (·.1)).length:=by rw [List.length_map]; exact hj
  refine(List.getElem_inj (h₀:=hi') (h₁:=hj') hnd).mp ?_
  rw [List.getElem_map,List.getElem_map]
  have a1:=hD i hi
  have a2:=hD j hj
  rw [List.getElem?_eq_getElem hi] at a1
  rw [List.getElem?_eq_getElem hj] at a2
  rw [Option.some.inj a1,Option.some.inj a2]
  exact e
 refine wpAny_bind (wpAny_newList ?_ (zkn (by omega)))
 have eL:(h1.push (seqObj "list" (as.map Value.ref).toArray 0)).get? h1.objs.size=some (seqObj "list" (as.map Value.ref).toArray 0):=Heap.get?_push_size _ rfl
 refine wpAny_bind (wpAny_holding (wpAny_call_entry slot_list_sort ⟨_,eL,rfl⟩ entry_list_sort (zid (r:=fun i=>ρ (kvs.getD i (⟨#[]⟩,0)).1) eL (by omega) (fun i j hi hj e=>hne i j (by omega) (by omega) ((hρ _ (hmem i (by omega)) _ (hmem j (by omega))).2 e)) (fun h2 h' kp=>?_) fun p P1 P2=>⟨_,rfl,?_⟩) (args_list_sort _)))
 ·have keep:∀i,i < kvs.length->∃t u,h'.get? (as.getD i 0)=some {cls:=.type "tuple",data:=.seq #[.str (kvs.getD i (⟨#[]⟩,0)).1 t,.int (kvs.getD i (⟨#[]⟩,0)).2 u]}:=fun i hi=>by
   obtain⟨t,u,e⟩:=hat i hi
   exact⟨t,u,kp _ _ (Nat.ne_of_lt (Heap.lt_size e)) (Heap.get?_push_of_some _ e)⟩
  have tups:∀(l:List Nat),(∀i∈l,i < kvs.length)->∃fs,KatTups h' (l.map fun i=>(as.map Value.ref).getD i .none) fs/\fs.length=l.length/\∀f∈fs,∃x t,f=.str x t:=by
   intro l
   induction l with
   | nil=>intro _; exact⟨[],.nil,rfl,fun f hf=>absurd hf (by simp)⟩
   | cons i l ih=>
    intro hl
    obtain⟨fs,k,lf,ff⟩:=ih fun j hj=>hl j (.tail _ hj)
    obtain⟨t,u,e⟩:=keep i (hl i (.head _))
    refine⟨.str (kvs.getD i (⟨#[]⟩,0)).1 t::fs,?_,by simp[lf],fun f hf=>?_⟩
    ·rw [List.map_cons,hvd i (hl i (.head _))]
     exact .cons e rfl rfl rfl k
    ·rcases List.mem_cons.mp hf with rfl | hf
     ·exact⟨_,_,rfl⟩
     ·exact ff f hf
  obtain⟨fs,kt,fl,ff⟩:=tups (List.range kvs.length) fun i hi=>List.mem_range.mp hi
  have ev:((List.range kvs.length).map fun i=>(as.map Value.ref).getD i .none)=as.map Value.ref:=by
   refine List.ext_getElem (by simp[hal']) fun i h1 h2=>?_
   simp at h2
   simp[h2]
  rw [ev] at kt
  rw [List.length_range] at fl
  refine⟨tuples' true,fun E Q hQ=>kat_kind (T:=.type "str") kt (by omega) (fun v hv=>?_) rfl hQ,fun i j hi hj E Q hQ=>?_⟩
  ·obtain⟨x,t,rfl⟩:=ff v hv
   exact Looks.of_pure rfl
  ·rw [hvl] at hi hj
   rw [hvd i hi,hvd j hj]
   obtain⟨t1,u1,e1⟩:=keep i hi
   obtain⟨t2,u2,e2⟩:=keep j hj
   by_cases eij:i=j
   ·subst eij
    rw [decide_eq_false (Nat.lt_irrefl _)] at hQ
    rw [e1] at e2
    refine kat_lt e1 rfl e1 rfl ?_
    refine kat_cons (wpAny_eqBool_str ?_)
    rw [decide_eq_true rfl]
    refine kat_yes (kat_cons (wpAny_eqBool_int ?_))
    rw [show((kvs.getD i (⟨#[]⟩,0)).2 == (kvs.getD i (⟨#[]⟩,0)).2)=true from beq_self_eq_true _]
    refine kat_yes (kat_nil ?_)
    simpa using hQ
   ·refine q09 e1 rfl e2 rfl rfl rfl (fun z=>eij (hne i j hi hj z)) ?_
    rw [(hρ _ (hmem i hi) _ (hmem j hj)).1]
    exact hQ
 ·refine wpAny_pure ⟨_,rfl,?_⟩
  rw [hvl] at P1 P2
  obtain⟨n,en⟩:=sortedHeap_at (out:=(p.toList.map fun i=>(as.map Value.ref).getD i Value.none).toArray) eL
  have hin:∀i∈p.toList,i < kvs.length:=fun i hi=>List.mem_range.mp (P1.pm.mem_iff.mp hi)
  have oldF:∀b u,h1.get? b=some u->(sortedHeap (h1.push (seqObj "list" (as.map Value.ref).toArray 0)) h1.objs.size (as.map Value.ref) (p.toList.map fun i=>(as.map Value.ref).getD i Value.none).toArray).get? b=some u:=fun b u hu=>by
   have lb:=Heap.lt_size hu
   rw [sortedHeap_old (Nat.ne_of_lt lb) (by rw [size_push']; exact Nat.lt_succ_of_lt lb)]
   exact Heap.get?_push_of_some _ hu
  have hup:∀a∈as,s.heap.objs.size<=a/\a < h1.objs.size:=fun a ha=>⟨Nat.le_of_lt (g.above a ha),g.there ha⟩
  have nL:h1.objs.size∉as:=fun z=>absurd (hup _ z).2 (Nat.lt_irrefl _)
  have low:∀b,b < s.heap.objs.size->upd (zwo as (kvs.map fun p=>[V.str p.1,V.int p.2]) H) h1.objs.size (.lst (p.toList.map fun i=>V.ref (as.getD i 0))) b=H b:=fun b hb=>by
   rw [z0a (Nat.ne_of_lt (Nat.lt_of_lt_of_le hb hsz)),zfm fun z=>absurd (hup b z).1 (by omega)]
  have sm:Same H (upd (zwo as (kvs.map fun p=>[V.str p.1,V.int p.2]) H) h1.objs.size (.lst (p.toList.map fun i=>V.ref (as.getD i 0)))):=fun b u e=>by
   rw [low b (I.hok b u e).lt]; exact e
  have atT:∀i,i < kvs.length->upd (zwo as (kvs.map fun p=>[V.str p.1,V.int p.2]) H) h1.objs.size (.lst (p.toList.map fun i=>V.ref (as.getD i 0))) (as.getD i 0)=some (.tup [V.str (kvs.getD i (⟨#[]⟩,0)).1,V.int (kvs.getD i (⟨#[]⟩,0)).2]):=fun i hi=>by
   have ha:=hA i hi
   rw [z0a fun z=>nL (by rw [<- z]; exact List.mem_of_getElem? ha)]
   exact zof g.rise ha (by rw [List.getElem?_map,hD i hi]; rfl)
  refine⟨.ref h1.objs.size,_,I.grow (t':=tk) (fun b u e=>oldF b u (k1 b u e)) sm (fun b hb e=>(low b hb).trans e) (fun b u e1 e2=>?_),rfl,q h1.objs.size _ _ (p.toList.map fun i=>kvs.getD i (⟨#[]⟩,0)) sm (I.hok.fresh hsz) z01 ?_ ?_ ?_⟩
  ·by_cases hb:b=h1.objs.size
   ·subst hb
    rw [z01] at e2
    cases e2
    refine⟨?_,(p.toList.map fun i=>(as.map Value.ref).getD i Value.none),n,zlx fun i hi=>?_,by simpa [seqObj] using en⟩
    ·rw [List.length_map,Array.length_toList,P1.sz]
     exact zkn (by omega)
    ·rw [hvd i (hin i hi)]; rfl
   ·rw [z0a hb] at e2
    by_cases hba:b∈as
    ·obtain⟨j,x,ej,ex,rfl⟩:=zz4 (by rw [List.length_map]; exact hal') g.rise hba e2
     obtain⟨p',t,u,e4,e5⟩:=hpair j b ej
     rw [List.getElem?_map,e4] at ex
     cases ex
     exact⟨zth,[.str p'.1 t,.int p'.2 u],.cons ⟨t,rfl⟩ (.cons ⟨u,rfl⟩ .nil),⟨_,oldF b _ e5,rfl,0,rfl⟩⟩
    ·rw [zfm hba,e1] at e2
     cases e2
  ·rw [List.map_map]
   refine zra fun i hi=>?_
   exact .tup (atT i (hin i hi)) (.cons (.str _) (.cons (.int _) .nil))
  ·have z:=P1.pm.map fun i=>kvs.getD i ((⟨#[]⟩:Str),(0:Int))
   refine z.trans (.of_eq ?_)
   refine List.ext_getElem (by simp) fun i h1 h2=>?_
   simp[h2]
  ·rw [List.pairwise_map,List.pairwise_iff_getElem]
   intro i j hi hj hij
   have hj':j < p.size:=by simpa using hj
   have z:=P2 i j hij (by rw [<- P1.sz]; exact hj')
   simpa [rk,Array.getD,hj',Nat.lt_trans hij hj'] using z
end
end L2
set_option Elab.async false
set_option linter.all false
set_option maxRecDepth 100000
namespace L2
open PySem PySem.Spec PyProof.Rows PySem.W
theorem zne:entryFor table "dict.update.loop" = some Builtin.«dict.update.loop»:=entryFor_of_tree (by kernel_rfl)
theorem zek:plainId "dict.update.loop" = true:=by decide+kernel
theorem q4n{n:Nat}(h:n<=200000):n<=sizeLine:=Nat.le_trans h (by decide)
theorem zn2:typeLookup (.type "list") "keys" = pure none:=by rw [typeLookup_type,builtinLookup_eq_fast]; kernel_rfl
section
variable{prog:Program}{w:World}{A:Around}{E:Value->Shared->Prop}{s:Shared}{a:Addr}
theorem q0c{its:Array Value}{n:Nat}{Q:Option Value->Shared->Prop}(hh:A.handled=none) (hx:s.heap.get? a=some {cls:=.type "list",data:=.seq its n}) (q:∀h' tk,(∀b o,s.heap.get? b=some o->h'.get? b=some o)->Q none {s with heap:=h',toks:=tk}) :
  wpAny (model prog w) A (getAttr? (.ref a) "keys") Q E s:=by
 obtain⟨hp,g,d,tk,os⟩:=s
 have hT:Shared.TypeIs ⟨hp,g,d,tk,os⟩ (.ref a) "list":=⟨_,hx,rfl⟩
 have hT1:Shared.TypeIs ⟨hp,g,d,tk+1,os⟩ (.ref a) "list":=⟨_,hx,rfl⟩
 have f1:=sub_AttributeError
 have f3:=F.slot_list_getattribute.lookup
 have f4:=F.slot_list_getattribute.bind (.ref a)
 have f5:=am_list_getattr_none
 unfold getAttr? getAttrBy? getAttrBy
 repeat (any_goals (first | assumption | ((with_reducible show wpAny _ _ (call (Value.builtin "list.__getattribute__") _ _) _ _ _); refine call_meets F.slot_list_getattribute hT1 am_entry_list_getattribute (F.args_list_getattribute_2 _ _) (meets_getattribute_miss_list a its n #[] "keys" _ zn2 (by decide+kernel)) ⟨hx,hh,fun h' tk' e hx'=>?_⟩) | wp_step))
 obtain⟨t',u',he⟩:=hx'.there
 show wpAny _ _ (getattributeRaised _ _ _ _ _ _ _) _ _ _
 unfold getattributeRaised
 repeat (any_goals (first | assumption | wp_step))
 exact q _ _ fun b ob e=>hx'.keeps b ob e
theorem ze1{h h':Heap}{D:Addr}{xs:List (List Key×Addr×Value)}(x:h.DictOfH (tupleKind (z25 prog w)) D xs)(kD:∀o,h.get? D=some o->h'.get? D=some o)(kk:∀y∈xs,(tupleKind (z25 prog w)).is h' y.1 y.2.1):h'.DictOfH (tupleKind (z25 prog w)) D xs:=by
 obtain⟨o,es,ep,e1,e2,e3,e4,_,e6⟩:=x
 exact⟨o,es,ep,kD o e1,e2,e3,e4,kk,e6⟩
theorem zet{h h':Heap}{p:List Key}{a:Addr}(x:(tupleKind (z25 prog w)).is h p a)(k:∀o,h.get? a=some o->h'.get? a=some o):(tupleKind (z25 prog w)).is h' p a:=by
 obtain⟨o,i,n,e,r⟩:=x
 exact⟨o,i,n,k _ e,r⟩
theorem zsg{a b:Addr}{v:Value}{o:Obj}{its:Array Value}{k:Nat}{Q:List Value->Shared->Prop}(e:s.heap.get? a=some o) (c:o.cls=.type "tuple") (d:o.data=.seq its k) (hi:its.toList=[.ref b,v]) (q:Q [.ref b,v] s):wpAny (model prog w) A (Builtin.Dict.pairItems (.ref a)) Q E s:=by
 unfold Builtin.Dict.pairItems
 refine wpAny_bind (wpAny_typeOf (T:="tuple") ⟨_,e,c⟩ ?_)
 rw [if_pos (by decide)]
 refine wpAny_bind (wpAny_seqItems e d (wpAny_pure ?_))
 show Q its.toList s
 rw [hi]
 exact q
theorem zsf{R:Result->Shared->Prop}{I D:Addr}{fp wr:List Addr}{G:Array GenState->Array GenState->Prop}{n:Nat}{P:Nat->Value->Prop}{St:Nat->Shared->Prop}{rw_ ka:Nat->Addr}{va:Nat->Value}{ks:Nat->List Key}(W:WalksS prog w A.in1 I fp wr G n P St)(hDf:D∉fp)
  (hval:∀i v,P i v->v=.ref (rw_ i)) (hinj:∀i j,i < n->j < n->ks i=ks j->i=j) (hn:n<=100000) (hnw:∀i,i < n->rw_ i∉D::wr/\ka i∉D::wr) (hu:A.units+8 < cLine) :
  ∀(m i:Nat) (s:Shared),i+m=n->St i s->s.heap.DictOfH (tupleKind (z25 prog w)) D ((List.range i).map fun j=>(ks j,ka j,va j))->
   (∀j,j < n->(∃o its k,s.heap.get? (rw_ j)=some o/\o.cls=.type "tuple"/\o.data=.seq its k/\its.toList=[.ref (ka j),va j])/\(tupleKind (z25 prog w)).is s.heap (ks j) (ka j))->
   (∀s',Moved (D::wr) G s s'->s'.heap.DictOfH (tupleKind (z25 prog w)) D ((List.range n).map fun j=>(ks j,ka j,va j))->R (.ok (.ret .none)) s')->
   codeAny (model prog w) A (.builtin "dict.update.loop" ⟨[.ref D,.ref I,rawInt i,.none],[]⟩) R s:=by
 have hw:D∉wr:=fun z=>hDf (W.sub _ z)
 have hm:∀b∈wr,b∈D::wr:=fun b z=>.tail _ z
 intro m
 induction m with
 | zero=>
  intro i s e st x hk q
  obtain rfl:i=n:=e
  refine codeAny_builtin zne ?_
  rw [Around.under_plainId zek]
  refine wpAny_bind (W.done s _ _ st fun s' mv=>?_)
  show wpAny _ _ (Builtin.Dict.addKeywords D [] >>= _) _ _ _
  refine wpAny_bind (wpAny_pure (wpAny_pure (q s' (mv.mono hm) (ze1 x (fun o z=>mv.heap D o hw z) fun y hy=>?_))))
  obtain⟨j,hj,rfl⟩:=List.mem_map.mp hy
  have hj:=List.mem_range.mp hj
  exact zet (hk j hj).2 fun o z=>mv.heap _ o (fun z=>(hnw j hj).2 (hm _ z)) z
 | succ m ih=>
  intro i s e st x hk q
  refine codeAny_builtin zne ?_
  rw [Around.under_plainId zek]
  refine wpAny_bind (W.item i s _ _ (by omega) st fun v s1 hP st1 mv=>?_)
  obtain rfl:=hval i v hP
  have hi:i < n:=by omega
  have hk1:∀j,j < n->(∃o its k,s1.heap.get? (rw_ j)=some o/\o.cls=.type "tuple"/\o.data=.seq its k/\its.toList=[.ref (ka j),va j])/\(tupleKind (z25 prog w)).is s1.heap (ks j) (ka j):=fun j hj=>by
   obtain⟨⟨o,its,k,e1,r⟩,x2⟩:=hk j hj
   exact⟨⟨o,its,k,mv.heap _ o (fun z=>(hnw j hj).1 (hm _ z)) e1,r⟩,zet x2 fun o z=>mv.heap _ o (fun z=>(hnw j hj).2 (hm _ z)) z⟩
  have x1:s1.heap.DictOfH (tupleKind (z25 prog w)) D ((List.range i).map fun j=>(ks j,ka j,va j)):=ze1 x (fun o z=>mv.heap D o hw z) fun y hy=>by
   obtain⟨j,hj,rfl⟩:=List.mem_map.mp hy
   exact(hk1 j (by have:=List.mem_range.mp hj; omega)).2
  obtain⟨⟨o,its,k,e1,e2,e3,e4⟩,x2⟩:=hk1 i hi
  refine wpAny_bind (wpAny_holding (wpAny_bind (wpAny_tryCatch (zsg e1 e2 e3 e4 (wpAny_holding (wpAny_dictSet_heap (by show A.units+1 < cLine; omega) x2 x1 (fun h' x' sb=>?_) ?_))))))
  ·have hnew:atKey ((List.range i).map fun j=>(ks j,ka j,va j)) (ks i)=none:=atKey_none_of_get fun j p z=>by
    rw [List.getElem?_map] at z
    cases ej:(List.range i)[j]? with
    | none=>rw [ej] at z; cases z
    | some j'=>
     rw [ej] at z
     have hj':=List.mem_range.mp (List.mem_of_getElem? ej)
     have:ks j'=ks i:=by simpa using congrArg Prod.fst (Option.some.inj z)
     have:=hinj j' i (by omega) hi this
     omega
   rw [storedH_new hnew] at x'
   have er:((List.range i).map fun j=>(ks j,ka j,va j))++[(ks i,ka i,va i)]=(List.range (i+1)).map fun j=>(ks j,ka j,va j):=by
    rw [List.range_succ,List.map_append]; rfl
   rw [er] at x'
   have hk2:∀j,j < n->(∃o its k,h'.get? (rw_ j)=some o/\o.cls=.type "tuple"/\o.data=.seq its k/\its.toList=[.ref (ka j),va j])/\(tupleKind (z25 prog w)).is h' (ks j) (ka j):=fun j hj=>by
    obtain⟨⟨o,its,k,e1,r⟩,x2⟩:=hk1 j hj
    exact⟨⟨o,its,k,(sb.2 _ fun z=>(hnw j hj).1 (by rw [z]; exact List.mem_cons_self)).trans e1,r⟩,zet x2 fun o z=>(sb.2 _ fun z=>(hnw j hj).2 (by rw [z]; exact List.mem_cons_self)).trans z⟩
   refine wpAny_pure ⟨plainId_quiet zek _,ih (i+1) _ (by omega) (W.frame _ s1 _ _ st1 (Nat.le_add_right _ _) fun b hb' o z=>?_) x' hk2 fun s2 mv2 x2=>q s2 (Moved.trans W.gtrans ((mv.mono hm).then_heap (Nat.le_add_right _ _) fun b o hb' z=>?_) mv2) x2⟩
   ·rw [sb.2 b fun z:b=D=>hDf (z ▸ hb')]; exact z
   ·rw [sb.2 b fun z:b=D=>hb' (z ▸ List.mem_cons_self)]; exact z
  ·rw [List.length_map,List.length_range]
   exact q4n (by omega)
end
def zyj:List V->Hp->VK->Prop:=fun xs H Q=>∃(a:Addr) (vs:List V) (l:List Rw2),xs=[.ref a]/\H a=some (.lst vs)/\DtA H vs (l.map q1g)/\(l.map (·.1)).Nodup/\l.length<=100000/\
 ∀(p:Addr) (kvs:List (List Key×V)),H p=none->Paired (fun(kv:List Key×V) (r:Rw2)=>kv.1=r.1.map Sum.inl/\Dt H kv.2 r.2) kvs l->Q (.ref p) (upd H p (.dT kvs))
structure Prw where
 r:Addr
 k:Addr
 x:V
 u:Value
instance:Inhabited Prw:=⟨⟨0,0,.non,.none⟩⟩
section
variable{X:Cx}{pins:List (Addr×Obj)}{σ : St}{H:Hp}{s:Shared}
def q17(X:Cx)(H:Hp)(h:Heap)(l:Rw2)(q:Prw):Prop:=H q.r=some (.tup [.ref q.k,q.x])/\H q.k=some (.tup (l.1.map V.int))/\Dt H q.x l.2/\RelV q.x q.u/\(∃o its k,h.get? q.r=some o/\o.cls=.type "tuple"/\o.data=.seq its k/\its.toList=[.ref q.k,q.u])/\(tupleKind (z25 X.prog X.w)).is h (l.1.map Sum.inl) q.k
theorem q4u(I:Inv X pins σ H s):∀{l:List Rw2} {vs:List V} {us:List Value},DtA H vs (l.map q1g)->Vals vs us->∃qs:List Prw,us=qs.map (fun q=>Value.ref q.r)/\Paired (q17 X H s.heap) l qs
 | [],_,_,.nil,.nil=>⟨[],rfl,.nil⟩
 | r::l,_,_,.cons d t,.cons rr rt=>by
  obtain⟨qs,e,pq⟩:=q4u I t rt
  cases d with
  | tup e1 ra=>
   cases rr
   obtain⟨its,rv,⟨o,ho,hc,n,hd⟩,_⟩:=I.tuple (SqT.of e1)
   cases ra with
   | cons d1 ra=>
    cases ra with
    | cons d2 ra=>
     cases ra
     cases rv with
     | cons q1 rv=>
      cases rv with
      | cons q2 rv=>
       cases rv
       cases d1 with
       | tup e2 rb=>
        have eb:=zcv rb
        subst eb
        cases q1
        refine⟨⟨_,_,_,_⟩::qs,by rw [e]; rfl,.cons ⟨e1,e2,d2,q2,⟨o,_,n,ho,hc,hd,rfl⟩,?_⟩ pq⟩
        refine zk4 I.hok ?_
        rw [e2,List.map_map]
        rfl
theorem zmm{α β : Type}{R : α->β->Prop}:∀{l:List α} {m:List β},Paired R l m->l.length=m.length/\∀(j:Nat) (a : α) (b : β),l[j]?=some a->m[j]?=some b->R a b
 | [],_,.nil=>⟨rfl,fun j a b h=>by simp at h⟩
 | x::l,_,.cons r t=>by
  obtain⟨h1,h2⟩:=zmm t
  refine⟨by simp[h1],fun j a b ha hb=>?_⟩
  cases j with
  | zero=>
   have e1:=Option.some.inj ha
   have e2:=Option.some.inj hb
   subst e1 e2
   exact r
  | succ j=>exact h2 j a b (by simpa using ha) (by simpa using hb)
theorem zml{α β γ δ : Type}{R : α->β->Prop}{S : γ->δ->Prop}{f : α->β->γ}{g : α->β->δ}:∀{l:List α} {m:List β},Paired R l m->(∀a b,R a b->S (f a b) (g a b))->Paired S (List.zipWith f l m) (List.zipWith g l m)
 | [],_,.nil,_=>.nil
 | _::_,_,.cons r t,h=>.cons (h _ _ r) (zml t h)
theorem zke(hc:X.calm=true)(hu:X.A.units+64 < cLine):CallR X (.type "dict") zyj:=by
 intro pins s σ H xs us Q I r h
 obtain⟨a,vs,l,rfl,hH,hd,hnd,hz,q⟩:=h
 obtain⟨u,rfl,r1⟩:=r.one
 cases r1
 obtain⟨z,its,n,rv,hl,e⟩:=I.lstM hH
 obtain⟨qs,eq,pq⟩:=q4u I hd rv
 subst eq
 obtain⟨hlen,hat⟩:=zmm pq
 refine callType_codes (Q₁:=fun obj s₁=>obj=.ref s.heap.objs.size/\s₁ = {s with heap:=s.heap.push {cls:=.type "dict",data:=.dict #[]}}) F.kt_called_dict (F.kt_typeCall_dict_1 _) F.entry_dict_init (kt_code_dict_new _ ⟨rfl,rfl⟩) ?_
 rintro obj s₁ ⟨rfl,rfl⟩
 have hnew:(s.heap.push {cls:=.type "dict",data:=.dict #[]}).DictOfH (tupleKind (z25 X.prog X.w)) s.heap.objs.size []:=Heap.DictOfH.new s.heap
 refine⟨hnew.typeIs,F.args_dict_init_2 _ _,?_⟩
 unfold Builtin.«dict.__init__»
 refine wpAny_bind ?_
 unfold Builtin.Dict.selfAndRest
 refine wpAny_bind (wpAny_notOrdered_dict hnew.typeIs ?_)
 show wpAny _ _ (pure (s.heap.objs.size,[Value.ref a])) _ _ _
 refine wpAny_pure ?_
 show wpAny _ _ (Builtin.Dict.updateFrom "dict.__init__" s.heap.objs.size (.ref a) [] .none) _ _ _
 unfold Builtin.Dict.updateFrom
 have e1:(s.heap.push {cls:=.type "dict",data:=.dict #[]}).get? a=some {cls:=.type "list",data:=.seq (qs.map fun q=>Value.ref q.r).toArray n}:=Heap.get?_push_of_some _ e
 refine wpAny_bind (wpAny_typeOf (T:="list") ⟨_,e1,rfl⟩ ?_)
 rw [if_pos (by decide)]
 refine wpAny_bind (q0c (by simpa using I.ok.hd hc) e1 fun h2 tk2 k2=>?_)
 refine wpAny_ite_split (fun _=>?_) (fun c=>absurd rfl c)
 have e2:=k2 a _ e1
 have eD:=k2 _ _ (Heap.get?_push_size s.heap (o:={cls:=.type "dict",data:=.dict #[]}) rfl)
 have lD:s.heap.objs.size < h2.objs.size:=Heap.lt_size eD
 have la:a < s.heap.objs.size:=Heap.lt_size e
 have hl2:h2.IsList a (qs.map fun q=>Value.ref q.r).toArray:=⟨_,e2,rfl,n,rfl⟩
 refine wpAny_bind (wpAny_rule (wpAny_bind (wpAny_pyIter_list (s:={s with heap:=h2,toks:=tk2}) hl2 (wpAny_pure ⟨plainId_quiet zek _,?_⟩))))
 have W:=(Walks.list (prog:=X.prog) (w:=X.w) (A:=X.A.in1.in1) (by simpa using I.ok.hd hc) h2.objs.size a (Nat.ne_of_lt (Nat.lt_trans la lD)) (qs.map fun q=>Value.ref q.r).toArray).toS
 have hsz:(qs.map fun q=>Value.ref q.r).toArray.size=qs.length:=by simp
 rw [hsz] at W
 have hgq:∀j,j < qs.length->qs[j]?=some (qs.getD j default):=fun j hj=>by
  rw [List.getD_eq_getElem?_getD,List.getElem?_eq_getElem hj]; rfl
 have hgl:∀j,j < qs.length->l[j]?=some (l.getD j ([],.non)):=fun j hj=>by
  rw [List.getD_eq_getElem?_getD,List.getElem?_eq_getElem (by omega)]; rfl
 have ok:∀j,j < qs.length->q17 X H s.heap (l.getD j ([],.non)) (qs.getD j default):=fun j hj=>hat j _ _ (hgl j hj) (hgq j hj)
 have kp:∀b o,s.heap.get? b=some o->(h2.push {cls:=.type "list_iterator",data:=.fields #[.ref a,.int 0 0]}).get? b=some o:=fun b o q=>Heap.get?_push_of_some _ (k2 b o (Heap.get?_push_of_some _ q))
 refine zsf (A:=X.A.in1) (D:=s.heap.objs.size) (rw_:=fun j=>(qs.getD j default).r) (ka:=fun j=>(qs.getD j default).k) (va:=fun j=>(qs.getD j default).u) (ks:=fun j=>(l.getD j ([],.non)).1.map Sum.inl) W ?_ (fun i v hv=>?_) (fun i j hi hj z=>?_) (by omega) (fun j hj=>?_) (by show X.A.units+1+8 < cLine; omega) qs.length 0 _ (Nat.zero_add _) ⟨⟨_,Heap.get?_push_size _ rfl,rfl,rfl⟩,hl2.push _⟩ ?_ (fun j hj=>?_) fun s' mv x=>?_
 ·simp only[List.mem_cons,List.not_mem_nil,or_false,not_or]
  exact⟨Nat.ne_of_lt lD,Nat.ne_of_gt la⟩
 ·have hi:i < qs.length:=by
   refine Classical.byContradiction fun z=>?_
   rw [Array.getElem?_eq_none (by rw [hsz]; omega)] at hv
   cases hv
  have z:(qs.map fun q=>Value.ref q.r)[i]?=some v:=by simpa using hv
  rw [List.getElem?_map,hgq i hi] at z
  exact(Option.some.inj z).symm
 ·have e':(l.getD i ([],Dm.non)).1=(l.getD j ([],Dm.non)).1:=by
   have inj:∀(x y:List Int),x.map (Sum.inl:Int->Key)=y.map Sum.inl->x=y:=by
    intro x
    induction x with
    | nil=>intro y h; cases y with | nil=>rfl | cons _ _=>cases h
    | cons a x ih=>
     intro y h
     cases y with
     | nil=>cases h
     | cons b y=>
      rw [List.map_cons,List.map_cons] at h
      injection h with h1 h2
      injection h1 with h1
      rw [h1,ih y h2]
   exact inj _ _ z
  have hi':i < (l.map (·.1)).length:=by rw [List.length_map]; omega
  have hj':j < (l.map (·.1)).length:=by rw [List.length_map]; omega
  refine(List.getElem_inj (h₀:=hi') (h₁:=hj') hnd).mp ?_
  rw [List.getElem_map,List.getElem_map]
  have a1:=hgl i hi
  have a2:=hgl j hj
  rw [List.getElem?_eq_getElem (by omega)] at a1
  rw [List.getElem?_eq_getElem (by omega)] at a2
  rw [Option.some.inj a1,Option.some.inj a2]
  exact e'
 ·obtain⟨_,_,_,_,⟨o,its,k,g1,_⟩,o2,its2,k2',g2,_⟩:=ok j hj
  have b1:=Heap.lt_size g1
  have b2:=Heap.lt_size g2
  simp only[List.mem_cons,List.not_mem_nil,or_false,not_or]
  exact⟨⟨Nat.ne_of_lt b1,Nat.ne_of_lt (Nat.lt_trans b1 lD)⟩,Nat.ne_of_lt b2,Nat.ne_of_lt (Nat.lt_trans b2 lD)⟩
 ·exact ze1 hnew (fun o z=>Heap.get?_push_of_some _ (k2 _ o z)) fun y hy=>absurd hy (by simp)
 ·obtain⟨_,_,_,_,⟨o,its,k,g1,r1⟩,x2⟩:=ok j hj
  exact⟨⟨o,its,k,kp _ _ g1,r1⟩,zet x2 fun o z=>kp _ o z⟩
 ·obtain⟨h',g',d',tk',os'⟩:=s'
  have z1:g'=s.gens:=mv.gens
  have z2:d'=s.drawn:=mv.drawn
  have z3:os'=s.os:=mv.os
  subst z1 z2 z3
  refine⟨rfl,?_⟩
  have kf:∀b o,s.heap.get? b=some o->h'.get? b=some o:=fun b o q=>by
   have lb:=Heap.lt_size q
   refine mv.heap b o ?_ (kp b o q)
   simp only[List.mem_cons,List.not_mem_nil,or_false,not_or]
   exact⟨Nat.ne_of_lt lb,Nat.ne_of_lt (Nat.lt_trans lb lD)⟩
  obtain⟨oD,es,ep,f1,f2,f3,f4,f5,f6⟩:=x
  have ez:((List.range qs.length).map fun j=>((l.getD j ([],Dm.non)).1.map (Sum.inl:Int->Key),(qs.getD j default).k,(qs.getD j default).u))=List.zipWith (fun(r:Rw2) (q:Prw)=>(r.1.map Sum.inl,q.k,q.u)) l qs:=by
   refine List.ext_getElem (by simp; omega) fun j h1 h2=>?_
   have hj:j < qs.length:=by simpa using h1
   have a1:=hgl j hj
   have a2:=hgq j hj
   rw [List.getElem?_eq_getElem (by omega)] at a1
   rw [List.getElem?_eq_getElem hj] at a2
   rw [List.getElem_map,List.getElem_range,List.getElem_zipWith,Option.some.inj a1,Option.some.inj a2]
  rw [ez] at f4 f6
  refine⟨.ref s.heap.objs.size,_,I.laid (t':=tk') kf (Nat.le_refl _) (show ObjOk X.prog X.w _ _ _ (.dT (List.zipWith (fun(r:Rw2) (q:Prw)=>(r.1.map Sum.inl,q.x)) l qs)) from⟨?_,?_,_,?_,oD,es,ep,f1,f2,f3,f4,f6⟩),rfl,q _ _ (I.hok.fresh (Nat.le_refl _)) ?_⟩
  ·rw [List.length_zipWith]
   exact q4n (by omega)
  ·have:=I.big
   exact beq_eq_false_iff_ne.mpr (Nat.ne_of_gt this)
  ·refine zml pq fun r q ok=>⟨rfl,?_,ok.2.2.2.1⟩
   rw [z0a (Nat.ne_of_lt (I.hok _ _ ok.2.1).lt),ok.2.1,List.map_map]
   rfl
  ·have key:∀{l:List Rw2} {qs:List Prw},Paired (q17 X H s.heap) l qs->Paired (fun(kv:List Key×V) (r:Rw2)=>kv.1=r.1.map Sum.inl/\Dt H kv.2 r.2) (List.zipWith (fun(r:Rw2) (q:Prw)=>(r.1.map Sum.inl,q.x)) l qs) l:=by
    intro l qs pq
    induction pq with
    | nil=>exact .nil
    | cons r t ih=>exact .cons ⟨rfl,r.2.2.1⟩ ih
   exact key pq
end
def zjq(td:TE):TE:=fun σ H Q=>td σ H fun x H1=>zhz x [] H1 Q
theorem zqo{X:Cx}{o:Expr}{apos cpos:Pos}{td:TE}(ho:PE X o td) (hbase:attributeBase o "items" X.env (eval o X.env)=eval o X.env:=by rfl)
  (hfew:((backTo cpos (starEach [] X.env)).all (fun x=>!x.1) && (backToKw cpos (keywordEach [] X.env)).all (fun x=>x.1.isSome)
   && decide (([]:List Expr).length+([]:List Keyword).length+(if([]:List Keyword).isEmpty then 0 else 1) < 30))=true:=by rfl)
  (hline:(apos.endLine == cpos.line)=true:=by rfl):PE X (.Call (.Attribute o "items" apos) [] [] cpos) (zjq td):=by
 intro pins s σ H Q I h
 refine wpAny_Call_method hbase hfew hline PySem.F.plainAttrs_dict PySem.F.slot_dict_items PySem.F.type_dict_items (thn (ho pins s σ H _ I h) fun u s1 ⟨x,H1,I1,rx,q1⟩=>?_)
 obtain⟨d,kvs,rfl,_,hH,q⟩:=q1
 obtain rfl:u=Value.ref d:=rx
 obtain⟨t1,t2,_⟩:=zyv I1 (.inl ⟨kvs,.inl hH⟩)
 refine⟨t1,t2,?_⟩
 refine Calls.callWith_builtin rfl (PyProof.Rows.evalArgs_nil3 ?_)
 exact zxd pins s1 σ H1 (.ref d) [] (.ref d) [] Q I1 rfl .nil ⟨d,kvs,rfl,rfl,hH,q⟩
def ztk(i j k:Nat)(ta:TA):TS:=fun D σ H=>ta σ H fun vs H1=>∃u v w,vs=[u,v,w]/\D.nx (((σ.set i (some u)).set j (some v)).set k (some w)) H1
end L2
set_option Elab.async false
set_option linter.all false
set_option maxRecDepth 100000
namespace L2
open PySem PySem.Spec PyProof.Rows
def zax(c:Addr)(q:Str):HO:=.ext fun h=>h.CodeRec (.ref c) q
structure LamD where
 qual:Str
 params:Arguments
 body:Expr
 scope:Scope
def zoc(D:LamD)(cl:List (Str×Addr))(f c':Addr):HO:=.ext fun h=>∃pm ctv,h.get? f=some (PySem.W.kla_obj "<lambda>" D.qual D.params D.body D.scope cl pm c' ctv)
def q1e(P:Addr)(pos:Pos)(D:LamD)(cl:List (Str×Addr)):TE:=fun σ H Q=>∃ps,H P=some (.tbl ps)/\TriplesOk ps.toList/\
  ((codeAmong pos ps.toList=none/\∀c' f,H c'=none->H f=none->c'≠f->Q (.ref f) (upd (upd (upd H P (.tbl (ps ++ #[rawInt pos.line,rawInt pos.col,.ref c']))) c' (zax c' D.qual)) f (zoc D cl f c')))\/
   (∃c',codeAmong pos ps.toList=some (.ref c')/\H c'=some (zax c' D.qual)/\∀f,H f=none->Q (.ref f) (upd H f (zoc D cl f c'))))
section
variable{X:Cx}
theorem zqn{params:Arguments}{body:Expr}{scope:Scope}{pos:Pos}{c P:Addr}{cl:List (Str×Addr)}(hdef:defaultsOf params X.env=([],[]))(hcl:closureFor scope X.env=pure cl)(hcode:X.env.code=.ref c)(C:PySem.W.CodeHd X.base c P)(hB:X.base.BuiltinsAt X.mg P)(hgP:mainGlobals≠P) :
  PE X (.Lambda params body scope pos) (q1e P pos ⟨X.env.qual ++ "<lambda>",params,body,scope⟩ cl):=by
 intro pins s σ H Q I h
 obtain⟨ps,hP,ht,h⟩:=h
 have C':PySem.W.CodeHd s.heap c P:=C.keeps I.bk
 have hb:s.heap.BuiltinsAt X.mg P:=by
  obtain⟨bm,ob,a1,a2,a3,a4,a5,a6⟩:=hB
  exact⟨bm,ob,a1,a2,a3,a4,I.bk _ _ a5,a6⟩
 have hg:s.heap.Ns mainGlobals X.mg:=I.mod.glob.keeps I.bk
 have hPo:s.heap.get? P=some (PySem.W.tabObj ps):=I.hok P _ hP
 refine PySem.W.kla_eval hdef ?_
 rcases h with⟨hnf,h⟩ | ⟨c',hf,hc',h⟩
 ·refine PySem.W.kla_makeFunction hcl I.ok.glob hg hcode C' hPo ht hnf hgP hb fun c' ctv h' tk hx hge hlt hrec htb=>?_
  have hcn:H c'=none:=I.hok.fresh hge
  have hsz:s.heap.objs.size<=h'.objs.size:=Nat.le_of_lt (Nat.lt_of_le_of_lt hge hlt)
  have hfn:H h'.objs.size=none:=I.hok.fresh hsz
  have hne:c'≠h'.objs.size:=Nat.ne_of_lt hlt
  have hPc:P≠c':=z0d hP hcn
  have hPf:P≠h'.objs.size:=z0d hP hfn
  have q:=h c' h'.objs.size hcn hfn hne
  generalize hH:upd (upd (upd H P (.tbl (ps ++ #[rawInt pos.line,rawInt pos.col,.ref c']))) c' (zax c' (X.env.qual ++ "<lambda>"))) h'.objs.size (zoc ⟨X.env.qual ++ "<lambda>",params,body,scope⟩ cl h'.objs.size c')=H' at q
  have far:∀b,b≠P->b≠c'->b≠h'.objs.size->H' b=H b:=fun b h1 h2 h3=>by
   rw [<- hH,z0a h3,z0a h2,z0a h1]
  have atP:H' P=some (.tbl (ps ++ #[rawInt pos.line,rawInt pos.col,.ref c'])):=by rw [<- hH,z0a hPf,z0a hPc,z01]
  have old:∀b u,H b=some u->b≠P->H' b=some u:=fun b u e n=>(far b n (z0d e hcn) (z0d e hfn)).trans e
  have kp:∀b o,b≠P->s.heap.get? b=some o->(h'.push (PySem.W.kla_obj "<lambda>" (X.env.qual ++ "<lambda>") params body scope cl ((X.mg "__name__").getD .none) c' ctv)).get? b=some o:=fun b o n e=>Heap.get?_push_of_some _ (hx b o n e)
  have nP:∀b,H b=none->b≠P:=fun b e z=>by rw [z,hP] at e; cases e
  refine⟨.ref h'.objs.size,H',I.un (t':=tk) ⟨fun b o e n _ _=>kp b o (nP b n) e,fun b o e n _ _=>⟨o.slots,kp b o (nP b n) e⟩,fun b o e n _=>?_,fun b o e _=>?_,fun b xs e=>old b _ e fun z=>(by rw [z,hP] at e; cases e),fun b o u e=>old b _ e fun z=>(by rw [z,hP] at e; cases e),fun b qs e=>?_⟩ fun b u e=>?_,rfl,q⟩
  ·have hlt':=Heap.lt_size e
   rw [far b (nP b n) (Nat.ne_of_lt (Nat.lt_of_lt_of_le hlt' hge)) (Nat.ne_of_lt (Nat.lt_of_lt_of_le hlt' hsz))]
   exact n
  ·by_cases hb':b=P
   ·exact⟨_,by rw [hb']; exact Heap.get?_push_of_some _ htb⟩
   ·exact⟨o,kp b o hb' e⟩
  ·by_cases hb':b=P
   ·rw [hb',hP] at e
    cases e
    exact⟨_,by rw [hb']; exact atP⟩
   ·exact⟨#[],by rw [old b _ e hb']; simp⟩
  ·by_cases h3:b=h'.objs.size
   ·have e':=e
    rw [<- hH,h3,z01] at e'
    cases e'
    rw [h3]
    exact⟨⟨_,_,Heap.get?_push_size _ rfl⟩,⟨_,Heap.get?_push_size _ rfl⟩,fun h1 h2 ⟨pm,ct,z⟩ k=>⟨pm,ct,k _ z⟩⟩
   ·by_cases h2:b=c'
    ·have e':=e
     rw [<- hH,h2,z0a hne,z01] at e'
     cases e'
     rw [h2]
     obtain⟨c₂,oc,vs,t,e2,hoc,hd,hv⟩:=hrec
     cases e2
     exact⟨⟨_,oc,vs,t,rfl,Heap.get?_push_of_some _ hoc,hd,hv⟩,⟨oc,Heap.get?_push_of_some _ hoc⟩,fun h1 h2 ⟨c3,oc,vs,t,e3,z,zd,zv⟩ k=>by cases e3; exact⟨_,oc,vs,t,rfl,k _ z,zd,zv⟩⟩
    ·by_cases h1:b=P
     ·rw [h1,atP] at e
      cases e
      rw [h1]
      exact Heap.get?_push_of_some _ htb
     ·rw [far b h1 h2 h3] at e
      refine(I.hok b u e).stay (fun d v hd e'=>kp d v ?_ e') (fun d e'=>old d _ e' fun z=>(by rw [z,hP] at e'; cases e')) fun d xs e'=>old d _ e' fun z=>(by rw [z,hP] at e'; cases e')
      rcases hd with hd | hd
      ·rw [hd]; exact h1
      ·exact fun z=>by rw [z,hP] at hd; cases hd
 ·refine PySem.W.kla_makeFunctionHit hcl I.ok.glob hg hcode C' hPo ht hf hb fun ctv h' tk hk hsz=>?_
  have hfn:H h'.objs.size=none:=I.hok.fresh hsz
  refine⟨.ref h'.objs.size,upd H h'.objs.size _,I.laid (t':=tk) (fun b u e=>Heap.get?_push_of_some _ (hk b u e)) hsz ?_,rfl,h _ hfn⟩
  exact⟨⟨_,_,Heap.get?_push_size _ rfl⟩,⟨_,Heap.get?_push_size _ rfl⟩,fun h1 h2 ⟨pm,ct,z⟩ k=>⟨pm,ct,k _ z⟩⟩
end
def z3w(c:Addr)(o:Obj):HO:=.ext fun h=>h.get? c=some o
def zeu(cs:List Addr)(H:Hp):Hp:=fun b=>if b∈cs then none else H b
def zcq(cs:List Addr)(H H':Hp):Hp:=fun b=>if b∈cs then H b else H' b
theorem z7u{cs:List Addr}{H:Hp}{b:Addr}(h:b∈cs):zeu cs H b=none:=by unfold zeu; rw [if_pos h]
theorem z1d{cs:List Addr}{H:Hp}{b:Addr}(h:b∉cs):zeu cs H b=H b:=by unfold zeu; rw [if_neg h]
theorem zj2{cs:List Addr}{H H':Hp}{b:Addr}(h:b∈cs):zcq cs H H' b=H b:=by unfold zcq; rw [if_pos h]
theorem z5o{cs:List Addr}{H H':Hp}{b:Addr}(h:b∉cs):zcq cs H H' b=H' b:=by unfold zcq; rw [if_neg h]
theorem z59{cs:List Addr}{H:Hp}{b:Addr}(h:H b=none):zeu cs H b=none:=by
 by_cases hb:b∈cs
 ·exact z7u hb
 ·rw [z1d hb]; exact h
theorem zv9{cs:List Addr}{H:Hp}{b:Addr}{u:HO}(h:zeu cs H b=some u):b∉cs/\H b=some u:=by
 by_cases hb:b∈cs
 ·rw [z7u hb] at h; cases h
 ·exact⟨hb,by rw [z1d hb] at h; exact h⟩
def AreCells(cs:List Addr)(H:Hp):Prop:=∀c∈cs,∃o,H c=some (z3w c o)
theorem AreCells.not{cs:List Addr}{H:Hp}(h:AreCells cs H){b:Addr}{u:HO}(e:H b=some u)(n:∀o,u≠z3w b o):b∉cs:=fun hb=>by
 obtain⟨o,q⟩:=h b hb
 rw [e] at q
 cases q
 exact n o rfl
theorem HOk.hid{P:Program}{w:World}{H:Hp}{h:Heap}{cs:List Addr}(x:HOk P w H h)(k:AreCells cs H):HOk P w (zeu cs H) h:=fun a o e=>by
 obtain⟨_,e'⟩:=zv9 e
 refine(x a o e').stay (fun _ _ _ q=>q) (fun b q=>?_) fun b xs q=>?_
 ·rw [z1d (k.not q fun o=>by unfold z3w; intro z; cases z)]; exact q
 ·rw [z1d (k.not q fun o=>by unfold z3w; intro z; cases z)]; exact q
theorem HOk.ret{P:Program}{w:World}{H H':Hp}{h h':Heap}{cs:List Addr}(x:HOk P w H h)(x':HOk P w H' h')(k:AreCells cs H)(hn:∀c∈cs,H' c=none)(kp:∀c∈cs,∀o,h.get? c=some o->h'.get? c=some o):HOk P w (zcq cs H H') h':=fun a o e=>by
 have out:∀{b:Addr} {u:HO},H' b=some u->zcq cs H H' b=some u:=fun {b u} e=>by rw [z5o fun hb=>by rw [hn b hb] at e; cases e]; exact e
 by_cases ha:a∈cs
 ·rw [zj2 ha] at e
  obtain⟨ob,q⟩:=k a ha
  rw [q] at e
  cases e
  obtain⟨z,_,st⟩:=x a _ q
  exact⟨kp a ha _ z,⟨_,kp a ha _ z⟩,st⟩
 ·rw [z5o ha] at e
  exact(x' a o e).stay (fun _ _ _ q=>q) (fun b q=>out q) fun b xs q=>out q
theorem Un.ret{fs:List Addr}{H H':Hp}{h h':Heap}{cs:List Addr}(u:Un fs [] (zeu cs H) H' h h')(k:AreCells cs H):Un fs [] H (zcq cs H H') h h':=by
 have nc:∀{b:Addr},H b=none->b∉cs:=fun {b} n hb=>by
  obtain⟨o,q⟩:=k b hb
  rw [n] at q; cases q
 refine⟨fun b o e n hb hx=>u.keep b o e (z59 n) hb hx,fun b o e n hb hx=>u.slot b o e (z59 n) hb hx,fun b o e n hx=>?_,u.there,fun b xs e=>?_,fun b o v e=>?_,fun b ps e=>?_⟩
 ·rw [z5o (nc n)]
  exact u.free b o e (z59 n) hx
 ·have nb:=k.not e fun o=>by unfold z3w; intro z; cases z
  rw [z5o nb]
  exact u.tups b xs (by rw [z1d nb]; exact e)
 ·have nb:=k.not e fun o=>by unfold z3w; intro z; cases z
  rw [z5o nb]
  exact u.frzs b o v (by rw [z1d nb]; exact e)
 ·have nb:=k.not e fun o=>by unfold z3w; intro z; cases z
  rw [z5o nb]
  exact u.tbls b ps (by rw [z1d nb]; exact e)
structure LamScope(ps fr:List Str)(cl:List (Str×Addr))(sc:Scope):Prop where
 kind:sc.kind=.function
 co:sc.isCoroutine=false
 gen:sc.isGenerator=false
 nd:(ps++fr).Nodup
 par:∀x∈ps,sc.names.lookup x=some .local
 free:∀x∈fr,sc.names.lookup x=some .free
 nocell:∀y∈sc.names,y.2≠.cell
 has:∀y∈sc.names,y.2=.free->∃c,cl.lookup y.1=some c
 inj:∀x y c,cl.lookup x=some c->cl.lookup y=some c->x=y
 look:∀x c,(x,c)∈cl->cl.lookup x=some c
def cxL(P:Program)(w:World)(K:PySem.W.Frag)(mg:Str->Option Value)(base:Heap)(N:List Str)(D:LamD)(cl:List (Str×Addr))(f c':Addr)(A:Around)(outer:List PySem.Env)(s:Shared)(H:Hp)(E:XK):Cx where
 prog:=P
 w:=w
 K:=K
 mg:=mg
 base:=base
 A:=A.deeper (PySem.W.envX D.qual D.scope s.heap.objs.size f (.ref c') cl)
 N:=N
 s₀:=s
 H₀:=zeu (cl.map (·.2)) H
 env:=PySem.W.envX D.qual D.scope s.heap.objs.size f (.ref c') cl
 outer:=outer
 stack:=PySem.W.envX D.qual D.scope s.heap.objs.size f (.ref c') cl::outer
 ex:=[]
 calm:=true
 fn:=fun _=>false
 pn:=[]
 xe:=fun e s'=>wpAny (model P w) (A.deeper (PySem.W.envX D.qual D.scope s.heap.objs.size f (.ref c') cl)) (leaving (PySem.W.envX D.qual D.scope s.heap.objs.size f (.ref c') cl) e) (fun _ s''=>CX0 outer H s E e s'') (fun e' s''=>CX0 outer H s E e' s'') s'
theorem zk2{x:Str}{v:Value}:∀{ps:List Str} {us:List Value} {i:Nat},ps.Nodup->ps[i]?=some x->us[i]?=some v->(ps.zip us).lookup x=some v
 | [],_,_,_,h,_=>by simp at h
 | _::_,[],_,_,_,h=>by simp at h
 | p::ps,u::us,0,nd,h1,h2=>by
  simp at h1 h2; subst h1; subst h2
  simp[List.zip_cons_cons,List.lookup]
 | p::ps,u::us,i+1,nd,h1,h2=>by
  have hn:=List.nodup_cons.mp nd
  have h1':ps[i]?=some x:=by simpa using h1
  have hne:(x == p)=false:=by
   rw [beq_eq_false_iff_ne]
   rintro rfl
   exact hn.1 (List.mem_of_getElem? h1')
  rw [List.zip_cons_cons,List.lookup,hne]
  exact zk2 hn.2 h1' (by simpa using h2)
theorem zsv{x:Str}{v:Value}{ps:List Str}{us:List Value}{i:Nat}(nd:ps.Nodup)(hl:ps.length=us.length)(h1:ps[i]?=some x)(h2:us[i]?=some v):(ps.zip us).reverse.lookup x=some v:=by
 have e:(ps.zip us).reverse=ps.reverse.zip us.reverse:=by
  apply List.ext_getElem?
  intro j
  simp[List.zip,List.reverse_zipWith hl]
 have hi:i < ps.length:=(List.getElem?_eq_some_iff.mp h1).1
 rw [e]
 refine zk2 (i:=ps.length - 1 - i) (by unfold List.Nodup; rw [List.pairwise_reverse]; exact nd.imp Ne.symm) ?_ ?_
 ·rw [List.getElem?_reverse (by omega)]
  rw [show ps.length - 1 - (ps.length - 1 - i)=i by omega]
  exact h1
 ·rw [List.getElem?_reverse (by omega)]
  rw [show us.length - 1 - (ps.length - 1 - i)=i by omega]
  exact h2
theorem zv6{P:Program}{w:World}{K:PySem.W.Frag}{mg:Str->Option Value}{base:Heap}{ps fr:List Str}{D:LamD}{cl:List (Str×Addr)}{f c':Addr}{A:Around}{outer:List PySem.Env}{s:Shared}{h1:Heap}{tk:Nat}{H:Hp}{E:XK}{us:List Value}{vs ws:List V}
  (S:LamScope ps fr cl D.scope) (hd:A.handled=none) (e0:Env0 P w K mg base A outer s H) (hl:vs.length=ps.length) (r:Vals vs us) (hlw:ws.length=fr.length)
  (cells:∀c∈cl.map (·.2),∃o x,H c=some (z3w c o)/\o.data=.cell x)
  (hw:∀(i:Nat) (x:Str) (v:V),fr[i]?=some x->ws[i]?=some v->∃c o u,cl.lookup x=some c/\H c=some (z3w c o)/\o.data=.cell (some u)/\RelV v u)
  (hns:h1.Ns s.heap.objs.size fun x=>(ps.zip us).reverse.lookup x) (hk:∀b o,s.heap.get? b=some o->h1.get? b=some o) :
  Inv (cxL P w K mg base (ps++fr) D cl f c' A outer s H E) [] ((vs++ws).map some) (zeu (cl.map (·.2)) H) {s with heap:=h1,toks:=tk}:=by
 have ac:AreCells (cl.map (·.2)) H:=fun c hc=>by
  obtain⟨o,_,q,_⟩:=cells c hc
  exact⟨o,q⟩
 have inC:∀{x:Str} {c:Addr},cl.lookup x=some c->c∈cl.map (·.2):=fun {x c} h=>List.mem_map.mpr ⟨(x,c),PySem.mem_of_lookup h,rfl⟩
 have noA:∀b:Addr,b∉(cxL P w K mg base (ps++fr) D cl f c' A outer s H E).ex:=fun b z=>absurd (show b∈([]:List Addr) from z) (by simp)
 have isC:∀{c:Addr} {o:Obj},H c=some (z3w c o)->s.heap.get? c=some o:=fun q=>(e0.hok _ _ q).1
 refine⟨⟨e0.mod,S.kind,rfl,rfl,Nat.le_refl _,fun y z c h1 h2=>S.inj y z c h1 h2,fun y hy=>?_,fun y c h=>Bool.noConfusion (show false=true from h),fun _=>hd,Around.frames_deeper e0.frames,.inr ⟨rfl,rfl⟩,fun b z=>absurd z (noA b),fun b o e=>⟨(e0.bs b o e).1,z59 (e0.bs b o e).2⟩,e0.bsz,fun b _ _=>noA b,fun b z=>absurd z (noA b),e0.funs,fun b hb=>z59 (e0.frf b hb)⟩,
  rfl,e0.bare,Un.kept hk,⟨_,hns,fun i y v h1 h2 h3=>?_⟩,fun y c h=>?_,z59 (e0.hok.fresh (Nat.le_refl _)),fun y c h=>z7u (inC h),fun p hp=>absurd (show p∈([]:List (Addr×Obj)) from hp) (by simp),(e0.hok.hid ac).kept hk,?_⟩
 ·have hy:D.scope.names.lookup y=some .cell\/D.scope.names.lookup y=some .free:=hy
  rcases hy with hy | hy
  ·exact absurd rfl (S.nocell _ (PySem.mem_of_lookup hy))
  ·exact S.has _ (PySem.mem_of_lookup hy) rfl
 ·have h1':(ps++fr)[i]?=some y:=h1
  rw [List.getElem?_map] at h2
  by_cases hi:i < ps.length
  ·rw [List.getElem?_append_left hi] at h1'
   rw [List.getElem?_append_left (by omega)] at h2
   cases ev:vs[i]? with
   | none=>rw [ev] at h2; cases h2
   | some a=>
    rw [ev] at h2
    cases h2
    obtain⟨u,hu,rv⟩:=r.get ev
    exact⟨u,rv,.inl ⟨S.par y (List.mem_of_getElem? h1'),zsv (List.nodup_append.mp S.nd).1 (by rw [<- hl,r.length]) h1' hu⟩⟩
  ·rw [List.getElem?_append_right (by omega)] at h1'
   rw [List.getElem?_append_right (by omega),hl] at h2
   cases ev:ws[i - ps.length]? with
   | none=>rw [ev] at h2; cases h2
   | some a=>
    rw [ev] at h2
    cases h2
    obtain⟨c,o,u,hc,q,hd',rv⟩:=hw _ _ _ h1' ev
    exact⟨u,rv,.inr ⟨.inr (S.free y (List.mem_of_getElem? h1')),c,hc,o,hk _ _ (isC q),hd'⟩⟩
 ·obtain⟨o,x,q,hd'⟩:=cells c (inC h)
  exact⟨x,o,hk _ _ (isC q),hd'⟩
 ·show _=(ps++fr).length
  rw [List.length_map,List.length_append,List.length_append,hl,hlw]
theorem zux{P:Program}{w:World}{K:PySem.W.Frag}{mg:Str->Option Value}{base:Heap}{k:Nat}{ps fr:List Str}{D:LamD}{cl:List (Str×Addr)}{f c':Addr}{A:Around}{outer:List PySem.Env}{s:Shared}{H:Hp}{us:List Value}{vs ws:List V}{Q:VK}
  (S:LamScope ps fr cl D.scope) (hr:Room (k+1) A) (e0:Env0 P w K mg base A outer s H) (hf:H f=some (zoc D cl f c')) (hc:H c'=some (zax c' D.qual)) (hl:vs.length=ps.length) (r:Vals vs us) (hlw:ws.length=fr.length)
  (cells:∀c∈cl.map (·.2),∃o x,H c=some (z3w c o)/\o.data=.cell x)
  (hw:∀(i:Nat) (x:Str) (v:V),fr[i]?=some x->ws[i]?=some v->∃c o u,cl.lookup x=some c/\H c=some (z3w c o)/\o.data=.cell (some u)/\RelV v u)
  (hbind:∀fd:FuncData,fd.params=D.params->fd.defaults=.none->fd.kwdefaults=.none->fd.scope=D.scope->bindArgs fd ⟨us,[]⟩=pure (ps.zip us))
  (hbody:Room k (A.deeper (PySem.W.envX D.qual D.scope s.heap.objs.size f (.ref c') cl))->∃t,PE (cxL P w K mg base (ps++fr) D cl f c' A outer s H E0) D.body t/\t ((vs++ws).map some) (zeu (cl.map (·.2)) H) fun v H'=>(∀c∈cl.map (·.2),H' c=none)->Q v (zcq (cl.map (·.2)) H H')) :
  codeAny (model P w) A (.call (.ref f) ⟨us,[]⟩) (CR CX0 outer P w H s Q E0) s:=by
 obtain⟨⟨pm,ctv,hfo⟩,_⟩:=e0.hok f _ hf
 obtain⟨hcr,_⟩:=e0.hok c' _ hc
 have ac:AreCells (cl.map (·.2)) H:=fun c hc=>by
  obtain⟨o,_,q,_⟩:=cells c hc
  exact⟨o,q⟩
 have lim:s.heap.NoLimit:=e0.mod.nolimit.keeps fun b o e=>(e0.bs b o e).1
 refine PySem.W.kla_callFunE hr.depth hfo rfl S.co S.gen rfl hcr ?_
 rw [hbind _ rfl rfl rfl rfl]
 refine wpAny_pure (wpAny_newFunctionEnv S.nocell (fun y hy=>S.par _ (List.of_mem_zip hy).1) (fun h₁ hns hsb=>⟨lim.fresh _ hsb,?_⟩) S.kind)
 show codeAny _ _ (.expr D.body (PySem.W.envX D.qual D.scope s.heap.objs.size f (.ref c') cl)) _ _
 have hk₁:∀b o,s.heap.get? b=some o->h₁.get? b=some o:=fun b o e=>hsb.extBut b o (Nat.ne_of_lt (Heap.lt_size e)) (Heap.get?_push_of_some _ e)
 obtain⟨t,ht,q⟩:=hbody (hr.deeper _)
 have I:=zv6 (K:=K) (f:=f) (c':=c') (E:=E0) (tk:=s.toks+(ps.zip us).length) S hr.hd e0 hl r hlw cells hw hns hk₁
 refine PySem.W.kla_codeExpr (wpAny_mono (ht [] _ _ _ _ I q) (fun u s' hs=>?_) fun e s' hs=>hs)
 obtain⟨v,H',J,rv,qv⟩:=hs
 have nC:∀c∈cl.map (·.2),H' c=none:=fun c hc=>by
  obtain⟨⟨x,c2⟩,hm,rfl⟩:=List.mem_map.mp hc
  exact J.freeC x c2 (S.look x c2 hm)
 replace qv:=qv nC
 refine⟨v,zcq (cl.map (·.2)) H H',J.os,J.bare,Un.ret (cs:=cl.map fun x=>x.2) (H:=H) J.base ac,HOk.ret e0.hok J.hok ac nC fun c hc o e=>?_,rv,qv⟩
 refine J.base.keep c o e (z7u hc) (fun z=>?_) (by show c∉([]:List Addr); simp)
 obtain⟨o',q'⟩:=ac c hc
 have:=e0.frf c z
 rw [q'] at this
 cases this
def q1n(P:Program)(w:World)(K:PySem.W.Frag)(mg:Str->Option Value)(base:Heap)(k:Nat)(f:Addr)(H:Hp)(vs:List V)(Q:VK):Prop:=
 ∀(A:Around) (outer:List PySem.Env) (s:Shared) (us:List Value),Room k A->Env0 P w K mg base A outer s H->Vals vs us->codeAny (model P w) A (.call (.ref f) ⟨us,[]⟩) (CR CX0 outer P w H s Q E0) s
def IsLam(H:Hp)(f:Addr):Prop:=∃D cl c',H f=some (zoc D cl f c')
theorem IsLam.at{X:Cx}{pins:List (Addr×Obj)}{σ : St}{H:Hp}{s:Shared}{f:Addr}(h:IsLam H f)(I:Inv X pins σ H s):PySem.W.FnAt f s.heap:=by
 obtain⟨D,cl,c',e⟩:=h
 obtain⟨⟨pm,ctv,q⟩,_⟩:=I.hok f _ e
 exact⟨_,_,_,_,q⟩
def zjs(R:Addr->Hp->List V->VK->Prop)(i:Nat)(t:TA):TE:=fun σ H Q=>∃f,σ[i]?=some (some (.ref f))/\IsLam H f/\t σ H fun vs H1=>IsLam H1 f/\R f H1 vs Q
theorem zhc{X:Cx}{x:Str}{i k j:Nat}{e:Expr}{es:List Expr}{t:TA}{p pos:Pos}(hN:X.N[i]?=some x)(hv:Vis X.env.scope x)(hr:Room j X.A)(hk:k<=j)(ha:PA X (e::es) t)
  (hd:(x == ("__debug__" : Str))=false:=by decide) (hcd:(x == ("__classdict__" : Str))=false:=by decide) (hst:z1z (e::es)=true:=by rfl) :
  PE X (.Call (.Name x p) (e::es) [] pos) (zjs (q1n X.prog X.w X.K X.mg X.base k) i t):=by
 have hst':=hst
 rw [z1z,Bool.and_eq_true,Bool.not_eq_true'] at hst'
 have he:=z0r (es:=es) (env:=X.env) hst'.1
 have hpl:=z1y (pos:=pos) (env:=X.env) hst'.2
 intro pins s σ H Q I h
 obtain⟨f,ei,hl,h⟩:=h
 refine wpAny_Call_Name_kw (thn (z00 (pos:=p) hN hv hd hcd pins s σ H (fun x' H'=>x'=.ref f/\IsLam H' f/\t σ H' fun vs H1=>IsLam H1 f/\q1n X.prog X.w X.K X.mg X.base k f H1 vs Q) I ⟨_,ei,rfl,hl,h⟩) fun u s0 ⟨x',H',I',r',ex,hl',h'⟩=>?_)
 subst ex
 cases r'
 refine PySem.W.callWith_F (first:=[]) (hl'.at I') (thn (ha pos pins s0 σ H' _ I' h') fun us s1 ⟨vs,H1,I1,r,hl1,q⟩=>⟨hl1.at I1,?_⟩) he hpl
 refine wpAny_call (codeAny_mono (q X.A X.stack s1 us (hr.mono hk) I1.env0 r) fun r s' hq=>?_)
 cases r with
 | error e=>exact False.elim hq
 | ok fl=>
  cases fl with
  | ret u=>exact I1.after hq
  | next=>exact False.elim hq
  | brk=>exact False.elim hq
  | cont=>exact False.elim hq
def zhp(sp:Sp)(c:Addr)(i:Nat)(t:TA):TE:=fun σ H Q=>t σ H fun vs H1=>∃v,σ[i]?=some (some v)/\∀o u,o.data=.cell (some u)->RelV v u->H1 c=none->sp vs (upd H1 c (z3w c o)) (fun y H2=>H2 c=some (z3w c o)/\Q y (zeu [c] H2)) E0
theorem zub{X:Cx}{x y:Str}{c:Addr}{ps:List Str}{i k j:Nat}{sp:Sp}{e:Expr}{es:List Expr}{t:TA}{p pos:Pos}(C:Callee X.prog X.w X.K X.mg X.base x ps k sp)(hr:Room j X.A)(hk:k<=j)(ha:PA X (e::es) t)
  (hN:X.N[i]?=some y) (hc:X.env.cells.lookup y=some c) (hy:X.env.kindOf y=some .cell) (hfn:X.fn y=true) (hg:Gl X x:=by rfl)
  (hdb:(x == ("__debug__" : Str))=false:=by decide) (hst:z1z (e::es)=true:=by rfl) :
  PE X (.Call (.Name x p) (e::es) [] pos) (zhp sp c i t):=by
 have hst':=hst
 rw [z1z,Bool.and_eq_true,Bool.not_eq_true'] at hst'
 have he:=z0r (es:=es) (env:=X.env) hst'.1
 have hpl:=z1y (pos:=pos) (env:=X.env) hst'.2
 obtain⟨f,fd,F,hm,hkp,hb⟩:=C
 intro pins s σ H Q I h
 refine wpAny_Call_Name_kw (z92 I hg hm ?_ hdb)
 refine PySem.W.callWith_K (h₀:=X.base) I.ok.mod.kin hkp (thn (ha pos pins s σ H _ I h) fun us s1 ⟨vs,H1,I1,r,v,ei,q⟩=>⟨I1.kIn,?_⟩) he hpl
 obtain⟨m,hn,hl⟩:=id I1.loc
 obtain⟨u,ru,l⟩:=hl i y v hN ei (.inr (.inl hy))
 have hcell:s1.heap.IsCell c (some u):=by
  rcases l with⟨hk',_⟩ | ⟨_,c2,e2,z⟩
  ·rw [hy] at hk'; cases hk'
  ·rw [hc] at e2; cases e2; exact z
 obtain⟨o,ho,hd⟩:=hcell
 have hcn:H1 c=none:=I1.freeC y c hc
 have q':=q o u hd ru hcn
 have hH:HOk X.prog X.w (upd H1 c (z3w c o)) s1.heap:=fun b w e=>by
  by_cases hb:b=c
  ·subst hb
   rw [z01] at e
   cases e
   exact⟨ho,⟨o,ho⟩,fun h1 h2 z k=>k _ z⟩
  ·rw [z0a hb] at e
   exact(I1.hok b w e).stay (fun _ _ _ q=>q) (fun d z=>by rw [z0a (z0d z hcn)]; exact z) fun d xs z=>by rw [z0a (z0d z hcn)]; exact z
 have cfs:c∉frs X.stack:=fun z=>by
  rcases List.mem_cons.mp (I1.stkSub c z) with z | z
  ·exact I1.cne y c hc z
  ·obtain⟨_,ob,hob,_⟩:=I1.ok.funs.mem z
   exact absurd (Nat.lt_of_lt_of_le (Heap.lt_size hob) (I1.ok.cab y c hfn hc)) (Nat.lt_irrefl _)
 have e0:Env0 X.prog X.w X.K X.mg X.base X.A X.stack s1 (upd H1 c (z3w c o)):=by
  have z:=I1.env0
  refine⟨z.frames,z.mod,fun b ob e=>⟨(z.bs b ob e).1,?_⟩,z.bsz,z.funs,fun b hb=>?_,hH,z.bare⟩
  ·rw [z0a fun w=>?_]
   ·exact(z.bs b ob e).2
   ·subst w
    have:=Heap.lt_size (I1.ok.bs b ob e).1
    exact absurd (Nat.lt_of_lt_of_le this (I1.ok.cab y b hfn hc)) (Nat.lt_irrefl _)
  ·rw [z0a fun w=>cfs (by rw [<- w]; exact hb)]
   exact z.frf b hb
 have hln:us.length=ps.length:=by rw [<- r.length]; exact F.len _ _ _ _ q'
 have hbd:=hb s1 us I1.kIn (by rw [List.append_nil]; exact hln)
 rw [List.append_nil] at hbd
 refine wpAny_call (codeAny_mono (F.run X.A X.stack s1 _ ⟨us,[]⟩ us vs _ E0 (hr.mono hk) e0 hbd r q') fun r s' hq=>?_)
 cases r with
 | error e=>exact False.elim hq
 | ok fl=>
  cases fl with
  | next=>exact False.elim hq
  | brk=>exact False.elim hq
  | cont=>exact False.elim hq
  | ret u2=>
   obtain⟨v2,H2,os,bare,un,hok,rv,hc2,q2⟩:=hq
   have ac:AreCells [c] H2:=fun b hb=>by
    rw [List.mem_singleton] at hb
    subst hb
    exact⟨o,hc2⟩
   obtain⟨hh,g,d,tk,os'⟩:=s'
   obtain rfl:os'=s1.os:=os
   have hco:hh.get? c=some o:=(hok c _ hc2).1
   refine⟨v2,zeu [c] H2,I1.call (h':=hh) (g':=g) (d':=d) (t':=tk) (ch:=[]) ⟨fun b ob e n hb hx=>?_,fun b ob e n hb hx=>?_,fun b ob e n hx=>?_,fun b ob e hx=>un.there b ob e hx,fun b xs e=>?_,fun b ob w e=>?_,fun b qs e=>?_⟩ (hok.hid ac) bare (fun b z=>absurd z (by simp)),rv,q2⟩
   ·by_cases hbc:b=c
    ·subst hbc; rw [ho] at e; cases e; exact hco
    ·exact un.keep b ob e (by rw [z0a hbc]; exact n) hb hx
   ·by_cases hbc:b=c
    ·subst hbc; exact absurd hb cfs
    ·exact un.slot b ob e (by rw [z0a hbc]; exact n) hb hx
   ·by_cases hbc:b=c
    ·subst hbc; exact z7u (List.mem_singleton.mpr rfl)
    ·exact z59 (un.free b ob e (by rw [z0a hbc]; exact n) hx)
   ·have nb:b≠c:=z0d e hcn
    rw [z1d (by simpa using nb)]
    exact un.tups b xs (by rw [z0a nb]; exact e)
   ·have nb:b≠c:=z0d e hcn
    rw [z1d (by simpa using nb)]
    exact un.frzs b ob w (by rw [z0a nb]; exact e)
   ·have nb:b≠c:=z0d e hcn
    rw [z1d (by simpa using nb)]
    exact un.tbls b qs (by rw [z0a nb]; exact e)
end L2
set_option Elab.async false
set_option linter.all false
set_option maxRecDepth 100000
namespace L2
open PySem PySem.Spec PyProof.Rows
def q3u(mg:Str->Option Value)(base:Heap)(tabs:List (Addr×Addr)):Prop:=∀q∈tabs,PySem.W.CodeHd base q.1 q.2/\base.BuiltinsAt mg q.2/\mainGlobals≠q.2
theorem zuw{P:Program}{w:World}{K:PySem.W.Frag}{mg mb:Str->Option Value}{k:Nat}{fa a:Addr}{fd:FuncData}{x:Str}{sp:Sp}{s₁:Shared}{vs:List Value}{ns:List Int}{tabs:List (Addr×Addr)}
  (KX:K.In s₁.heap) (hns:s₁.heap.Ns mainGlobals mg) (hb:s₁.heap.Ns builtinsNs mb) (hbb:∀x:Str,x≠"__name__"->mb x=bootBuiltins x) (hlim:s₁.heap.NoLimit) (hg:s₁.gens = #[])
  (ha:s₁.heap.get? a=some {cls:=.type "list",data:=.seq vs.toArray}) (hi:IntsAre vs ns) (hl:ns.length<=sizeLine) (hr:Room k callerA)
  (hT:PySem.W.TabsAt tabs s₁.heap) (hB:∀q∈tabs,s₁.heap.BuiltinsAt mg q.2) (hK:PySem.W.noTabs K=true)
  (F:∀base:Heap,K.In base->base.Ns mainGlobals mg->q3u mg base tabs->FnOk P w K mg base CX0 k fa fd [x] sp) (hbind:∀(s:Shared) (u:Value),BindsTo s fd ⟨[u],[]⟩ [(x,u)])
  (hsp:∀H:Hp,(∀q∈tabs,H q.2=some (.tbl #[]))->SqL K H a (ns.map V.int)->sp [.ref a] H (fun v _=>v=.bl true) fun _ _ _=>False) :
  codeAny (model P w) callerA (.call (.ref fa) ⟨[.ref a],[]⟩) (fun r s'=>r=.ok (.ret (.bool true))/\OldK s₁.heap s'.heap/\s'.os=s₁.os/\AllBare s'.gens) s₁:=by
 have rv:=zhk hi
 have lenV:=hi.length
 have tabK:∀q∈tabs,K.lookup q.2=none:=fun q hq=>by
  cases e:K.lookup q.2 with
  | none=>rfl
  | some o=>
   have h1:=KX _ _ e
   rw [(hT q hq).2] at h1
   cases h1
   have h2:=List.all_eq_true.mp hK (q.2,_) (PySem.W.mem_of_lookupK e)
   exact absurd (show false=true from h2) Bool.false_ne_true
 have aT:a∉tabs.map (·.2):=fun z=>by
  obtain⟨q,hq,e⟩:=List.mem_map.mp z
  have h1:=(hT q hq).2
  rw [e,ha] at h1
  cases h1
 have core:∀H:Hp,(∀b,H b=none\/(∃o xs,b=a/\H b=some (.frz o (.lst xs)))\/(b∈tabs.map (·.2)/\H b=some (.tbl #[])))->(∀q∈tabs,H q.2=some (.tbl #[]))->SqL K H a (ns.map V.int)->HOk P w H s₁.heap->(H a≠none->K.lookup a=none)->
   codeAny (model P w) callerA (.call (.ref fa) ⟨[.ref a],[]⟩) (fun r s'=>r=.ok (.ret (.bool true))/\OldK s₁.heap s'.heap/\s'.os=s₁.os/\AllBare s'.gens) s₁:=by
  intro H hO hTb hS hok hKa
  have base_of:∀{b:Addr} {o:Obj},s₁.heap.get? b=some o->H b=none->(zps s₁.heap H).get? b=some o:=fun e n=>zqz e n
  have tabO:∀{b:Addr},b∈tabs.map (·.2)->s₁.heap.get? b=some (PySem.W.tabObj #[]):=fun {b} hb=>by
   obtain⟨q,hq,rfl⟩:=List.mem_map.mp hb
   exact(hT q hq).2
  have noA:∀{b:Addr} {o:Obj},s₁.heap.get? b=some o->b≠a->b∉tabs.map (·.2)->H b=none:=fun {b o} e n1 n2=>by
   rcases hO b with z | ⟨_,_,z,_⟩ | ⟨z,_⟩
   ·exact z
   ·exact absurd z n1
   ·exact absurd z n2
  have nsK:∀{b:Addr} {m:Str->Option Value},s₁.heap.Ns b m->(zps s₁.heap H).Ns b m:=fun {b m} ⟨o,es,ep,e,d,r⟩=>by
   refine⟨o,es,ep,base_of e (noA e (fun z=>?_) fun z=>?_),d,r⟩
   ·rw [z,ha] at e; cases e; cases d
   ·rw [tabO z] at e; cases e; cases d
  have hKb:K.In (zps s₁.heap H):=fun b o e=>base_of (KX b o e) (by
   rcases hO b with z | ⟨_,_,z,z2⟩ | ⟨z,_⟩
   ·exact z
   ·have:=hKa (by rw [<- z,z2]; simp)
    rw [z,this] at e
    cases e
   ·obtain⟨q,hq,rfl⟩:=List.mem_map.mp z
    rw [tabK q hq] at e
    cases e)
  have hM:Mod K mg (zps s₁.heap H):=⟨hKb,nsK hns,⟨mb,nsK hb,hbb⟩,let ⟨mc,h1,h2⟩:=hlim; ⟨mc,nsK h1,h2⟩⟩
  have hTB:q3u mg (zps s₁.heap H) tabs:=fun q hq=>by
   obtain⟨o,vs',file,tf,flags,tg,inF,text,tt,e1,r1,r2,r⟩:=(hT q hq).1
   obtain⟨bm,ob,b1,b2,b3,b4,b5,b6,b7,b8⟩:=hB q hq
   refine⟨⟨o,vs',file,tf,flags,tg,inF,text,tt,base_of e1 (noA e1 (fun z=>?_) fun z=>?_),r1,r2,r⟩,⟨bm,ob,b1,b2,b3,b4,base_of b5 (noA b5 (fun z=>?_) fun z=>?_),b6,b7,b8⟩,fun z=>?_⟩
   ·rw [z,ha] at e1; cases e1; exact absurd (show Value.type "list" = Value.type "code" from r1) (by simp)
   ·rw [tabO z] at e1; cases e1; cases r1
   ·rw [z,ha] at b5; cases b5; exact absurd (show Value.type "list" = Value.type "module" from b6) (by simp)
   ·rw [tabO z] at b5; cases b5; cases b6
   ·obtain⟨o',es,ep,e',d,_⟩:=hns
    rw [z,(hT q hq).2] at e'
    cases e'
    cases d
  have e0:Env0 P w K mg (zps s₁.heap H) callerA [] s₁ H:=⟨rfl,hM,fun b o e=>zun e,Nat.le_of_eq (zn7 _ _),trivial,fun b hb=>absurd (show b∈([]:List Addr) from hb) (by simp),hok,.of_eq hg⟩
  refine codeAny_mono ((F _ hKb (nsK hns) hTB).run callerA [] s₁ H ⟨[.ref a],[]⟩ [.ref a] [.ref a] _ _ hr e0 (hbind s₁ (.ref a)) (.cons rfl .nil) (hsp H hTb hS)) fun r s' h=>?_
  cases r with
  | error e=>exact False.elim h
  | ok fl=>
   cases fl with
   | next=>exact False.elim h
   | brk=>exact False.elim h
   | cont=>exact False.elim h
   | ret u=>
    obtain⟨v,H',os,bare,un,hok',r',q⟩:=h
    have q':v=.bl true:=q
    subst q'
    obtain rfl:u=Value.bool true:=r'
    refine⟨rfl,⟨fun b o e=>?_,fun b o e=>un.there b o e (by simp)⟩,os,bare⟩
    rcases hO b with z | ⟨ob,xs,_,z⟩ | ⟨hb,z⟩
    ·exact .inl (un.keep b o e z (by intro z; exact absurd (show b∈([]:List Addr) from z) (by simp)) (by simp))
    ·have z2:=un.frzs b ob _ z
     obtain⟨e1,_⟩:=hok b _ z
     obtain⟨e2,_⟩:=hok' b _ z2
     rw [e] at e1; cases e1
     exact .inl e2
    ·obtain⟨more,z2⟩:=un.tbls b _ z
     have e2:s'.heap.get? b=some {cls:=.none,data:=.fields (#[]++more)}:=hok' b _ z2
     rw [tabO hb] at e
     cases e
     obtain⟨q,hq,rfl⟩:=List.mem_map.mp hb
     exact .inr (.inl ⟨((hT q hq).1.tab (hT q hq).2).isCodeTable,rfl,#[],more,rfl,e2⟩)
 have tin:∀q∈tabs,q.2∈tabs.map (·.2):=fun q hq=>List.mem_map.mpr ⟨q,hq,rfl⟩
 cases hk:K.lookup a with
 | some o=>
  have e:=KX a o hk
  rw [ha] at e
  cases e
  refine core (fun b=>if b∈tabs.map (·.2) then some (.tbl #[]) else none) (fun b=>?_) (fun q hq=>if_pos (tin q hq)) (.inr ⟨_,vs.toArray,_,hk,rfl,rfl,rfl,by rw [List.size_toArray,lenV]; exact hl,by simpa using rv⟩) (fun b u z=>?_) fun z=>absurd (if_neg aT) z
  ·by_cases hb:b∈tabs.map (·.2)
   ·exact .inr (.inr ⟨hb,if_pos hb⟩)
   ·exact .inl (if_neg hb)
  ·by_cases hb:b∈tabs.map (·.2)
   ·have z':=(if_pos hb).symm.trans z
    cases z'
    obtain⟨q,hq,rfl⟩:=List.mem_map.mp hb
    exact(hT q hq).2
   ·have z':=(if_neg hb).symm.trans z
    cases z'
 | none=>
  refine core (fun b=>if b∈tabs.map (·.2) then some (.tbl #[]) else if b=a then some (.frz {cls:=.type "list",data:=.seq vs.toArray} (.lst (ns.map V.int))) else none) (fun b=>?_) (fun q hq=>if_pos (tin q hq)) (.inl (.inr ⟨{cls:=.type "list",data:=.seq vs.toArray},(if_neg aT).trans (if_pos rfl)⟩)) (fun b u z=>?_) fun _=>hk
  ·by_cases hb:b∈tabs.map (·.2)
   ·exact .inr (.inr ⟨hb,if_pos hb⟩)
   ·by_cases hba:b=a
    ·exact .inr (.inl ⟨_,_,hba,(if_neg hb).trans (if_pos hba)⟩)
    ·exact .inl ((if_neg hb).trans (if_neg hba))
  ·by_cases hb:b∈tabs.map (·.2)
   ·have z':=(if_pos hb).symm.trans z
    cases z'
    obtain⟨q,hq,rfl⟩:=List.mem_map.mp hb
    exact(hT q hq).2
   ·have z1:=(if_neg hb).symm.trans z
    by_cases hba:b=a
    ·have z':=(if_pos hba).symm.trans z1
     cases z'
     subst hba
     exact⟨ha,by rw [List.length_map]; exact hl,vs,_,rv,ha⟩
    ·have z':=(if_neg hba).symm.trans z1
     cases z'
theorem zwn{l:PySem.W.OpenLaw}{n k:Nat}{q:Program}{loose:List Str}{XP:(Str->Option Value)->Heap->Prop}{YP:World->Heap->Prop}{d:DefRec}{K:Params->PySem.W.Frag}{sp:World->Sp}{x:Str}{tabs:List (Str×Addr×Addr)}
  (hn:l.most=some n) (hn2:n<=sizeLine) (hdf:d.params.defaults=[]) (hr:Room k callerA)
  (hY:∀(w:World) (h:Heap),YP w h->(K w.params).In h)
  (hK:∀w:World,PySem.W.noTabs (K w.params)=true) (hrec:∀t∈tabs,∃e,(recsOf q).find? (fun e=>e.name == t.1)=some e) (htab:∀(w:World),∀t∈tabs,PySem.W.tabIn (K w.params) t.1=some (t.2.1,t.2.2))
  (F:∀(w:World) (mg:Str->Option Value) (fa:Addr) (h:Heap),(K w.params).In h->h.Ns mainGlobals mg->mg d.name=some (.ref fa)->
   ∃fd:FuncData,(∀(s:Shared) (u:Value),BindsTo s fd ⟨[u],[]⟩ [(x,u)])/\
    ∀base:Heap,(K w.params).In base->base.Ns mainGlobals mg->q3u mg base (tabs.map (·.2))->FnOk l.prog w (K w.params) mg base CX0 k fa fd [x] (sp w))
  (hsp:∀(w:World) (H:Hp) (a:Addr) (ns:List Int),ns.length<=n->(∀q∈tabs.map (·.2),H q.2=some (.tbl #[]))->SqL (K w.params) H a (ns.map V.int)->sp w [.ref a] H (fun v _=>v=.bl true) fun _ _ _=>False) :
  PySem.W.WalkO q loose XP YP l.row.toRowW d [] (fun f vs=>PySem.call f vs):=by
 refine Att.zj3 hn hdf fun w s₀ s₁ mg mb fa o pm cd doc a vs ns G Y ho hd hcd hmg hobj hints hlen hg=>?_
 have KX:=hY w _ Y
 obtain⟨fd,hb,hF⟩:=F w mg fa _ KX G.T.g hmg
 have hT:PySem.W.TabsAt (tabs.map (·.2)) s₁.heap:=fun t ht=>by
  obtain⟨t',ht',rfl⟩:=List.mem_map.mp ht
  obtain⟨e,he⟩:=hrec t' ht'
  exact PySem.W.tab_of G.T KX he (htab w t' ht')
 refine zuw KX G.T.g G.T.b G.T.builtins G.T.nolimit hg hobj hints (Nat.le_trans hlen hn2) hr hT (fun t ht=>?_) (hK w) hF hb fun H hO hS=>hsp w H a ns hlen hO hS
 obtain⟨bm,ob,b1,b2,b3,b4,b5,b6⟩:=G.T.bmain
 refine⟨bm,ob,b1,b2,fun z=>?_,fun z=>?_,b3,b4,b5,b6⟩
 ·obtain⟨o',es,ep,e',hd',_⟩:=G.T.g
  rw [z,e'] at b3
  cases b3
  rw [hd'] at b6
  cases b6
 ·rw [z,(hT t ht).2] at b3
  cases b3
  cases b4
theorem zr0{K:PySem.W.Frag}{a b:Addr}{xs ys:List V}{g:TG}{tb:TS}{D:Ends}{σ : St}{H:Hp}(hxy:xs.length=ys.length)(Pv:Nat->St->Hp->Prop)(h0:Pv 0 σ H)(hl:∀i σ H,i<=xs.length->Pv i σ H->SqT K H a xs/\SqT K H b ys)
  (hs:∀i x y σ H T,xs[i]?=some x->ys[i]?=some y->Pv i σ H->H T=none->g (.ref T) σ (upd H T (.tup [x,y])) fun σ2 H2=>tb {D with nx:=Pv (i+1),ct:=Pv (i+1),bk:=D.nx} σ2 H2) (hd:∀ σ H,Pv xs.length σ H->D.nx σ H) :
  ∃W:Nat->Nat->St->Hp->Prop,(∃m,W 0 m σ H)/\∀i m σ H,W i m σ H->
   ((q1b K a b).stop i H/\D.nx σ H)\/((q1b K a b).go i H/\∃N:St->Hp->Prop,(∀ σ' H',N σ' H'->∃m',m' < m/\W (i+1) m' σ' H')/\∀x H',(q1b K a b).yld i H x H'->g x σ H' fun σ2 H2=>tb {D with nx:=N,ct:=N,bk:=D.nx} σ2 H2):=by
 refine⟨fun i m σ H=>m=xs.length - i/\i<=xs.length/\Pv i σ H,⟨xs.length,by simp,Nat.zero_le _,h0⟩,?_⟩
 rintro i m σ H ⟨rfl,hi,p⟩
 have q:=hl i σ H hi p
 by_cases hlt:i < xs.length
 ·refine .inr ⟨⟨xs,ys,xs[i],ys[i]'(by omega),q.1,q.2,by simp[hlt],by simp⟩,Pv (i+1),fun σ' H' p'=>⟨xs.length - (i+1),by omega,rfl,hlt,p'⟩,fun x H' y=>?_⟩
  obtain⟨T,u,v,rfl,hT,rfl,y1,y2⟩:=y
  exact hs i u v σ H T (y1 xs q.1) (y2 ys q.2) p hT
 ·have e:i=xs.length:=by omega
  subst e
  exact .inl ⟨⟨xs,ys,q.1,q.2,.inl (Nat.le_refl _)⟩,hd σ H p⟩
end L2
set_option Elab.async false
set_option linter.all false
set_option maxRecDepth 100000
namespace L2
open PySem PySem.Spec PyProof.Rows PySem.W
section
variable{prog:Program}{w:World}{A:Around}{E:Value->Shared->Prop}{s:Shared}{a:Addr}
end
section
variable{X:Cx}{pins:List (Addr×Obj)}{σ : St}{H:Hp}{s:Shared}
structure Pkw where
 r:Addr
 k:Value
 u:Value
instance:Inhabited Pkw:=⟨⟨0,.none,.none⟩⟩
end
end L2
set_option Elab.async false
set_option linter.all false
set_option maxRecDepth 100000
namespace L2
open PySem PySem.Spec PyProof.Rows PySem.W
theorem ObjOk.obj{P:Program}{w:World}{H:Hp}{h:Heap}{a:Addr}{o:HO}(x:ObjOk P w H h a o):∃u,h.get? a=some u:=by
 cases o with
 | lst xs=>obtain⟨_,_,_,_,e⟩:=x; exact⟨_,e⟩
 | tup xs=>obtain⟨_,_,_,o,e,_⟩:=x; exact⟨_,e⟩
 | dK kvs=>obtain⟨_,_,_,_,o,_,_,e,_⟩:=x; exact⟨_,e⟩
 | dT kvs=>obtain⟨_,_,_,_,o,_,_,e,_⟩:=x; exact⟨_,e⟩
 | set S n=>obtain⟨o,_,_,_,e,_⟩:=x; exact⟨_,e⟩
 | ins C dx fs=>obtain⟨_,_,_,e,_⟩:=x; exact⟨_,e⟩
 | own y=>exact x
 | xd fs=>obtain⟨_,⟨o,_,_,e,_⟩,_⟩:=x; exact⟨_,e⟩
 | rng lo hi=>obtain⟨_,_,_,e⟩:=x; exact⟨_,e⟩
 | frz ob u=>exact⟨_,x.1⟩
 | tbl ps=>exact⟨_,(show h.get? a=some {cls:=.none,data:=.fields ps} from x)⟩
 | met f y=>exact⟨_,(show h.get? a=some (PySem.W.methodObj (.ref f) (.ref y)) from x)⟩
 | ext φ=>exact x.2.1
def FlyAt(h:Heap)(l:List PySem.Env)(x T:Addr)(C:Value):Prop:=(∃B:Heap,h.FunFrames B l)/\x∉frs l/\T∉frs l/\T≠x/\∃(oe:Obj) (vs:Array Value) (oT:Obj) (ts:Array Value) (a0:Value),h.get? x=some oe/\oe.cls=C/\vs[0]?=some a0/\oe.data=.fields vs/\vs[1]?=some (.ref T)/\h.get? T=some oT/\oT.data=.fields ts/\ts[3]?=some .none
def q1l(h:Heap)(l:List PySem.Env)(x T:Addr):Heap:=hideAll h (x::T::frs l)
theorem FlyAt.flying{h:Heap}{l:List PySem.Env}{x T:Addr}{C:Value}(f:FlyAt h l x T C):∃a0,Heap.FlyingW (q1l h l x T) l x C a0 h:=by
 obtain⟨⟨B,ff⟩,n1,n2,ne,oe,vs,oT,ts,a0,he,hc,h0,hd,h1,hT,hdT,h3⟩:=f
 refine⟨a0,fun b o q=>of_hideAll _ q,hideAll_none _ (.head _),funFrames_hide ff fun env he a ha=>?_,oe,vs,T,oT,ts,he,⟨hc,h0⟩,hd,h1,hideAll_none _ (.tail _ (.head _)),ne,hT,hdT,h3⟩
 exact .tail _ (.tail _ (List.mem_filterMap.mpr ⟨env,he,ha⟩))
theorem FlyAt.of{B h:Heap}{l:List PySem.Env}{x:Addr}{C a0:Value}(f:Heap.FlyingW B l x C a0 h):∃T,B.get? T=none/\FlyAt h l x T C:=by
 obtain⟨f1,f2,f3,oe,vs,T,oT,ts,he,⟨hc,h0⟩,hd,h1,hn,ne,hT,hdT,h3⟩:=f
 refine⟨T,hn,⟨B,f3⟩,fun z=>?_,fun z=>?_,ne,oe,vs,oT,ts,a0,he,hc,h0,hd,h1,hT,hdT,h3⟩
 ·obtain⟨_,o,ho,hnf⟩:=f3.mem z
  rw [he] at ho; cases ho
  exact hnf vs hd
 ·obtain⟨_,o,ho,hnf⟩:=f3.mem z
  rw [hT] at ho; cases ho
  exact hnf ts hdT
section
variable{P:Program}{w:World}{h h':Heap}{l:List PySem.Env}{x T:Addr}{H:Hp}
theorem zog(st:(q1l h l x T).StaysIn h')(up:h.UpToSlots h')(ff:∃B:Heap,h.FunFrames B l):Un (frs l) [x,T] H H h h':=by
 have kp:∀b o,h.get? b=some o->b∉frs l->b∉[x,T]->h'.get? b=some o:=fun b o q n1 n2=>st b o (hideAll_get _ q (by
  simp only[List.mem_cons,List.not_mem_nil,or_false,not_or] at n2 |-
  exact⟨n2.1,n2.2,n1⟩))
 have sl:∀b o,h.get? b=some o->b∈frs l->∃sl,h'.get? b=some {o with slots:=sl}:=fun b o q n1=>by
  obtain⟨B,ff⟩:=ff
  obtain⟨_,o',ho,hnf⟩:=ff.mem n1
  rw [q] at ho; cases ho
  exact up b o q hnf
 refine⟨fun b o q _ n1 n2=>kp b o q n1 n2,fun b o q _ n1 _=>sl b o q n1,fun _ _ _ n _=>n,fun b o q n2=>?_,fun _ _ q=>q,fun _ _ _ q=>q,fun _ ps q=>⟨#[],by rw [q]; simp⟩⟩
 by_cases n1:b∈frs l
 ·obtain⟨_,e⟩:=sl b o q n1
  exact⟨_,e⟩
 ·exact⟨_,kp b o q n1 n2⟩
theorem zlh(ok:HOk P w H h)(st:(q1l h l x T).StaysIn h')(nx:H x=none)(nT:H T=none)(nf:∀b∈frs l,H b=none):HOk P w H h':=fun a o e=>by
 have tr:∀b u,H b=some u->b∉x::T::frs l:=fun b u q z=>by
  rcases List.mem_cons.mp z with rfl | z
  ·rw [nx] at q; cases q
  ·rcases List.mem_cons.mp z with rfl | z
   ·rw [nT] at q; cases q
   ·rw [nf b z] at q; cases q
 refine(ok a o e).stay (fun b u hb q=>st b u (hideAll_get _ q ?_)) (fun _ q=>q) fun _ _ q=>q
 rcases hb with rfl | hb
 ·exact tr _ _ e
 ·exact tr _ _ hb
end
def CX1(P:Program)(w:World):CXT:=fun outer H s E e s'=>∃(x T C:Addr) (H':Hp),e=.ref x/\s'.os=s.os/\AllBare s'.gens/\Un (frs outer) [] H H' s.heap s'.heap/\HOk P w H' s'.heap/\FlyAt s'.heap outer x T (.ref C)/\s.heap.get? x=none/\s.heap.get? T=none/\H' x=none/\H' T=none/\E (.ref C) none H'
section
variable{P:Program}{w:World}{K:PySem.W.Frag}{mg:Str->Option Value}{base:Heap}{N:List Str}{qual:Str}{scope:Scope}{f:Addr}{cd:Value}{A:Around}{outer:List PySem.Env}{s₀:Shared}{H₀:Hp}{E:XK}
theorem zpa:zaa (CX1 P w) (z85 (CX1 P w) P w K mg base N qual scope f cd A outer s₀ H₀ E) E:=by
 intro pins σ H s e s' I h
 obtain⟨x,T,C,H',rfl,os,bare,un,hok,fly,nx,nT,hx,hT,q⟩:=h
 have I1:=I.call' os un hok bare (fun b z=>absurd z (by simp))
 obtain⟨a0,fl⟩:=fly.flying
 refine wpAny_leaves_onW I.ok.frames rfl fl fun h' fl' up=>?_
 obtain⟨T',nT',fly'⟩:=FlyAt.of fl'
 have new0:∀b,s.heap.get? b=none->s₀.heap.get? b=none:=fun b z=>by
  cases q0:s₀.heap.get? b with
  | none=>rfl
  | some o=>
   obtain⟨o',e'⟩:=I.base.there b o q0 (by intro z; exact absurd (show b∈([]:List Addr) from z) (by simp))
   rw [z] at e'; cases e'
 have new1:∀b,s'.heap.get? b=none->s₀.heap.get? b=none:=fun b z=>by
  cases q0:s₀.heap.get? b with
  | none=>rfl
  | some o=>
   obtain⟨o',e'⟩:=I1.base.there b o q0 (by intro z; exact absurd (show b∈([]:List Addr) from z) (by simp))
   rw [z] at e'; cases e'
 have hL:∀b o,s₀.heap.get? b=some o->b≠s₀.heap.objs.size:=fun b o q0=>Nat.ne_of_lt (Heap.lt_size q0)
 have tT:s₀.heap.get? T'=none/\H' T'=none:=by
  cases q1:s'.heap.get? T' with
  | none=>
   refine⟨new1 _ q1,?_⟩
   cases q2:H' T' with
   | none=>rfl
   | some u=>obtain⟨o,e'⟩:=(hok _ _ q2).obj; rw [q1] at e'; cases e'
  | some o=>
   have hm:T'∈x::T::frs (z85 (CX1 P w) P w K mg base N qual scope f cd A outer s₀ H₀ E).stack:=by
    refine Classical.byContradiction fun z=>?_
    have:=hideAll_get _ q1 z
    rw [show hideAll s'.heap _=q1l s'.heap _ x T from rfl,nT'] at this
    cases this
   rcases List.mem_cons.mp hm with rfl | hm
   ·exact absurd rfl fly'.2.2.2.1
   ·rcases List.mem_cons.mp hm with rfl | hm
    ·exact⟨new0 _ nT,hT⟩
    ·obtain⟨⟨B,ff⟩,_⟩:=fly
     obtain⟨_,o',ho,hnf⟩:=ff.mem hm
     obtain⟨sl,hs⟩:=up _ _ ho hnf
     obtain⟨_,_,_,_,_,_,oT,ts,_,_,_,_,_,_,hT2,hdT,_⟩:=fly'
     rw [hs] at hT2
     cases hT2
     exact absurd hdT (hnf ts)
 have US:=zog (H:=H') fl'.1 up fly.1
 have nst:∀b o,s₀.heap.get? b=some o->b∉frs outer->b∉frs (z85 (CX1 P w) P w K mg base N qual scope f cd A outer s₀ H₀ E).stack:=fun b o q0 n z=>by
  rcases List.mem_cons.mp (I.stkSub b z) with z | z
  ·exact hL b o q0 z
  ·exact n z
 have nxT:∀b o,s₀.heap.get? b=some o->b∉[x,T]:=fun b o q0 z=>by
  simp only[List.mem_cons,List.not_mem_nil,or_false] at z
  rcases z with rfl | rfl
  ·rw [new0 _ nx] at q0; cases q0
  ·rw [new0 _ nT] at q0; cases q0
 have exn:∀b,b∉(z85 (CX1 P w) P w K mg base N qual scope f cd A outer s₀ H₀ E).ex:=fun b z=>absurd (show b∈([]:List Addr) from z) (by simp)
 refine⟨x,T',C,H',rfl,os.trans I.os,bare,?_,zlh hok fl'.1 hx hT I1.stkFree,fly',new0 _ nx,tT.1,hx,tT.2,q⟩
 refine⟨fun b o q0 n n1 _=>?_,fun b o q0 n n1 _=>?_,fun b o q0 n _=>I1.base.free b o q0 n (exn b),fun b o q0 _=>?_,I1.base.tups,I1.base.frzs,I1.base.tbls⟩
 ·exact US.keep b o (I1.base.keep b o q0 n n1 (exn b)) (I1.base.free b o q0 n (exn b)) (nst b o q0 n1) (nxT b o q0)
 ·obtain⟨sl,e1⟩:=I1.base.slot b o q0 n n1 (exn b)
  by_cases z:b∈frs (z85 (CX1 P w) P w K mg base N qual scope f cd A outer s₀ H₀ E).stack
  ·obtain⟨sl',e2⟩:=US.slot b _ e1 (I1.base.free b o q0 n (exn b)) z (nxT b o q0)
   exact⟨sl',e2⟩
  ·exact⟨sl,US.keep b _ e1 (I1.base.free b o q0 n (exn b)) z (nxT b o q0)⟩
 ·obtain⟨o',e1⟩:=I1.base.there b o q0 (exn b)
  exact US.there b o' e1 (nxT b o q0)
theorem zzj{pins:List (Addr×Obj)}{σ : St}{H:Hp}{s:Shared}{h':Heap}{x C:Addr}{vs:List Value}(I:Inv (z85 (CX1 P w) P w K mg base N qual scope f cd A outer s₀ H₀ E) pins σ H s)(hx:Heap.MadeExcOf s.heap h' x (.ref C) vs)(q:E (.ref C) none H) :
  (z85 (CX1 P w) P w K mg base N qual scope f cd A outer s₀ H₀ E).xe (.ref x) {s with heap:=h'}:=by
 have ff:=I.stack
 have exn:∀b,b∉(z85 (CX1 P w) P w K mg base N qual scope f cd A outer s₀ H₀ E).ex:=fun b z=>absurd (show b∈([]:List Addr) from z) (by simp)
 refine wpAny_leaves_madeW (base:=hideAll s.heap (frs (z85 (CX1 P w) P w K mg base N qual scope f cd A outer s₀ H₀ E).stack)) (h:=s.heap) I.ok.frames rfl (fun b o z=>of_hideAll _ z) (funFrames_hide ff fun env he a ha=>List.mem_filterMap.mpr ⟨env,he,ha⟩) hx fun h'' t fl _ _ up=>?_
 obtain⟨T,nT,fly⟩:=FlyAt.of fl
 have kp:∀b o,s.heap.get? b=some o->b∉frs (z85 (CX1 P w) P w K mg base N qual scope f cd A outer s₀ H₀ E).stack->h''.get? b=some o:=fun b o z n=>fl.1 b o (hideAll_get _ z n)
 have sl:∀b o,s.heap.get? b=some o->b∈frs (z85 (CX1 P w) P w K mg base N qual scope f cd A outer s₀ H₀ E).stack->∃sl,h''.get? b=some {o with slots:=sl}:=fun b o z n=>by
  obtain⟨_,o',ho,hnf⟩:=ff.mem n
  rw [z] at ho; cases ho
  exact up b o (hx.keeps b o z) hnf
 have sT:s.heap.get? T=none:=by
  cases q1:s.heap.get? T with
  | none=>rfl
  | some o=>
   have hm:T∈frs (z85 (CX1 P w) P w K mg base N qual scope f cd A outer s₀ H₀ E).stack:=by
    refine Classical.byContradiction fun z=>?_
    have:=hideAll_get _ q1 z
    rw [nT] at this
    cases this
   obtain⟨_,o',ho,hnf⟩:=ff.mem hm
   obtain⟨sl',hs⟩:=sl _ _ ho hm
   obtain⟨_,_,_,_,_,_,oT,ts,_,_,_,_,_,_,hT2,hdT,_⟩:=fly
   rw [hs] at hT2
   cases hT2
   exact absurd hdT (hnf ts)
 have new0:∀b,s.heap.get? b=none->s₀.heap.get? b=none:=fun b z=>by
  cases q0:s₀.heap.get? b with
  | none=>rfl
  | some o=>
   obtain⟨o',e'⟩:=I.base.there b o q0 (exn b)
   rw [z] at e'; cases e'
 have noH:∀b,s.heap.get? b=none->H b=none:=fun b z=>by
  cases q2:H b with
  | none=>rfl
  | some u=>obtain⟨o,e'⟩:=(I.hok _ _ q2).obj; rw [z] at e'; cases e'
 have nst:∀b o,s₀.heap.get? b=some o->b∉frs outer->b∉frs (z85 (CX1 P w) P w K mg base N qual scope f cd A outer s₀ H₀ E).stack:=fun b o q0 n z=>by
  rcases List.mem_cons.mp (I.stkSub b z) with z | z
  ·exact Nat.ne_of_lt (Heap.lt_size q0) z
  ·exact n z
 refine⟨x,T,C,H,rfl,I.os,I.bare,?_,fun a o e=>?_,fly,new0 _ hx.new,new0 _ sT,noH _ hx.new,noH _ sT,q⟩
 ·refine⟨fun b o q0 n n1 _=>kp b o (I.base.keep b o q0 n n1 (exn b)) (nst b o q0 n1),fun b o q0 n n1 _=>?_,fun b o q0 n _=>I.base.free b o q0 n (exn b),fun b o q0 _=>?_,I.base.tups,I.base.frzs,I.base.tbls⟩
  ·obtain⟨s1,e1⟩:=I.base.slot b o q0 n n1 (exn b)
   by_cases z:b∈frs (z85 (CX1 P w) P w K mg base N qual scope f cd A outer s₀ H₀ E).stack
   ·obtain⟨s2,e2⟩:=sl b _ e1 z
    exact⟨s2,e2⟩
   ·exact⟨s1,kp b _ e1 z⟩
  ·obtain⟨o',e1⟩:=I.base.there b o q0 (exn b)
   by_cases z:b∈frs (z85 (CX1 P w) P w K mg base N qual scope f cd A outer s₀ H₀ E).stack
   ·obtain⟨s2,e2⟩:=sl b _ e1 z
    exact⟨_,e2⟩
   ·exact⟨_,kp b _ e1 z⟩
 ·have tr:∀b u,H b=some u->b∉frs (z85 (CX1 P w) P w K mg base N qual scope f cd A outer s₀ H₀ E).stack:=fun b u z n=>by
   rw [I.stkFree b n] at z; cases z
  refine(I.hok a o e).stay (fun b u hb z=>kp b u z ?_) (fun _ z=>z) fun _ _ z=>z
  rcases hb with rfl | hb
  ·exact tr _ _ e
  ·exact tr _ _ hb
theorem zwz{x:Str}{C:Addr}{bm bmN:List Value}{B Bn newId nid inN initId:String}{e:Expr}{es:List Expr}{t:TA}{np cpos pos:Pos}(O:OwnCls x C bm newId mg base)(Fn:ExcBaseFacts Bn newId inN bmN)(hBn:bm.contains (.type Bn)=true)(FB:ExcBaseFacts B nid initId bm)
  (ha:PA (z85 (CX1 P w) P w K mg base N qual scope f cd A outer s₀ H₀ E) (e::es) t) (hg:Gl (z85 (CX1 P w) P w K mg base N qual scope f cd A outer s₀ H₀ E) x) (hdb:(x == ("__debug__" : Str))=false:=by decide) (hst:z1z (e::es)=true:=by rfl) :
  PS (z85 (CX1 P w) P w K mg base N qual scope f cd A outer s₀ H₀ E) (.Raise (some (.Call (.Name x np) (e::es) [] cpos)) none pos) (fun D σ H=>t σ H fun vs H1=>vs.length<=sizeLine/\E (.ref C) none H1):=by
 intro pins s σ H D I h
 obtain⟨tl,Nn,nm,qq,bs,hdct,sn,sub,ab,col,dd,k0,k1,k2,k3,k5,mN,hC,hN,hni,TT⟩:=O.obj
 refine wpAny_Raise_call_subU (C:=C) (nm:=nm) (q:=qq) (N:=Nn) (bs:=bs) (bm:=tl) (hdct:=hdct) (sn:=sn) (sub:=sub) (ab:=ab) (col:=col) (dd:=dd) (k0:=k0) (k1:=k1) (k2:=k2) (k3:=k3) (k5:=k5) Fn hBn FB (mN:=mN) (TT.hasType FB.hasBase) (I.ok.hd rfl) (z1y hst) hni (z92 I hg O.bound ⟨rfl,?_⟩ hdb)
 have hst':=hst
 rw [z1z,Bool.and_eq_true,Bool.not_eq_true'] at hst'
 have he:=z0r (es:=es) (env:=(z85 (CX1 P w) P w K mg base N qual scope f cd A outer s₀ H₀ E).env) hst'.1
 have hh:=ha cpos pins s σ H _ I h
 rw [he] at hh |-
 refine Calls.evalArgs_plain (wpAny_mono hh (fun us s2 h2=>?_) fun _ _ y=>y)
 obtain⟨vs,H1,I1,r,hz,q⟩:=h2
 exact⟨rfl,by rw [<- r.length]; exact hz,I1.bk _ _ hC,hN.keeps I1.bk,TT.keeps I1.bk,fun h' x' mx=>zzj I1 mx q⟩
end
end L2
set_option Elab.async false
set_option linter.all false
set_option maxRecDepth 100000
namespace L2
open PySem PySem.Spec PyProof.Rows PySem.W
theorem zv5{v:Value}{a b:Str}(ha:v.isStr a=true)(hb:v.isStr b=true):a=b:=by
 unfold Value.isStr at ha hb
 split at ha<;>simp_all
theorem zzz{K:PySem.W.Frag}{mg:Str->Option Value}{base:Heap}{x:Str}{C:Addr}{bm:List Value}{newId:String}(M:Mod K mg base)(e:nsIn K mainGlobals x=some (some (.ref C)))(q:excIn K C bm newId=true):OwnCls x C bm newId mg base:=by
 obtain⟨mb,hb,hbb⟩:=M.blt
 obtain⟨o,es,ep,ho,hd,hk,hm⟩:=M.glob
 open Classical in
 refine own_of_in (p:=default) (loose:=es.toList.filterMap fun y=>if h:∃z,y.key.isStr z=true then some (Classical.choose h) else none) M.kin ⟨M.glob,hb,M.nolimit,hbb,fun z _ hl _ _ _=>?_⟩ e q
 rw [<- hm z]
 unfold nsFind findBy
 rw [Option.map_eq_none_iff,Array.find?_eq_none]
 intro y hy hz
 refine hl (List.mem_filterMap.mpr ⟨y,Array.mem_toList_iff.mpr hy,?_⟩)
 have h:∃z,y.key.isStr z=true:=⟨z,hz⟩
 rw [dif_pos h]
 exact congrArg some (zv5 (Classical.choose_spec h) hz)
structure CalleeX(P:Program)(w:World)(K:PySem.W.Frag)(mg:Str->Option Value)(base:Heap)(x:Str)(ps:List Str)(k:Nat)(sp:Sp):Prop where
 ex:∃f fd,FnOk P w K mg base (CX1 P w) k f fd ps sp/\mg x=some (.ref f)/\PySem.W.keepIn K (.ref f)=true/\Binds K fd ps []
theorem zyn{X:Cx}{x:Str}{ps:List Str}{k j:Nat}{sp:Sp}{e:Expr}{es:List Expr}{t:TA}{p pos:Pos}{E:XK}(C:CalleeX X.prog X.w X.K X.mg X.base x ps k sp)(hx:zaa (CX1 X.prog X.w) X E)(hr:Room j X.A)(hk:k<=j)(ha:PA X (e::es) t)(hg:Gl X x:=by rfl)
  (hdb:(x == ("__debug__" : Str))=false:=by decide) (hst:z1z (e::es)=true:=by rfl) :
  PE X (.Call (.Name x p) (e::es) [] pos) (zm2 sp [] E t):=by
 have hst':=hst
 rw [z1z,Bool.and_eq_true,Bool.not_eq_true'] at hst'
 have he:=z0r (es:=es) (env:=X.env) hst'.1
 have hpl:=z1y (pos:=pos) (env:=X.env) hst'.2
 obtain⟨f,fd,F,hm,hkp,hb⟩:=C
 intro pins s σ H Q I h
 refine wpAny_Call_Name_kw (z92 I hg hm ?_ hdb)
 refine PySem.W.callWith_K (h₀:=X.base) I.ok.mod.kin hkp (thn (ha pos pins s σ H _ I h) fun us s1 ⟨vs,H1,I1,r,q⟩=>⟨I1.kIn,?_⟩) he hpl
 exact zqi F (hr.mono hk) hb .nil hx I1 r q
section
variable{P:Program}{w:World}{K:PySem.W.Frag}{mg:Str->Option Value}{base:Heap}
theorem Fun.okx{x qual:Str}{st:Stmt}{f:Addr}{fd:FuncData}{N ps:List Str}{k:Nat}{sp:Sp}(F:Fun K x qual st f fd)(S:FnScope N ps (defScope st))(len:∀vs H Q E,sp vs H Q E->vs.length=ps.length)
  (hbody:∀(cdv:Value) (A:Around) (outer:List PySem.Env) (s:Shared) (H:Hp) (vs:List V) (Q:VK) (E:XK),Room k (A.deeper (envOfC qual (defScope st) s.heap.objs.size f cdv))->sp vs H Q E->
   ∃t,PSs (z85 (CX1 P w) P w K mg base N qual (defScope st) f cdv A outer s H E) (defBody st) t/\t {nx:=fun _ H'=>Q .non H',rt:=Q} (start N vs) H):FnOk P w K mg base (CX1 P w) (k+1) f fd ps sp:=by
 obtain⟨oc,od,kV,doc,pm,an,cdv,ct,osl,rfl,lk,hcd⟩:=F.ex
 exact zxq lk hcd S len fun A outer s H vs Q E hr hsp=>hbody cdv A outer s H vs Q E hr hsp
theorem Callee.x{x:Str}{ps:List Str}{k:Nat}{sp:Sp}(C:Callee P w K mg base x ps k sp):CalleeX P w K mg base x ps k sp:=by
 obtain⟨f,fd,F,a,b,c⟩:=C
 refine⟨f,fd,⟨F.len,fun A outer s H args us vs Q E hr e0 hb hv hs=>codeAny_mono (F.run A outer s H args us vs Q E hr e0 hb hv hs) fun r s' hq=>?_⟩,a,b,c⟩
 cases r with
 | error e=>exact False.elim hq
 | ok fl=>cases fl<;>exact hq
end
section
variable{X:Cx}{pins:List (Addr×Obj)}{σ : St}{H:Hp}{s:Shared}{h':Heap}{x T:Addr}
structure Strange(X:Cx)(pins:List (Addr×Obj))(x:Addr):Prop where
 new:X.s₀.heap.get? x=none
 loc:x≠X.env.locals
 cell:∀y c,X.env.cells.lookup y=some c->c≠x
 pin:∀p∈X.pn++pins,p.1≠x
theorem Inv.strange(I:Inv X pins σ H s)(hex:X.ex=[])(n:s.heap.get? x=none):Strange X pins x:=by
 refine⟨?_,?_,fun y c e z=>?_,fun p hp z=>?_⟩
 ·cases q:X.s₀.heap.get? x with
  | none=>rfl
  | some o=>
   obtain⟨o',e⟩:=I.base.there x o q (by rw [hex]; simp)
   rw [n] at e; cases e
 ·rintro rfl
  obtain⟨m,⟨o,_,_,ho,_⟩,_⟩:=I.loc
  rw [n] at ho; cases ho
 ·obtain⟨v,o,ho,_⟩:=I.cell y c e
  rw [z,n] at ho; cases ho
 ·obtain⟨e,_⟩:=I.pin p hp
  rw [z,n] at e; cases e
theorem Inv.fly(I:Inv X pins σ H s)(hex:X.ex=[])(st:(q1l s.heap X.stack x T).StaysIn h')(up:s.heap.UpToSlots h')(sx:Strange X pins x)(sT:Strange X pins T)(nx:H x=none)(nT:H T=none) :
  Inv X pins σ H {s with heap:=h'}:=by
 have US:=zog (H:=H) st up ⟨_,I.stack⟩
 have nxT:∀b,(b≠x)->(b≠T)->b∉[x,T]:=fun b h1 h2 z=>by
  simp only[List.mem_cons,List.not_mem_nil,or_false] at z
  exact z.elim h1 h2
 have n0:∀b o,X.s₀.heap.get? b=some o->b∉[x,T]:=fun b o e=>nxT b (fun z=>by rw [z,sx.new] at e; cases e) fun z=>by rw [z,sT.new] at e; cases e
 have exn:∀b,b∉X.ex:=fun b=>by rw [hex]; simp
 have nst:∀b o,X.s₀.heap.get? b=some o->b∉X.fs->b∉frs X.stack:=fun b o e n z=>by
  rcases List.mem_cons.mp (I.stkSub b z) with z | z
  ·exact Nat.ne_of_lt (Nat.lt_of_lt_of_le (Heap.lt_size e) I.ok.above) z
  ·exact n z
 have cellK:∀c v,s.heap.IsCell c v->Heap.IsCell h' c v:=fun c v ⟨o,ho,hd⟩=>by
  obtain⟨sl,e⟩:=up c o ho fun vs z=>by rw [hd] at z; cases z
  exact⟨_,e,hd⟩
 refine⟨I.ok,I.os,I.bare,⟨fun b o e n hb hx=>?_,fun b o e n hb hx=>?_,I.base.free,fun b o e hx=>?_,I.base.tups,I.base.frzs,I.base.tbls⟩,?_,fun y c e=>?_,I.free,I.freeC,fun p hp=>?_,zlh I.hok st nx nT I.stkFree,I.len⟩
 ·exact US.keep b o (I.base.keep b o e n hb hx) (I.base.free b o e n hx) (nst b o e hb) (n0 b o e)
 ·obtain⟨s1,e1⟩:=I.base.slot b o e n hb hx
  by_cases z:b∈frs X.stack
  ·obtain⟨s2,e2⟩:=US.slot b _ e1 (I.base.free b o e n hx) z (n0 b o e)
   exact⟨s2,e2⟩
  ·exact⟨s1,US.keep b _ e1 (I.base.free b o e n hx) z (n0 b o e)⟩
 ·obtain⟨o',e1⟩:=I.base.there b o e hx
  exact US.there b o' e1 (n0 b o e)
 ·obtain⟨m,hn,hl⟩:=I.loc
  refine⟨m,up.ns hn,fun i y v e1 e2 e3=>?_⟩
  obtain⟨u,r,l⟩:=hl i y v e1 e2 e3
  refine⟨u,r,?_⟩
  rcases l with l | ⟨k,c,e,z⟩
  ·exact .inl l
  ·exact .inr ⟨k,c,e,cellK c _ z⟩
 ·obtain⟨v,z⟩:=I.cell y c e
  exact⟨v,cellK c v z⟩
 ·obtain⟨e,n,ne,nf,d⟩:=I.pin p hp
  have ns:p.1∉frs X.stack:=fun z=>(List.mem_cons.mp (I.stkSub _ z)).elim ne nf
  exact⟨US.keep p.1 p.2 e n ns (nxT _ (sx.pin p hp) (sT.pin p hp)),n,ne,nf,d⟩
def HO.exc(x C:Addr):HO:=.ext fun h=>∃o,h.get? x=some o/\o.cls=.ref C
theorem Inv.shown{C:Addr}(I:Inv X pins σ H s)(sx:Strange X pins x)(nx:H x=none)(ho:∃o,s.heap.get? x=some o/\o.cls=.ref C):Inv X pins σ (upd H x (HO.exc x C)) s:=by
 have oth:∀b,b≠x->upd H x (HO.exc x C) b=H b:=fun b n=>z0a n
 have sm:∀b u,H b=some u->upd H x (HO.exc x C) b=some u:=fun b u e=>by
  rw [oth b fun z=>by rw [z,nx] at e; cases e]; exact e
 refine⟨I.ok,I.os,I.bare,⟨I.base.keep,I.base.slot,fun b o e n hx=>?_,I.base.there,fun b xs e=>sm _ _ (I.base.tups b xs e),fun b o u e=>sm _ _ (I.base.frzs b o u e),fun b ps e=>?_⟩,I.loc,I.cell,?_,fun y c e=>?_,fun p hp=>?_,fun b u e=>?_,I.len⟩
 ·rw [oth b fun z=>by rw [z,sx.new] at e; cases e]
  exact I.base.free b o e n hx
 ·obtain⟨m,q⟩:=I.base.tbls b ps e
  exact⟨m,sm _ _ q⟩
 ·rw [oth _ fun z=>sx.loc z.symm]; exact I.free
 ·rw [oth _ (sx.cell y c e)]; exact I.freeC y c e
 ·obtain⟨e,n,r⟩:=I.pin p hp
  exact⟨e,by rw [oth _ (sx.pin p hp)]; exact n,r⟩
 ·by_cases hb:b=x
  ·subst hb
   rw [z01] at e
   cases e
   obtain⟨o,h1,h2⟩:=ho
   exact⟨⟨o,h1,h2⟩,⟨o,h1⟩,fun g1 g2 ⟨o,a,b⟩ k=>⟨o,k _ a,b⟩⟩
  ·rw [oth b hb] at e
   exact(I.hok b u e).stay (fun _ _ _ q=>q) (fun c q=>sm _ _ q) fun _ _ q=>sm _ _ q
theorem Inv.gone{i:Nat}{n:Str}{m:Str->Option Value}{v:Option Value}{t':Nat}(I:Inv X pins σ H s)(hN:X.N.Nodup)(hi:X.N[i]?=some n)(hn:Heap.Ns h' X.env.locals (fun y=>if y=n then v else m y))(hm:s.heap.Ns X.env.locals m)(hs:Heap.SameBut X.env.locals s.heap h') :
  Inv X pins (σ.set i none) H {s with heap:=h',toks:=t'}:=by
 obtain⟨m0,hn0,hl⟩:=I.loc
 have em:m0=m:=hn0.eq_nsMap.trans hm.eq_nsMap.symm
 subst em
 have cne:=I.cne
 have neL:∀b o,X.s₀.heap.get? b=some o->b≠X.env.locals:=fun b o e=>Nat.ne_of_lt (Nat.lt_of_lt_of_le (Heap.lt_size e) I.ok.above)
 refine⟨I.ok,I.os,I.bare,⟨fun b o e n hb hx=>(hs.2 b (neL b o e)).trans (I.base.keep b o e n hb hx),fun b o e n hb hx=>?_,I.base.free,fun b o e hx=>?_,I.base.tups,I.base.frzs,I.base.tbls⟩,⟨_,hn,fun j y v' e1 e2 e3=>?_⟩,fun y c e=>?_,I.free,I.freeC,fun p hp=>?_,fun b u e=>?_,by simpa using I.len⟩
 ·obtain⟨sl,q⟩:=I.base.slot b o e n hb hx
  exact⟨sl,(hs.2 b (neL b o e)).trans q⟩
 ·obtain⟨o',q⟩:=I.base.there b o e hx
  exact⟨o',(hs.2 b (neL b o e)).trans q⟩
 ·by_cases hj:j=i
  ·subst hj
   have hiσ : j < σ.length:=by rw [I.len]; exact(List.getElem?_eq_some_iff.mp hi).1
   rw [List.getElem?_set_self hiσ] at e2
   cases e2
  ·rw [List.getElem?_set_ne (Ne.symm hj)] at e2
   obtain⟨u,r,q⟩:=hl j y v' e1 e2 e3
   refine⟨u,r,?_⟩
   rcases q with⟨k,e⟩ | ⟨k,c,e,z⟩
   ·refine .inl ⟨k,?_⟩
    have:y≠n:=fun e=>hj (zl7 hN e1 (e ▸ hi))
    simp[this,e]
   ·exact .inr ⟨k,c,e,z.sameBut hs (cne y c e)⟩
 ·obtain⟨w',z⟩:=I.cell y c e
  exact⟨w',z.sameBut hs (cne y c e)⟩
 ·obtain⟨e,n,ne,nf,d⟩:=I.pin p hp
  exact⟨(hs.2 p.1 ne).trans e,n,ne,nf,d⟩
 ·refine(I.hok b u e).stay (fun c w' hc q=>(hs.2 c ?_).trans q) (fun _ q=>q) fun _ _ q=>q
  rintro rfl
  rcases hc with rfl | hc
  ·rw [I.free] at e; cases e
  ·rw [I.free] at hc; cases hc
end
end L2
set_option Elab.async false
set_option linter.all false
set_option maxRecDepth 100000
namespace L2
open PySem PySem.Spec PyProof.Rows PySem.W
abbrev Cx.marked(X:Cx)(e:Value):Cx:={X with A:=X.A.mark (some e),calm:=false,xe:=fun _ _=>False}
theorem Cx.Ok.marked{X:Cx}{e:Value}(ok:X.Ok):(X.marked e).Ok:=
 ⟨ok.mod,ok.kind,ok.glob,ok.blt,ok.above,ok.inj,ok.has,ok.cab,(fun z=>nomatch z),ok.frames,ok.stk,ok.exf,ok.bs,ok.bsz,ok.noex,ok.exfs,ok.funs,ok.frf⟩
section
variable{X:Cx}{pins:List (Addr×Obj)}{σ : St}{H:Hp}{s:Shared}{e:Value}
theorem Inv.marked(I:Inv X pins σ H s)(ok:(X.marked e).Ok):Inv (X.marked e) pins σ H s:=⟨ok,I.os,I.bare,I.base,I.loc,I.cell,I.free,I.freeC,I.pin,I.hok,I.len⟩
theorem Inv.unmarked(I:Inv (X.marked e) pins σ H s)(ok:X.Ok):Inv X pins σ H s:=⟨ok,I.os,I.bare,I.base,I.loc,I.cell,I.free,I.freeC,I.pin,I.hok,I.len⟩
end
end L2
set_option Elab.async false
set_option linter.all false
set_option maxRecDepth 100000
namespace L2
open PySem PySem.Spec PyProof.Rows PySem.W PySem.Builtin PySem.Builtin.ObjectAttr PySem.Builtin.Getset_descriptor PySem.Calls
section
variable{prog:Program}{w:World}{A:Around}{E:Value->Shared->Prop}{s:Shared}{K:PySem.W.Frag}{x C:Addr}
theorem zxs{R:Result->Shared->Prop}{tp:Value}(X:K.In s.heap)(L0:Looks (model prog w) s.heap (typeOf (.ref x)) (.ref C)) (hm:mroIn K C (.type "object")=some true)
  (h:R (.ok (.ret (.ref C))) s):codeAny (model prog w) A (.call (.builtin "getset_descriptor.__get__") ⟨[.builtin "object.__class__",.ref x,tp],[]⟩) R s:=by
 obtain⟨hh,g,dr,t,os⟩:=s
 have L1:=looks_mroIn (M:=model prog w) X hm
 refine codeAny_call_builtin KF.slot_gs.plain KF.entry_gs (KF.slot_gs.check _ _ _ _ _ _ _ _ KF.type_class (KF.args_gs _ _ _) ?_)
 unfold Builtin.«getset_descriptor.__get__» descrGet
 rw [dga_obj]
 refine wpAny_bind (wpAny_pure ?_)
 unfold descrGetter descrCheckInstance descrNameAndClass isInstance
 simp only[KF.owner_class]
 repeat lk
 refine⟨Code.quiet_builtin _ (by decide+kernel),codeAny_builtin KF.entry_class ?_⟩
 unfold Builtin.«object.__class__» shownTypeOf
 repeat lk
 exact h
theorem zxr{M:Model}{h:Heap}(X:K.In h) (ha:findIn K (.ref C) "__class__" = some (some (.builtin "object.__class__"))) (hn:specialIn K (.builtin "object.__class__") "__get__" = some (some (.builtin "getset_descriptor.__get__"))) (htk:takesIn K (.builtin "object.__class__")=some true) :
  Looks M h (find (.ref x) (.ref C) "__class__") (.bind (.builtin "getset_descriptor.__get__") (.builtin "object.__class__")):=by
 have L3:=looks_takesIn (M:=M) X htk
 exact(looks_findIn X ha).andThen ((show Looks M h (getOf (some (.builtin "object.__class__"))) (some (.builtin "getset_descriptor.__get__")) from looks_specialIn X hn).andThen ((show Looks M h (dataDescriptor? (some (.builtin "object.__class__")) (some (.builtin "getset_descriptor.__get__"))) (some (_,_)) from L3.andThen .now).andThen (Looks.tag .now)))
theorem zve{tk:Tok}{Q:Fin->Shared->Prop}(X:K.In s.heap)(L0:Looks (model prog w) s.heap (typeOf (.ref x)) (.ref C)) (ha:findIn K (.ref C) "__class__" = some (some (.builtin "object.__class__"))) (hn:specialIn K (.builtin "object.__class__") "__get__" = some (some (.builtin "getset_descriptor.__get__"))) (htk:takesIn K (.builtin "object.__class__")=some true) (hm:mroIn K C (.type "object")=some true)
  (h:Q (.done (.ret (.ref C))) s):wpAny (model prog w) A (Builtin.«object.__getattribute__» ⟨[.ref x,.str "__class__" tk],[]⟩) Q E s:=by
 obtain⟨hh,g,dr,t,os⟩:=s
 have L1:=zxr (M:=model prog w) (x:=x) X ha hn htk
 unfold Builtin.«object.__getattribute__»
 refine wpAny_bind (wpAny_pure (wpAny_bind (wpAny_pure (wpAny_bind (L0.at (wpAny_bind (L1.at ?_)))))))
 exact wpAny_bind (wpAny_holding (wpAny_call (zxs X L0 hm (wpAny_pure h))))
theorem zvg{M:Model}{nameV:Value}{Q:Unit->Shared->Prop}(L0:Looks M s.heap (typeOf (.ref x)) (.ref C)) (LB:Looks M s.heap (isSubtype (.ref C) (.type "BaseException")) true) (hq:Q () s) :
  wpAny M A (checkBuiltinCall "BaseException.__getattribute__" ⟨[.ref x,nameV],[]⟩) Q E s:=by
 obtain⟨hh,g,dr,t,os⟩:=s
 have hk:builtinKind "BaseException.__getattribute__" = some .slot:=by decide+kernel
 have hsplit:splitId "BaseException.__getattribute__" = some ("BaseException","__getattribute__"):=by decide+kernel
 have LI:Looks M hh (isInstance (.ref x) (.type "BaseException")) true:=L0.andThen LB
 have ha:=F.args_bexc_ga (.ref x) nameV
 simp only[checkBuiltinCall,hk,hsplit]
 refine wpAny_bind (LI.at ?_)
 repeat (first | assumption | wp_step)
theorem zxt{tk:Tok}{R:Result->Shared->Prop}(X:K.In s.heap)(L0:Looks (model prog w) s.heap (typeOf (.ref x)) (.ref C)) (hb:subIn K (.ref C) (.type "BaseException")=some true) (ha:findIn K (.ref C) "__class__" = some (some (.builtin "object.__class__"))) (hn:specialIn K (.builtin "object.__class__") "__get__" = some (some (.builtin "getset_descriptor.__get__"))) (htk:takesIn K (.builtin "object.__class__")=some true) (hm:mroIn K C (.type "object")=some true)
  (h:R (.ok (.ret (.ref C))) s):codeAny (model prog w) A (.call (.builtin "BaseException.__getattribute__") ⟨[.ref x,.str "__class__" tk],[]⟩) R s:=
 codeAny_call_builtin F.excAttr_ValueError.ga.plain F.entry_bexc_ga (zvg L0 (looks_subIn X hb) (zve X L0 ha hn htk hm h))
theorem zvf{Q:Option Value->Shared->Prop}(X:K.In s.heap)(L0:Looks (model prog w) s.heap (typeOf (.ref x)) (.ref C)) (hb:subIn K (.ref C) (.type "BaseException")=some true) (hga:findIn K (.ref C) "__getattribute__" = some (some (.builtin "BaseException.__getattribute__"))) (hgh:findIn K (.ref C) "__getattr__" = some none)
  (ha:findIn K (.ref C) "__class__" = some (some (.builtin "object.__class__"))) (hn:specialIn K (.builtin "object.__class__") "__get__" = some (some (.builtin "getset_descriptor.__get__"))) (htk:takesIn K (.builtin "object.__class__")=some true) (hm:mroIn K C (.type "object")=some true)
  (h:Q (some (.ref C)) {s with toks:=s.toks+1}):wpAny (model prog w) A (getAttr? (.ref x) "__class__") Q E s:=by
 obtain⟨hh,g,dr,t,os⟩:=s
 have L1:=looks_findIn (M:=model prog w) X hga
 have L2:=looks_findIn (M:=model prog w) X hgh
 have hx2:(Value.builtin "BaseException.__getattribute__" == Value.builtin "object.__getattribute__")=false:=by decide+kernel
 have hx1:(onTheHeap (Value.ref C) && Value.builtin "BaseException.__getattribute__" == Value.builtin "object.__getattribute__")=false:=by rw [hx2]; rfl
 have f3:=F.excAttr_ValueError.ga.bind (.ref x)
 unfold getAttr? getAttrBy? getAttrBy
 refine wpAny_bind (wpAny_mkText (wpAny_bind (wpAny_attempt (wpAny_holding (wpAny_bind (L0.at (wpAny_bind (L1.at ?_))))))))
 dsimp only
 rw [hx1,if_neg Bool.false_ne_true]
 unfold getAttrByItsOwn hookBefore callGetattribute boundAndCalled
 refine wpAny_bind (L2.at (wpAny_bind (wpAny_attempt (wpAny_holding ?_))))
 rw [Bool.false_and,if_neg Bool.false_ne_true,f3]
 refine wpAny_bind (wpAny_pure (wpAny_call (zxt (s:=⟨hh,g,dr,t+1,os⟩) X L0 hb ha hn htk hm ?_)))
 exact handed_on rfl (wpAny_pure h)
structure ExcC(K:PySem.W.Frag)(C:Addr):Prop where
 cl:(clsIn K C).isSome=true
 hb:subIn K (.ref C) (.type "BaseException")=some true
 hga:findIn K (.ref C) "__getattribute__" = some (some (.builtin "BaseException.__getattribute__"))
 hgh:findIn K (.ref C) "__getattr__" = some none
 ha:findIn K (.ref C) "__class__" = some (some (.builtin "object.__class__"))
 hn:specialIn K (.builtin "object.__class__") "__get__" = some (some (.builtin "getset_descriptor.__get__"))
 htk:takesIn K (.builtin "object.__class__")=some true
 hm:mroIn K C (.type "object")=some true
theorem zxj(c:ExcC K C):KitX K (.ref x) (.ref C) (fun h=>∃o,h.get? x=some o/\o.cls=.ref C) where
 ty:=fun M h _ ⟨o,ho,hc⟩=>hc ▸ (Looks.ld ho).andThen .now
 it:=fun _ _ X _=>by
  obtain⟨cd,hcd⟩:=Option.isSome_iff_exists.mp c.cl
  unfold clsIn at hcd
  split at hcd
  ·rename_i c' d' cd' sl' ho
   intro A' Q' E' s' k q
   unfold isType loadHead
   exact wpAny_bind (wpAny_loadPart (k _ _ (X _ _ ho)) (wpAny_pure q))
  ·cases hcd
 ne:=fun h tp dd its n sl X htp=>by
  obtain⟨cd,hcd⟩:=Option.isSome_iff_exists.mp c.cl
  refine Bool.eq_false_iff.mpr fun q=>?_
  have e:C=tp:=Value.ref.inj (beq_iff_eq.mp q)
  subst e
  unfold clsIn at hcd
  split at hcd
  ·rename_i c' d' cd' sl' ho
   have z:=(X _ _ ho).symm.trans htp
   cases z
  ·cases hcd
 ca:=fun X ⟨o,ho,hc⟩ k=>zvf X (hc ▸ (Looks.ld ho).andThen .now) c.hb c.hga c.hgh c.ha c.hn c.htk c.hm k
end
section
variable{X:Cx}
def q4a(K:PySem.W.Frag):List V->Hp->VK->Prop:=fun xs H Q=>∃(x C:Addr) (y:V) (d:Value) (b:Bool),xs=[.ref x,y]/\H x=some (HO.exc x C)/\RelV y d/\(∀u,RelV y u->u=d)/\ExcC K C/\kitOne K (.ref C) d=some b/\Q (.bl b) H
theorem zb2:CallR X (.builtin "isinstance") (q4a X.K):=by
 intro pins s σ H xs us Q I r h
 obtain⟨x,C,y,d,b,rfl,hx,rd,ud,c,e,q⟩:=h
 obtain⟨u,u2,rfl,r1,r2⟩:=r.two
 cases r1
 cases ud _ r2
 obtain⟨ho,_⟩:=(show ObjOk X.prog X.w H s.heap x (HO.exc x C) from I.hok x _ hx)
 exact kia_one (zxj c) I.kIn ho e (fun z=>nomatch z) fun tk=>⟨.bl b,H,I.tok tk,rfl,q⟩
def zoy:V->List V->Hp->VK->Prop:=fun x vs H Q=>∃(l:Addr) (bs:List Bool) (y:Bool),x=.ref l/\vs=[.bl y]/\H l=some (.lst (bs.map V.bl))/\Q (.int (bs.count y:Nat)) H
theorem zuq:MtM X "list.count" zoy:=by
 intro pins s σ H x vs v us Q I rx rv h
 obtain⟨l,bs,y,rfl,rfl,hH,q⟩:=h
 cases rx
 obtain⟨u,rfl,r1⟩:=rv.one
 cases r1
 obtain⟨z,its,n,r,hl,e⟩:=I.lstM hH
 obtain rfl:=zeb r
 refine call_meets F.slot_list_count ⟨_,e,rfl⟩ F.entry_list_count (F.args_list_count_2 _ _) (SeqAt.list_countAt l _ n _ _ (.bool y) fun u=>u == Value.bool y) ⟨e,fun u hu=>?_,?_⟩
 ·rw [List.mem_toArray] at hu
  obtain⟨b,hb,rfl⟩:=List.mem_map.mp hu
  intro prog w E Q hq
  refine SeqAt.EqAt.bool_bool b y prog w E Q ?_
  cases b<;>cases y<;>exact hq
 ·refine⟨.int _,H,I.kept (h':=s.heap) (t':=s.toks+1) fun b u e=>e,⟨_,rfl⟩,?_⟩
  rw [List.toList_toArray,show(bs.map Value.bool).countP (fun u=>u == Value.bool y)=bs.count y by
   rw [List.countP_map]; exact congrArg (fun f=>bs.countP f) (funext fun b=>by cases b<;>cases y<;>rfl)]
  exact q
end
section
variable{P:Program}{w:World}{K:PySem.W.Frag}{mg:Str->Option Value}{base:Heap}{N:List Str}{qual:Str}{scope:Scope}{f:Addr}{cd:Value}{A:Around}{outer:List PySem.Env}{s₀:Shared}{H₀:Hp}{E:XK}
theorem zby{x:Str}{C:Addr}{bm bmN:List Value}{B Bn newId nid inN initId:String}{e:Expr}{es:List Expr}{t:TA}{np cpos pos:Pos}(hx:nsIn K mainGlobals x=some (some (.ref C)))(hq:excIn K C bm newId=true)(Fn:ExcBaseFacts Bn newId inN bmN)(hBn:bm.contains (.type Bn)=true)(FB:ExcBaseFacts B nid initId bm)
  (ha:PA (z85 (CX1 P w) P w K mg base N qual scope f cd A outer s₀ H₀ E) (e::es) t) (hg:Gl (z85 (CX1 P w) P w K mg base N qual scope f cd A outer s₀ H₀ E) x) (hdb:(x == ("__debug__" : Str))=false:=by decide) (hst:z1z (e::es)=true:=by rfl) :
  PS (z85 (CX1 P w) P w K mg base N qual scope f cd A outer s₀ H₀ E) (.Raise (some (.Call (.Name x np) (e::es) [] cpos)) none pos) (fun D σ H=>t σ H fun vs H1=>vs.length<=sizeLine/\E (.ref C) none H1):=
 fun pins s σ H D I h=>zwz (zzz I.mod hx hq) Fn hBn FB ha hg hdb hst pins s σ H D I h
end
end L2
set_option Elab.async false
set_option linter.all false
set_option maxRecDepth 100000
namespace L2
open PySem PySem.Spec PyProof.Rows PySem.W
def ziz(s:Stmt)(j:Nat):Stmt:=match s with
 | .ClassDef _ _ _ b _ _ _ _ _ _ _=>(b[j]?).getD s
 | _=>s
structure CalleeM(P:Program)(w:World)(K:PySem.W.Frag)(mg:Str->Option Value)(base:Heap)(C:Addr)(m:Str)(ps:List Str)(k:Nat)(sp:Sp):Prop where
 ex:∃f fd,FnOk P w K mg base CX0 k f fd ps sp/\Meth K C m f/\Binds K fd ps []
structure CalleeI(P:Program)(w:World)(K:PySem.W.Frag)(mg:Str->Option Value)(base:Heap)(C:Addr)(ps:List Str)(k:Nat)(sp:Sp):Prop where
 ex:∃f fd,FnOk P w K mg base CX0 k f fd ps sp/\Mk K C f/\Binds K fd ps []
section
variable{X:Cx}{C:Addr}{m x:Str}{ps:List Str}{k j:Nat}{sp:Sp}{o e:Expr}{es:List Expr}{ta:TE}{t:TA}{p apos pos:Pos}{pl:Sem Bool}
theorem zx1(he:PE X o ta)(c:Cls X.K C)(M:CalleeM X.prog X.w X.K X.mg X.base C m ps k sp)(hr:Room j X.A)(hk:k<=j)(ha:PA X (e::es) t)(hst:z1z (e::es)=true:=by rfl)
  (ht:eval (.Call (.Attribute o m apos) (e::es) [] pos) X.env=(do
   let ov <- eval o X.env
   standAt apos.atName
   let (f,first) <- holding [ov] (getMethod ov m pl)
   callWith pos f first (backTo pos (starEach (e::es) X.env)) (backToKw pos (keywordEach [] X.env))):=by rfl):PE X (.Call (.Attribute o m apos) (e::es) [] pos) (zkh C m sp [] E0 ta t):=by
 obtain⟨f,fd,F,hm,hb⟩:=M
 have hst':=hst
 rw [z1z,Bool.and_eq_true,Bool.not_eq_true'] at hst'
 exact zu9 he c hm F (hr.mono hk) hb .nil (fun _ _ _ _ _ _ _ z=>z.elim) ha (z0r hst'.1) (z1y hst'.2) ht
theorem zmk(he:PE X o ta)(c:Cls X.K C)(M:CalleeM X.prog X.w X.K X.mg X.base C m ps k sp)(hr:Room j X.A)(hk:k<=j)
  (ht:eval (.Call (.Attribute o m apos) [] [] pos) X.env=(do
   let ov <- eval o X.env
   standAt apos.atName
   let (f,first) <- holding [ov] (getMethod ov m pl)
   callWith pos f first (backTo pos (starEach [] X.env)) (backToKw pos (keywordEach [] X.env))):=by rfl):PE X (.Call (.Attribute o m apos) [] [] pos) (zkh C m sp [] E0 ta zq8):=by
 obtain⟨f,fd,F,hm,hb⟩:=M
 exact zqm he c hm F (hr.mono hk) hb .nil (fun _ _ _ _ _ _ _ z=>z.elim) ht
theorem q4b(M:CalleeI X.prog X.w X.K X.mg X.base C ps k sp)(hr:Room j X.A)(hk:k+1<=j)(hg:Gl X x)(hm:X.mg x=some (.ref C))(ha:PA X (e::es) t) (hdb:(x == ("__debug__" : Str))=false:=by decide) (hst:z1z (e::es)=true:=by rfl) :
  PE X (.Call (.Name x p) (e::es) [] pos) (zrt C sp [] E0 t):=by
 obtain⟨f,fd,F,hM,hb⟩:=M
 have hst':=hst
 rw [z1z,Bool.and_eq_true,Bool.not_eq_true'] at hst'
 exact zua hM F (hr.mono hk) hg hm hb .nil (fun _ _ _ _ _ _ _ z=>z.elim) ha hdb (z0r hst'.1) (z1y hst'.2)
end
end L2
set_option Elab.async false
set_option linter.all false
set_option maxRecDepth 100000
namespace L2
open PySem PySem.Spec PyProof.Rows PySem.W
theorem zzx{X:Cx}{E:XK}{E':Value->Shared->Prop}(hex:X.ex=[])(hsk:X.stack=X.env::X.outer)(hfr:X.env.frame=some X.env.locals){pins:List (Addr×Obj)}{σ : St}{H:Hp}{s:Shared}{e:Value}{s':Shared}(I:Inv X pins σ H s)(h:CX1 X.prog X.w X.stack H s E e s') :
  wpAny (model X.prog X.w) X.A (leaving X.env e) (fun _ s''=>CX1 X.prog X.w X.outer X.H₀ X.s₀ (fun c d H'=>(∀x a,X.env.cells.lookup x=some a->H' a=none)/\E c d H') e s'') E' s':=by
 obtain⟨x,T,C,H',rfl,os,bare,un,hok,fly,nx,nT,hx,hT,q⟩:=h
 have I1:=I.call' os un hok bare (fun b z=>absurd z (by simp))
 obtain⟨a0,fl⟩:=fly.flying
 refine wpAny_leaves_onW (env:=X.env) (outer:=X.outer) (by rw [<- hsk]; exact I.ok.frames) hfr (by rw [<- hsk]; exact fl) fun h' fl' up=>?_
 obtain⟨T',nT',fly'⟩:=FlyAt.of fl'
 have new0:∀b,s.heap.get? b=none->X.s₀.heap.get? b=none:=fun b z=>by
  cases q0:X.s₀.heap.get? b with
  | none=>rfl
  | some o=>
   obtain⟨o',e'⟩:=I.base.there b o q0 (by rw [hex]; simp)
   rw [z] at e'; cases e'
 have new1:∀b,s'.heap.get? b=none->X.s₀.heap.get? b=none:=fun b z=>by
  cases q0:X.s₀.heap.get? b with
  | none=>rfl
  | some o=>
   obtain⟨o',e'⟩:=I1.base.there b o q0 (by rw [hex]; simp)
   rw [z] at e'; cases e'
 have hL:∀b o,X.s₀.heap.get? b=some o->b≠X.env.locals:=fun b o q0=>Nat.ne_of_lt (Nat.lt_of_lt_of_le (Heap.lt_size q0) I.ok.above)
 have tT:X.s₀.heap.get? T'=none/\H' T'=none:=by
  cases q1:s'.heap.get? T' with
  | none=>
   refine⟨new1 _ q1,?_⟩
   cases q2:H' T' with
   | none=>rfl
   | some u=>obtain⟨o,e'⟩:=(hok _ _ q2).obj; rw [q1] at e'; cases e'
  | some o=>
   have hm:T'∈x::T::frs X.stack:=by
    refine Classical.byContradiction fun z=>?_
    have:=hideAll_get _ q1 z
    rw [show hideAll s'.heap _=q1l s'.heap _ x T from rfl,nT'] at this
    cases this
   rcases List.mem_cons.mp hm with rfl | hm
   ·exact absurd rfl fly'.2.2.2.1
   ·rcases List.mem_cons.mp hm with rfl | hm
    ·exact⟨new0 _ nT,hT⟩
    ·obtain⟨⟨B,ff⟩,_⟩:=fly
     obtain⟨_,o',ho,hnf⟩:=ff.mem hm
     obtain⟨sl,hs⟩:=up _ _ ho hnf
     obtain⟨_,_,_,_,_,_,oT,ts,_,_,_,_,_,_,hT2,hdT,_⟩:=fly'
     rw [hs] at hT2
     cases hT2
     exact absurd hdT (hnf ts)
 have US:=zog (H:=H') fl'.1 up fly.1
 have nst:∀b o,X.s₀.heap.get? b=some o->b∉X.fs->b∉frs X.stack:=fun b o q0 n z=>by
  rcases List.mem_cons.mp (I.stkSub b z) with z | z
  ·exact hL b o q0 z
  ·exact n z
 have nxT:∀b o,X.s₀.heap.get? b=some o->b∉[x,T]:=fun b o q0 z=>by
  simp only[List.mem_cons,List.not_mem_nil,or_false] at z
  rcases z with rfl | rfl
  ·rw [new0 _ nx] at q0; cases q0
  ·rw [new0 _ nT] at q0; cases q0
 have exn:∀b,b∉X.ex:=fun b=>by rw [hex]; simp
 refine⟨x,T',C,H',rfl,os.trans I.os,bare,?_,zlh hok fl'.1 hx hT I1.stkFree,fly',new0 _ nx,tT.1,hx,tT.2,fun y a ya=>I1.freeC y a ya,q⟩
 refine⟨fun b o q0 n n1 _=>?_,fun b o q0 n n1 _=>?_,fun b o q0 n _=>I1.base.free b o q0 n (exn b),fun b o q0 _=>?_,I1.base.tups,I1.base.frzs,I1.base.tbls⟩
 ·exact US.keep b o (I1.base.keep b o q0 n n1 (exn b)) (I1.base.free b o q0 n (exn b)) (nst b o q0 n1) (nxT b o q0)
 ·obtain⟨sl,e1⟩:=I1.base.slot b o q0 n n1 (exn b)
  by_cases z:b∈frs X.stack
  ·obtain⟨sl',e2⟩:=US.slot b _ e1 (I1.base.free b o q0 n (exn b)) z (nxT b o q0)
   exact⟨sl',e2⟩
  ·exact⟨sl,US.keep b _ e1 (I1.base.free b o q0 n (exn b)) z (nxT b o q0)⟩
 ·obtain⟨o',e1⟩:=I1.base.there b o q0 (exn b)
  exact US.there b o' e1 (nxT b o q0)
abbrev q3d(P:Program)(w:World)(K:PySem.W.Frag)(mg:Str->Option Value)(base:Heap)(N:List Str)(D:LamD)(cl:List (Str×Addr))(f c':Addr)(A:Around)(outer:List PySem.Env)(s:Shared)(H:Hp)(E:XK):Cx:=
 (cxL P w K mg base N D cl f c' A outer s H E0).wish fun e s'=>wpAny (model P w) (A.deeper (PySem.W.envX D.qual D.scope s.heap.objs.size f (.ref c') cl)) (leaving (PySem.W.envX D.qual D.scope s.heap.objs.size f (.ref c') cl) e) (fun _ s''=>CX1 P w outer H s E e s'') (fun e' s''=>CX1 P w outer H s E e' s'') s'
section
variable{P:Program}{w:World}{K:PySem.W.Frag}{mg:Str->Option Value}{base:Heap}{k:Nat}{ps fr N:List Str}{D:LamD}{cl:List (Str×Addr)}{f c':Addr}{A:Around}{outer:List PySem.Env}{s:Shared}{H:Hp}{us:List Value}{vs ws:List V}{Q:VK}{E:XK}
theorem zzw(S:LamScope ps fr cl D.scope)(e0:Env0 P w K mg base A outer s H)(ac:AreCells (cl.map (·.2)) H) :
  zaa (CX1 P w) (q3d P w K mg base N D cl f c' A outer s H E) (fun c d H'=>(∀b∈cl.map (·.2),H' b=none)->E c d (zcq (cl.map (·.2)) H H')):=by
 intro pins σ H2 s2 e s' I h
 refine wpAny_mono (zzx (X:=q3d P w K mg base N D cl f c' A outer s H E) (E':=fun _ _=>False) rfl rfl rfl I h) (fun _ s'' hq=>?_) fun _ _ z=>z.elim
 obtain⟨x,T,C,H',rfl,os,bare,un,hok,fly,nx,nT,hx,hT,hcell,q⟩:=hq
 have nC:∀c∈cl.map (·.2),H' c=none:=fun c hc=>by
  obtain⟨⟨y,c2⟩,hm,rfl⟩:=List.mem_map.mp hc
  exact hcell y c2 (S.look y c2 hm)
 have nin:∀b,s.heap.get? b=none->b∉cl.map (·.2):=fun b z hb=>by
  obtain⟨o,e⟩:=ac b hb
  obtain⟨u,e'⟩:=(e0.hok b _ e).obj
  rw [z] at e'; cases e'
 refine⟨x,T,C,zcq (cl.map (·.2)) H H',rfl,os,bare,Un.ret (cs:=cl.map fun x=>x.2) (H:=H) un ac,HOk.ret e0.hok hok ac nC fun c hc o e=>?_,fly,nx,nT,by rw [z5o (nin _ nx)]; exact hx,by rw [z5o (nin _ nT)]; exact hT,q nC⟩
 refine un.keep c o e (z7u hc) (fun z=>?_) (by simp)
 obtain⟨o',q'⟩:=ac c hc
 have:=e0.frf c z
 rw [q'] at this
 cases this
theorem zxi(S:LamScope ps fr cl D.scope)(hr:Room (k+1) A)(e0:Env0 P w K mg base A outer s H)(hf:H f=some (zoc D cl f c'))(hc:H c'=some (zax c' D.qual))(hl:vs.length=ps.length)(r:Vals vs us)(hlw:ws.length=fr.length)
  (cells:∀c∈cl.map (·.2),∃o x,H c=some (z3w c o)/\o.data=.cell x)
  (hw:∀(i:Nat) (x:Str) (v:V),fr[i]?=some x->ws[i]?=some v->∃c o u,cl.lookup x=some c/\H c=some (z3w c o)/\o.data=.cell (some u)/\RelV v u)
  (hbind:∀fd:FuncData,fd.params=D.params->fd.defaults=.none->fd.kwdefaults=.none->fd.scope=D.scope->bindArgs fd ⟨us,[]⟩=pure (ps.zip us))
  (hbody:Room k (A.deeper (PySem.W.envX D.qual D.scope s.heap.objs.size f (.ref c') cl))->∃t,PE (q3d P w K mg base (ps++fr) D cl f c' A outer s H E) D.body t/\t ((vs++ws).map some) (zeu (cl.map (·.2)) H) fun v H'=>(∀c∈cl.map (·.2),H' c=none)->Q v (zcq (cl.map (·.2)) H H')) :
  codeAny (model P w) A (.call (.ref f) ⟨us,[]⟩) (CR (CX1 P w) outer P w H s Q E) s:=by
 obtain⟨⟨pm,ctv,hfo⟩,_⟩:=e0.hok f _ hf
 obtain⟨hcr,_⟩:=e0.hok c' _ hc
 have ac:AreCells (cl.map (·.2)) H:=fun c hc=>by
  obtain⟨o,_,q,_⟩:=cells c hc
  exact⟨o,q⟩
 have lim:s.heap.NoLimit:=e0.mod.nolimit.keeps fun b o e=>(e0.bs b o e).1
 refine PySem.W.kla_callFunE hr.depth hfo rfl S.co S.gen rfl hcr ?_
 rw [hbind _ rfl rfl rfl rfl]
 refine wpAny_pure (wpAny_newFunctionEnv S.nocell (fun y hy=>S.par _ (List.of_mem_zip hy).1) (fun h₁ hns hsb=>⟨lim.fresh _ hsb,?_⟩) S.kind)
 show codeAny _ _ (.expr D.body (PySem.W.envX D.qual D.scope s.heap.objs.size f (.ref c') cl)) _ _
 have hk₁:∀b o,s.heap.get? b=some o->h₁.get? b=some o:=fun b o e=>hsb.extBut b o (Nat.ne_of_lt (Heap.lt_size e)) (Heap.get?_push_of_some _ e)
 obtain⟨t,ht,q⟩:=hbody (hr.deeper _)
 have I:=zv6 (K:=K) (f:=f) (c':=c') (E:=E0) (tk:=s.toks+(ps.zip us).length) S hr.hd e0 hl r hlw cells hw hns hk₁
 refine PySem.W.kla_codeExpr (wpAny_mono (ht [] _ _ _ _ (I.wish _) q) (fun u s' hs=>?_) fun e s' hs=>hs)
 obtain⟨v,H',J,rv,qv⟩:=hs
 have nC:∀c∈cl.map (·.2),H' c=none:=fun c hc=>by
  obtain⟨⟨x,c2⟩,hm,rfl⟩:=List.mem_map.mp hc
  exact J.freeC x c2 (S.look x c2 hm)
 replace qv:=qv nC
 refine⟨v,zcq (cl.map (·.2)) H H',J.os,J.bare,Un.ret (cs:=cl.map fun x=>x.2) (H:=H) J.base ac,HOk.ret e0.hok J.hok ac nC fun c hc o e=>?_,rv,qv⟩
 refine J.base.keep c o e (z7u hc) (fun z=>?_) (by show c∉([]:List Addr); simp)
 obtain⟨o',q'⟩:=ac c hc
 have:=e0.frf c z
 rw [q'] at this
 cases this
end
end L2
set_option Elab.async false
set_option linter.all false
set_option maxRecDepth 100000
namespace L2
open PySem PySem.Spec PyProof.Rows PySem.W
structure RoomH(k:Nat)(A:Around):Prop where
 dp:A.depth+3 * k+5 < recursionLimit
 un:A.units+16 * k+200 < cLine
theorem Room.h{k:Nat}{A:Around}(r:Room k A):RoomH k A:=⟨r.dp,r.un⟩
theorem Room.mark{k:Nat}{A:Around}{e:Value}(r:Room k A):RoomH k (A.mark (some e)):=⟨r.dp,r.un⟩
theorem RoomH.mono{j k:Nat}{A:Around}(r:RoomH k A)(h:j<=k):RoomH j A:=⟨by have:=r.dp; omega,by have:=r.un; omega⟩
theorem RoomH.deeper{k:Nat}{A:Around}(r:RoomH (k+1) A)(env:PySem.Env):RoomH k (A.deeper env):=
 ⟨by have:=r.dp; show A.depth+1+3 * k+5 < _; omega,by have:=r.un; show A.units+3+16 * k+200 < _; omega⟩
theorem RoomH.depth{k:Nat}{A:Around}(r:RoomH k A):A.depth < recursionLimit:=by have:=r.dp; omega
structure FnOkH(P:Program)(w:World)(K:PySem.W.Frag)(mg:Str->Option Value)(base:Heap)(k:Nat)(f:Addr)(fd:FuncData)(ps:List Str)(sp:Sp):Prop where
 len:∀vs H Q E,sp vs H Q E->vs.length=ps.length
 run:∀(A:Around) (outer:List PySem.Env) (s:Shared) (H:Hp) (args:Args) (us:List Value) (vs:List V) (Q:VK) (E:XK),RoomH k A->Env0 P w K mg base A outer s H->BindsTo s fd args (ps.zip us)->Vals vs us->sp vs H Q E->
  codeAny (model P w) A (.call (.ref f) args) (CR CX0 outer P w H s Q E) s
abbrev cxH(P:Program)(w:World)(K:PySem.W.Frag)(mg:Str->Option Value)(base:Heap)(N:List Str)(qual:Str)(scope:Scope)(f:Addr)(cd:Value)(A:Around)(outer:List PySem.Env)(s:Shared)(H:Hp):Cx:=
 {(z85 CX0 P w K mg base N qual scope f cd A outer s H E0) with calm:=false,xe:=fun _ _=>False}
theorem q2z{P:Program}{w:World}{K:PySem.W.Frag}{mg:Str->Option Value}{base:Heap}{k:Nat}{x qual:Str}{st:Stmt}{f:Addr}{fd:FuncData}{N ps:List Str}{sp:Sp}(F:Fun K x qual st f fd)(S:FnScope N ps (defScope st))(len:∀vs H Q E,sp vs H Q E->vs.length=ps.length)
  (hbody:∀(cdv:Value) (A:Around) (outer:List PySem.Env) (s:Shared) (H:Hp) (vs:List V) (Q:VK) (E:XK),RoomH k (A.deeper (envOfC qual (defScope st) s.heap.objs.size f cdv))->sp vs H Q E->
   ∃t,PSs (cxH P w K mg base N qual (defScope st) f cdv A outer s H) (defBody st) t/\t {nx:=fun _ H'=>Q .non H',rt:=Q} (start N vs) H):FnOkH P w K mg base (k+1) f fd ps sp:=by
 obtain⟨oc,od,kV,doc,pm,an,cdv,ct,osl,rfl,lk,hcd⟩:=F.ex
 refine⟨len,fun A outer s H args us vs Q E hr e0 hb r hsp=>?_⟩
 have hl:=len _ _ _ _ hsp
 have KX:K.In s.heap:=e0.mod.kin.keeps fun b o e=>(e0.bs b o e).1
 have lim:s.heap.NoLimit:=e0.mod.nolimit.keeps fun b o e=>(e0.bs b o e).1
 have hkind:∀y∈ps.zip us,(defScope st).names.lookup y.1=some .local\/((defScope st).names.lookup y.1=some .cell/\((cellsFrom (s.heap.objs.size+1) (defScope st).names []).lookup y.1).isSome=true):=fun⟨n,v⟩ hy=>by
  rcases S.par n (List.of_mem_zip hy).1 with q | q
  ·exact .inl q
  ·exact .inr ⟨q,PySem.W.cellsFrom_some _ _ _ (.inl q)⟩
 refine codeAny_call_function hr.depth (KX _ _ lk) rfl S.co S.gen rfl (PySem.W.codeRec_of KX hcd) (hb _ _ _ _ ?_)
 refine wpAny_newFunctionEnv_cells S.kind hkind fun env he s1 x=>?_
 subst he
 refine⟨lim.keeps x.toInCall.keep,codeAny_func ?_⟩
 obtain⟨t,ht,hq⟩:=hbody cdv A outer s H vs Q E (hr.deeper _) hsp
 have e1:Env0 P w K mg base {A with handled:=none} outer s H:=⟨e0.frames,e0.mod,e0.bs,e0.bsz,e0.funs,e0.frf,e0.hok,e0.bare⟩
 have J:Inv (z85 CX0 P w K mg base N qual (defScope st) f cdv {A with handled:=none} outer s H E0) [] (start N vs) H s1:=zn5 S rfl e1 hl r x
 have ok:=J.ok
 have okH:(cxH P w K mg base N qual (defScope st) f cdv A outer s H).Ok:=⟨ok.mod,ok.kind,ok.glob,ok.blt,ok.above,ok.inj,ok.has,ok.cab,(fun z=>nomatch z),ok.frames,ok.stk,ok.exf,ok.bs,ok.bsz,ok.noex,ok.exfs,ok.funs,ok.frf⟩
 have I:Inv (cxH P w K mg base N qual (defScope st) f cdv A outer s H) [] (start N vs) H s1:=⟨okH,J.os,J.bare,J.base,J.loc,J.cell,J.free,J.freeC,J.pin,J.hok,J.len⟩
 refine wpAny_mono (ht [] s1 (start N vs) H _ I hq) (fun fl s' hs=>?_) fun e s' hs=>False.elim hs
 have fin:∀{σ':St} {H':Hp} {v:V} {u:Value},Inv (cxH P w K mg base N qual (defScope st) f cdv A outer s H) [] σ' H' s'->RelV v u->Q v H'->CE outer P w H s Q u s':=
  fun {σ' H' v u} J rv q=>⟨v,H',J.os,J.bare,J.base,J.hok,rv,q⟩
 cases fl with
 | ret u=>
  obtain⟨v,σ',H',J,rv,q⟩:=hs
  exact fin J rv q
 | next=>
  obtain⟨σ',H',J,q⟩:=hs
  exact fin (v:=V.non) (u:=Value.none) J rfl q
 | brk=>
  obtain⟨_,_,_,q⟩:=hs
  exact False.elim q
 | cont=>
  obtain⟨_,_,_,q⟩:=hs
  exact False.elim q
end L2
set_option Elab.async false
set_option linter.all false
set_option maxRecDepth 100000
namespace L2
open PySem PySem.Spec PyProof.Rows PySem.W
structure CalleeH(P:Program)(w:World)(K:PySem.W.Frag)(mg:Str->Option Value)(base:Heap)(x:Str)(ps:List Str)(k:Nat)(sp:Sp):Prop where
 ex:∃f fd,FnOkH P w K mg base k f fd ps sp/\mg x=some (.ref f)/\PySem.W.keepIn K (.ref f)=true/\Binds K fd ps []
def q3v(P:Program)(w:World)(K:PySem.W.Frag)(mg:Str->Option Value)(base:Heap)(k:Nat)(f:Addr)(H:Hp)(vs:List V)(Q:VK)(E:XK):Prop:=
 ∀(A:Around) (outer:List PySem.Env) (s:Shared) (us:List Value),Room k A->Env0 P w K mg base A outer s H->Vals vs us->codeAny (model P w) A (.call (.ref f) ⟨us,[]⟩) (CR (CX1 P w) outer P w H s Q E) s
def zz7(K:PySem.W.Frag)(R:Addr->Hp->VK->XK->Prop)(Rc:Addr)(sp:Sp)(j:Nat):TS:=fun D σ H=>∃f,σ[j]?=some (some (.ref f))/\IsLam H f/\R f H D.rt
 (fun cls _ H2=>∃C,cls=.ref C/\exmOne K (.ref C) (.ref Rc)=some true/\∀x,H2 x=none->sp [.ref x] (upd H2 x (HO.exc x C)) D.rt E0)
theorem zzu{X:Cx}{d R n g:Str}{ps:List Str}{k k2 j i q:Nat}{sp:Sp}{Rc:Addr}{dp cpos rpos rp gp npos gcpos hrpos hpos pos:Pos}
  (C:CalleeH X.prog X.w X.K X.mg X.base g ps k2 sp) (hr:Room j X.A) (hk:k<=j) (hk2:k2<=j) (hex:X.ex=[]) (hsk:X.stack=X.env::X.outer) (hfr:X.env.frame=some X.env.locals)
  (hR:X.mg R=some (.ref Rc)) (hgR:Gl X R) (hN:X.N.Nodup) (hn:X.N[i]?=some n) (hnl:X.env.kindOf n=some .local) (hq:X.N[q]?=some d) (hdv:Vis X.env.scope d)
  (hg:Gl X g) (hdd:(d == ("__debug__" : Str))=false) (hcd:(d == ("__classdict__" : Str))=false) (hdg:(g == ("__debug__" : Str))=false) (hdR:(R == ("__debug__" : Str))=false) (hdn:(n == ("__debug__" : Str))=false) (hcn:(n == ("__classdict__" : Str))=false) :
  PS X (.Try [.Return (some (.Call (.Name d dp) [] [] cpos)) rpos] [.ExceptHandler (some (.Name R rp)) (some n) [.Return (some (.Call (.Name g gp) [.Name n npos] [] gcpos)) hrpos] hpos] [] [] pos) (zz7 X.K (fun f H Q E=>q3v X.prog X.w X.K X.mg X.base k f H [] Q E) Rc sp q):=by
 intro pins s σ H D I h
 obtain⟨fa,ei,hl,hRun⟩:=h
 refine wpAny_Try_except (wpAny_execs_cons (wpAny_Return_some (wpAny_Call_Name_kw ?_)))
 refine wpAny_mono (z00 (X:=X.nox) (pos:=dp) hq hdv hdd hcd pins s σ H (fun x' H'=>x'=.ref fa/\H'=H) (I.wish _) ⟨_,ei,rfl,rfl⟩) (fun u s0 ⟨x',H',I',r',ex,eH⟩=>?_) (fun _ _ z=>False.elim z)
 subst ex eH
 cases r'
 have J:=I'.unwish
 refine PySem.W.callWith_F0 (first:=[]) (hl.at J) ?_
 refine wpAny_call (codeAny_mono (hRun X.A X.stack s0 [] (hr.mono hk) J.env0 .nil) fun rs s' hq'=>?_)
 cases rs with
 | ok fl=>
  cases fl with
  | ret u=>
   obtain⟨v,H2,I2,r2,q2⟩:=J.after hq'
   exact⟨v,σ,H2,I2,r2,q2⟩
  | next=>exact False.elim hq'
  | brk=>exact False.elim hq'
  | cont=>exact False.elim hq'
 | error ev=>
  obtain⟨x,T,Ca,H2,rfl,os,bare,un,hok,fly,nx,nT,hx,hT,Cb,hcb,hmat,fin⟩:=hq'
  cases hcb
  have I2:=J.call' os un hok bare (fun b z=>absurd z (by simp))
  have sx:=J.strange hex nx
  have sT:=J.strange hex nT
  obtain⟨a0,fl⟩:=fly.flying
  have hfs:X.A.frames=some (X.env::X.outer):=by rw [<- hsk]; exact I.ok.frames
  refine wpAny_looks_onW (env:=X.env) (outer:=X.outer) hfs hfr (by rw [<- hsk]; exact fl) fun h3 held up3=>?_
  refine wpAny_landsW held fun h4 fl4 up4=>?_
  have up34:=up3.trans up4
  have I4:=I2.fly hex fl4.1 up34 sx sT hx hT
  have okm:(X.marked (.ref x)).Ok:=I.ok.marked
  refine wpAny_handleBy_cons (codeAny_handlers_test (z92 (I4.marked okm) hgR hR ?_ hdR)) (by intro z; cases z)
  obtain⟨ob,hob,hcl⟩:=fl4.there
  refine(exm_one I4.kIn (hcl ▸ (Looks.ld hob).andThen .now) hmat).here ?_
  refine codeAny_handlers_suite_as (lands_againW fl4 fun h5 fl5 up5=>?_)
  have I5:=I2.fly hex fl5.1 (up34.trans up5) sx sT hx hT
  obtain⟨ob5,hob5,hcl5⟩:=fl5.there
  have I6:=(I5.shown sx hx ⟨ob5,hob5,hcl5⟩).marked okm
  refine zki (X:=X.marked (.ref x)) I6 hN hn (.inl hnl) (v:=.ref x) rfl (fun s7 I7=>?_) (.inr hnl)
  have hil:i < σ.length:=by rw [I.len]; exact(List.getElem?_eq_some_iff.mp hn).1
  obtain⟨gf,fd,F,hm,hkp,hb⟩:=C
  have hgm:Gl (X.marked (.ref x)) g:=hg
  refine wpAny_execs_cons (wpAny_Return_some (wpAny_Call_Name_kw (z92 I7 hgm hm ?_ hdg)))
  have ha:PA (X.marked (.ref x)) [.Name n npos] (zd2 (zq6 i) zq8):=z06 (z00 (pos:=npos) hn (.inl hnl) hdn hcn) pa_nil
  refine PySem.W.callWith_K (h₀:=X.base) I.ok.mod.kin hkp (wpAny_mono (ha gcpos pins s7 _ _ (fun vs H'=>vs=[.ref x]/\H'=upd H2 x (HO.exc x Ca)) I7 ⟨.ref x,by rw [List.getElem?_set_self hil],rfl,rfl⟩) (fun us s8 ⟨vs,H8,I8,r8,ev,eH⟩=>⟨I8.kIn,?_⟩) fun _ _ z=>False.elim z)
  subst ev eH
  have hsp:=fin x hx
  have hl8:us.length=ps.length:=by rw [<- r8.length]; exact F.len _ _ _ _ hsp
  have hbb:=hb s8 us I8.kIn (by rw [List.append_nil]; exact hl8)
  rw [List.append_nil] at hbb
  refine wpAny_call (codeAny_mono (F.run (X.marked (.ref x)).A (X.marked (.ref x)).stack s8 _ ⟨us,[]⟩ us [.ref x] _ _ ((Room.mark hr).mono hk2) I8.env0 hbb r8 hsp) fun rs s9 hq9=>?_)
  cases rs with
  | error e=>exact False.elim hq9
  | ok fl=>
   cases fl with
   | ret u=>
    obtain⟨v,H9,I9,r9,q9⟩:=I8.after hq9
    have I9:=I9.unmarked I.ok
    obtain⟨m,hn9,_⟩:=id I9.loc
    refine wpAny_nameGoes_keeps hnl hn9 (by rw [I.ok.kind]; rfl) fun h10 v10 hn10 hs10=>?_
    exact⟨v,_,H9,I9.gone hN hn hn10 hn9 hs10,r9,q9⟩
   | next=>exact False.elim hq9
   | brk=>exact False.elim hq9
   | cont=>exact False.elim hq9
end L2
set_option Elab.async false
set_option linter.all false
set_option maxRecDepth 100000
namespace L2
open PySem PySem.Spec PyProof.Rows PySem.W
def zox:V->List V->Hp->VK->Prop:=fun x vs H Q=>∃(l:Addr) (bs:List Bool) (y:Bool) (j:Nat),x=.ref l/\vs=[.bl y]/\H l=some (.lst (bs.map V.bl))/\bs[j]?=some y/\(∀m,m < j->bs[m]?≠some y)/\j < 1000/\Q (.int j) H
theorem zup{X:Cx}:MtM X "list.index" zox:=by
 intro pins s σ H x vs v us Q I rx rv h
 obtain⟨l,bs,y,j,rfl,rfl,hH,hj,hno,hsm,q⟩:=h
 cases rx
 obtain⟨u,rfl,r1⟩:=rv.one
 cases r1
 obtain⟨z,its,n,r,hl,e⟩:=I.lstM hH
 obtain rfl:=zeb r
 have hjl:j < bs.length:=(List.getElem?_eq_some_iff.mp hj).1
 have at_:∀m (hm:m < (bs.map Value.bool).toArray.size),(bs.map Value.bool).toArray[m]=Value.bool (bs[m]'(by simpa using hm)):=fun m hm=>by simp
 refine call_meets F.slot_list_index ⟨_,e,rfl⟩ F.entry_list_index (F.args_list_index_2 _ _) (SeqAt.list_indexAt l _ n _ _ (.bool y) (fun u=>u == Value.bool y) j (by simpa using hjl) (by omega) ?_ fun m hm hlt=>?_) ⟨e,fun u hu=>?_,?_⟩
 ·rw [at_,(List.getElem?_eq_some_iff.mp hj).2]
  simp
 ·rw [at_]
  have hml:m < bs.length:=by simpa using hm
  have:=hno m hlt
  rw [List.getElem?_eq_getElem hml] at this
  have ne:bs[m]≠y:=fun z=>this (by rw [z])
  cases hb:bs[m]<;>cases y<;>simp_all
 ·rw [List.mem_toArray] at hu
  obtain⟨b,hb,rfl⟩:=List.mem_map.mp hu
  intro prog w E Q hq
  refine SeqAt.EqAt.bool_bool b y prog w E Q ?_
  cases b<;>cases y<;>exact hq
 ·exact⟨.int _,H,I.kept (h':=s.heap) (t':=s.toks+1) fun b u e=>e,⟨_,rfl⟩,q⟩
end L2
set_option Elab.async false
set_option linter.all false
set_option maxRecDepth 100000
namespace L2
open PySem PySem.Spec PyProof.Rows PySem.W
theorem zy6{fs:List Addr}{H1 H2:Hp}{h h':Heap}{c:Addr}{o:Obj}(un:Un fs [] (upd H1 c (z3w c o)) H2 h h')(ho:h.get? c=some o)(hco:h'.get? c=some o)(cfs:c∉fs)(hcn:H1 c=none):Un fs [] H1 (zeu [c] H2) h h':=by
 have out:∀{b:Addr} {u:HO},H1 b=some u->b≠c:=fun e=>z0d e hcn
 refine⟨fun b ob e n hb hx=>?_,fun b ob e n hb hx=>?_,fun b ob e n hx=>?_,fun b ob e hx=>un.there b ob e hx,fun b xs e=>?_,fun b ob w e=>?_,fun b qs e=>?_⟩
 ·by_cases hbc:b=c
  ·subst hbc; rw [ho] at e; cases e; exact hco
  ·exact un.keep b ob e (by rw [z0a hbc]; exact n) hb hx
 ·by_cases hbc:b=c
  ·subst hbc; exact absurd hb cfs
  ·exact un.slot b ob e (by rw [z0a hbc]; exact n) hb hx
 ·by_cases hbc:b=c
  ·subst hbc; exact z7u (List.mem_singleton.mpr rfl)
  ·exact z59 (un.free b ob e (by rw [z0a hbc]; exact n) hx)
 ·rw [z1d (by simpa using out e)]
  exact un.tups b xs (by rw [z0a (out e)]; exact e)
 ·rw [z1d (by simpa using out e)]
  exact un.frzs b ob w (by rw [z0a (out e)]; exact e)
 ·rw [z1d (by simpa using out e)]
  exact un.tbls b qs (by rw [z0a (out e)]; exact e)
def zfo(sp:Sp)(c:Addr)(i:Nat)(E:XK)(t:TA):TE:=fun σ H Q=>t σ H fun vs H1=>∃v,σ[i]?=some (some v)/\∀o u,o.data=.cell (some u)->RelV v u->H1 c=none->sp vs (upd H1 c (z3w c o)) (fun y H2=>H2 c=some (z3w c o)/\Q y (zeu [c] H2)) (fun cls d H2=>H2 c=some (z3w c o)/\E cls d (zeu [c] H2))
theorem zsd{X:Cx}{x y:Str}{c:Addr}{ps:List Str}{i k j:Nat}{sp:Sp}{e:Expr}{es:List Expr}{t:TA}{p pos:Pos}{E:XK}(C:CalleeX X.prog X.w X.K X.mg X.base x ps k sp)(hX:zaa (CX1 X.prog X.w) X E)(hr:Room j X.A)(hk:k<=j)(ha:PA X (e::es) t)
  (hN:X.N[i]?=some y) (hc:X.env.cells.lookup y=some c) (hy:X.env.kindOf y=some .cell) (hfn:X.fn y=true) (hg:Gl X x:=by rfl)
  (hdb:(x == ("__debug__" : Str))=false:=by decide) (hst:z1z (e::es)=true:=by rfl) :
  PE X (.Call (.Name x p) (e::es) [] pos) (zfo sp c i E t):=by
 have hst':=hst
 rw [z1z,Bool.and_eq_true,Bool.not_eq_true'] at hst'
 have he:=z0r (es:=es) (env:=X.env) hst'.1
 have hpl:=z1y (pos:=pos) (env:=X.env) hst'.2
 obtain⟨f,fd,F,hm,hkp,hb⟩:=C
 intro pins s σ H Q I h
 refine wpAny_Call_Name_kw (z92 I hg hm ?_ hdb)
 refine PySem.W.callWith_K (h₀:=X.base) I.ok.mod.kin hkp (thn (ha pos pins s σ H _ I h) fun us s1 ⟨vs,H1,I1,r,v,ei,q⟩=>⟨I1.kIn,?_⟩) he hpl
 obtain⟨m,hn,hl⟩:=id I1.loc
 obtain⟨u,ru,l⟩:=hl i y v hN ei (.inr (.inl hy))
 have hcell:s1.heap.IsCell c (some u):=by
  rcases l with⟨hk',_⟩ | ⟨_,c2,e2,z⟩
  ·rw [hy] at hk'; cases hk'
  ·rw [hc] at e2; cases e2; exact z
 obtain⟨o,ho,hd⟩:=hcell
 have hcn:H1 c=none:=I1.freeC y c hc
 have q':=q o u hd ru hcn
 have hH:HOk X.prog X.w (upd H1 c (z3w c o)) s1.heap:=fun b w e=>by
  by_cases hb:b=c
  ·subst hb
   rw [z01] at e
   cases e
   exact⟨ho,⟨o,ho⟩,fun h1 h2 z k=>k _ z⟩
  ·rw [z0a hb] at e
   exact(I1.hok b w e).stay (fun _ _ _ q=>q) (fun d z=>by rw [z0a (z0d z hcn)]; exact z) fun d xs z=>by rw [z0a (z0d z hcn)]; exact z
 have cfs:c∉frs X.stack:=fun z=>by
  rcases List.mem_cons.mp (I1.stkSub c z) with z | z
  ·exact I1.cne y c hc z
  ·obtain⟨_,ob,hob,_⟩:=I1.ok.funs.mem z
   exact absurd (Nat.lt_of_lt_of_le (Heap.lt_size hob) (I1.ok.cab y c hfn hc)) (Nat.lt_irrefl _)
 have e0:Env0 X.prog X.w X.K X.mg X.base X.A X.stack s1 (upd H1 c (z3w c o)):=by
  have z:=I1.env0
  refine⟨z.frames,z.mod,fun b ob e=>⟨(z.bs b ob e).1,?_⟩,z.bsz,z.funs,fun b hb=>?_,hH,z.bare⟩
  ·rw [z0a fun w=>?_]
   ·exact(z.bs b ob e).2
   ·subst w
    have:=Heap.lt_size (I1.ok.bs b ob e).1
    exact absurd (Nat.lt_of_lt_of_le this (I1.ok.cab y b hfn hc)) (Nat.lt_irrefl _)
  ·rw [z0a fun w=>cfs (by rw [<- w]; exact hb)]
   exact z.frf b hb
 have hln:us.length=ps.length:=by rw [<- r.length]; exact F.len _ _ _ _ q'
 have hbd:=hb s1 us I1.kIn (by rw [List.append_nil]; exact hln)
 rw [List.append_nil] at hbd
 have acs:∀{H2:Hp},H2 c=some (z3w c o)->AreCells [c] H2:=fun hc2 b hb=>by
  rw [List.mem_singleton] at hb
  subst hb
  exact⟨o,hc2⟩
 refine wpAny_call (codeAny_mono (F.run X.A X.stack s1 _ ⟨us,[]⟩ us vs _ _ (hr.mono hk) e0 hbd r q') fun r s' hq=>?_)
 cases r with
 | error e=>
  obtain⟨x2,T,C2,H2,rfl,os,bare,un,hok,fly,nx,nT,hx,hT,hc2,q2⟩:=hq
  exact hX pins σ H1 s1 _ s' I1 ⟨x2,T,C2,zeu [c] H2,rfl,os,bare,zy6 un ho (hok c _ hc2).1 cfs hcn,hok.hid (acs hc2),fly,nx,nT,z59 hx,z59 hT,q2⟩
 | ok fl=>
  cases fl with
  | next=>exact False.elim hq
  | brk=>exact False.elim hq
  | cont=>exact False.elim hq
  | ret u2=>
   obtain⟨v2,H2,os,bare,un,hok,rv,hc2,q2⟩:=hq
   exact⟨v2,zeu [c] H2,I1.call' os (zy6 un ho (hok c _ hc2).1 cfs hcn) (hok.hid (acs hc2)) bare (fun b z=>absurd z (by simp)),rv,q2⟩
end L2
set_option Elab.async false
set_option linter.all false
set_option maxRecDepth 100000
namespace L2
open PySem PySem.Spec PyProof.Rows PySem.W
structure CalleeMX(P:Program)(w:World)(K:PySem.W.Frag)(mg:Str->Option Value)(base:Heap)(C:Addr)(m:Str)(ps:List Str)(k:Nat)(sp:Sp):Prop where
 ex:∃f fd,FnOk P w K mg base (CX1 P w) k f fd ps sp/\Meth K C m f/\Binds K fd ps []
structure CalleeIX(P:Program)(w:World)(K:PySem.W.Frag)(mg:Str->Option Value)(base:Heap)(C:Addr)(ps:List Str)(k:Nat)(sp:Sp):Prop where
 ex:∃f fd,FnOk P w K mg base (CX1 P w) k f fd ps sp/\Mk K C f/\Binds K fd ps []
section
variable{X:Cx}{C:Addr}{m x:Str}{ps:List Str}{k j:Nat}{sp:Sp}{o e:Expr}{es:List Expr}{ta:TE}{t:TA}{p apos pos:Pos}{pl:Sem Bool}{E:XK}
theorem zym(he:PE X o ta)(c:Cls X.K C)(M:CalleeMX X.prog X.w X.K X.mg X.base C m ps k sp)(hx:zaa (CX1 X.prog X.w) X E)(hr:Room j X.A)(hk:k<=j)(ha:PA X (e::es) t)(hst:z1z (e::es)=true:=by rfl)
  (ht:eval (.Call (.Attribute o m apos) (e::es) [] pos) X.env=(do
   let ov <- eval o X.env
   standAt apos.atName
   let (f,first) <- holding [ov] (getMethod ov m pl)
   callWith pos f first (backTo pos (starEach (e::es) X.env)) (backToKw pos (keywordEach [] X.env))):=by rfl):PE X (.Call (.Attribute o m apos) (e::es) [] pos) (zkh C m sp [] E ta t):=by
 obtain⟨f,fd,F,hm,hb⟩:=M
 have hst':=hst
 rw [z1z,Bool.and_eq_true,Bool.not_eq_true'] at hst'
 exact zu9 he c hm F (hr.mono hk) hb .nil hx ha (z0r hst'.1) (z1y hst'.2) ht
theorem zu8(he:PE X o ta)(c:Cls X.K C)(M:CalleeMX X.prog X.w X.K X.mg X.base C m ps k sp)(hx:zaa (CX1 X.prog X.w) X E)(hr:Room j X.A)(hk:k<=j)
  (ht:eval (.Call (.Attribute o m apos) [] [] pos) X.env=(do
   let ov <- eval o X.env
   standAt apos.atName
   let (f,first) <- holding [ov] (getMethod ov m pl)
   callWith pos f first (backTo pos (starEach [] X.env)) (backToKw pos (keywordEach [] X.env))):=by rfl):PE X (.Call (.Attribute o m apos) [] [] pos) (zkh C m sp [] E ta zq8):=by
 obtain⟨f,fd,F,hm,hb⟩:=M
 exact zqm he c hm F (hr.mono hk) hb .nil hx ht
theorem q27(M:CalleeIX X.prog X.w X.K X.mg X.base C ps k sp)(hx:zaa (CX1 X.prog X.w) X E)(hr:Room j X.A)(hk:k+1<=j)(hg:Gl X x)(hm:X.mg x=some (.ref C))(ha:PA X (e::es) t) (hdb:(x == ("__debug__" : Str))=false:=by decide) (hst:z1z (e::es)=true:=by rfl) :
  PE X (.Call (.Name x p) (e::es) [] pos) (zrt C sp [] E t):=by
 obtain⟨f,fd,F,hM,hb⟩:=M
 have hst':=hst
 rw [z1z,Bool.and_eq_true,Bool.not_eq_true'] at hst'
 exact zua hM F (hr.mono hk) hg hm hb .nil hx ha hdb (z0r hst'.1) (z1y hst'.2)
end
end L2
set_option Elab.async false
set_option linter.all false
set_option maxRecDepth 100000
namespace L2
open PySem PySem.Spec PyProof.Rows PySem.W
def shw(os:List (Addr×Obj))(H:Hp):Hp:=fun b=>match os.lookup b with
 | some o=>some (z3w b o)
 | none=>H b
theorem zmd{os:List (Addr×Obj)}{H:Hp}{b:Addr}{o:Obj}(h:os.lookup b=some o):shw os H b=some (z3w b o):=by unfold shw; rw [h]
theorem zbx{os:List (Addr×Obj)}{H:Hp}{b:Addr}(h:os.lookup b=none):shw os H b=H b:=by unfold shw; rw [h]
theorem zai{os:List (Addr×Obj)}{b:Addr}(h:b∉os.map (·.1)):os.lookup b=none:=by
 cases e:os.lookup b with
 | none=>rfl
 | some o=>exact absurd (List.mem_map.mpr ⟨_,mem_of_lookupK e,rfl⟩) h
theorem zg0:∀{os:List (Addr×Obj)} {b:Addr},b∈os.map (·.1)->∃o,os.lookup b=some o
 | [],_,h=>absurd h (by simp)
 | (c,o)::os,b,h=>by
  by_cases e:b=c
  ·exact⟨o,by rw [List.lookup,e,beq_self_eq_true]⟩
  ·have:(b == c)=false:=by simpa using e
   rw [List.lookup,this]
   rw [List.map_cons,List.mem_cons] at h
   exact zg0 (h.resolve_left e)
theorem z8c{os:List (Addr×Obj)}{H:Hp}(hn:∀c∈os.map (·.1),H c=none){b:Addr}{u:HO}(e:H b=some u):shw os H b=some u:=by
 rw [zbx (zai fun z=>by rw [hn b z] at e; cases e)]
 exact e
theorem zxn{os:List (Addr×Obj)}{H:Hp}(hn:∀c∈os.map (·.1),H c=none):zeu (os.map (·.1)) (shw os H)=H:=by
 funext b
 by_cases hb:b∈os.map (·.1)
 ·rw [z7u hb,hn b hb]
 ·rw [z1d hb,zbx (zai hb)]
theorem zva{cs:List Addr}{H H':Hp}(hn:∀c∈cs,H' c=none):zeu cs (zcq cs H H')=H':=by
 funext b
 by_cases hb:b∈cs
 ·rw [z7u hb,hn b hb]
 ·rw [z1d hb,z5o hb]
def q16(X:Cx)(cs:List (Nat×Addr)):Prop:=∀q∈cs,∃y,X.N[q.1]?=some y/\X.env.cells.lookup y=some q.2/\X.env.kindOf y=some .cell/\X.fn y=true
def zhg(os:List (Addr×Obj))(ws:List V):Prop:=Paired (fun(q:Addr×Obj) (v:V)=>∃u,q.2.data=.cell (some u)/\RelV v u) os ws
def q4m(σ : St)(cs:List (Nat×Addr))(ws:List V):Prop:=Paired (fun(q:Nat×Addr) (v:V)=>σ[q.1]?=some (some v)) cs ws
theorem zrf{X:Cx}{pins:List (Addr×Obj)}{σ : St}{H:Hp}{s:Shared}(I:Inv X pins σ H s):∀{cs:List (Nat×Addr)} {ws:List V},q16 X cs->q4m σ cs ws->
  ∃os:List (Addr×Obj),os.map (·.1)=cs.map (·.2)/\zhg os ws/\∀q∈os,s.heap.get? q.1=some q.2
 | [],_,_,.nil=>⟨[],rfl,.nil,by simp⟩
 | (i,c)::cs,v::ws,hs,.cons e r=>by
  obtain⟨os,e1,e2,e3⟩:=zrf I (fun q hq=>hs q (.tail _ hq)) r
  obtain⟨y,hN,hc,hy,_⟩:=hs _ List.mem_cons_self
  obtain⟨m,hn,hl⟩:=id I.loc
  obtain⟨u,ru,l⟩:=hl i y v hN e (.inr (.inl hy))
  have hcell:s.heap.IsCell c (some u):=by
   rcases l with⟨hk',_⟩ | ⟨_,c2,e2,z⟩
   ·rw [hy] at hk'; cases hk'
   ·rw [hc] at e2; cases e2; exact z
  obtain⟨o,ho,hd⟩:=hcell
  refine⟨(c,o)::os,by rw [List.map_cons,List.map_cons,e1],.cons ⟨u,hd,ru⟩ e2,fun q hq=>?_⟩
  rcases List.mem_cons.mp hq with rfl | hq
  ·exact ho
  ·exact e3 q hq
def zju(sp:Sp)(cs:List (Nat×Addr))(t:TA):TE:=fun σ H Q=>t σ H fun vs H1=>∃ws,q4m σ cs ws/\
 ∀os:List (Addr×Obj),os.map (·.1)=cs.map (·.2)->zhg os ws->(∀c∈os.map (·.1),H1 c=none)->
  sp vs (shw os H1) (fun y H2=>(∀c o,os.lookup c=some o->H2 c=some (z3w c o))/\Q y (zeu (os.map (·.1)) H2)) E0
theorem zse{X:Cx}{x:Str}{cs:List (Nat×Addr)}{ps:List Str}{k j:Nat}{sp:Sp}{e:Expr}{es:List Expr}{t:TA}{p pos:Pos}(C:Callee X.prog X.w X.K X.mg X.base x ps k sp)(hr:Room j X.A)(hk:k<=j)(ha:PA X (e::es) t)
  (hcs:q16 X cs) (hg:Gl X x:=by rfl) (hdb:(x == ("__debug__" : Str))=false:=by decide) (hst:z1z (e::es)=true:=by rfl) :
  PE X (.Call (.Name x p) (e::es) [] pos) (zju sp cs t):=by
 have hst':=hst
 rw [z1z,Bool.and_eq_true,Bool.not_eq_true'] at hst'
 have he:=z0r (es:=es) (env:=X.env) hst'.1
 have hpl:=z1y (pos:=pos) (env:=X.env) hst'.2
 obtain⟨f,fd,F,hm,hkp,hb⟩:=C
 intro pins s σ H Q I h
 refine wpAny_Call_Name_kw (z92 I hg hm ?_ hdb)
 refine PySem.W.callWith_K (h₀:=X.base) I.ok.mod.kin hkp (thn (ha pos pins s σ H _ I h) fun us s1 ⟨vs,H1,I1,r,ws,hw,q⟩=>⟨I1.kIn,?_⟩) he hpl
 obtain⟨os,em,hca,ho⟩:=zrf I1 hcs hw
 have inC:∀c∈os.map (·.1),∃y,X.env.cells.lookup y=some c/\X.fn y=true:=fun c hc=>by
  rw [em] at hc
  obtain⟨q,hq,rfl⟩:=List.mem_map.mp hc
  obtain⟨y,_,h1,_,h2⟩:=hcs q hq
  exact⟨y,h1,h2⟩
 have hcn:∀c∈os.map (·.1),H1 c=none:=fun c hc=>by
  obtain⟨y,h1,_⟩:=inC c hc
  exact I1.freeC y c h1
 have q':=q os em hca hcn
 have hoo:∀{c:Addr} {o:Obj},os.lookup c=some o->s1.heap.get? c=some o:=fun z=>ho _ (mem_of_lookupK z)
 have hH:HOk X.prog X.w (shw os H1) s1.heap:=fun b w e=>by
  cases hb:os.lookup b with
  | some o=>
   rw [zmd hb] at e
   cases e
   exact⟨hoo hb,⟨o,hoo hb⟩,fun h1 h2 z k=>k _ z⟩
  | none=>
   rw [zbx hb] at e
   exact(I1.hok b w e).stay (fun _ _ _ q=>q) (fun d z=>z8c hcn z) fun d xs z=>z8c hcn z
 have cfs:∀c∈os.map (·.1),c∉frs X.stack:=fun c hc z=>by
  obtain⟨y,h1,h2⟩:=inC c hc
  rcases List.mem_cons.mp (I1.stkSub c z) with z | z
  ·exact I1.cne y c h1 z
  ·obtain⟨_,ob,hob,_⟩:=I1.ok.funs.mem z
   exact absurd (Nat.lt_of_lt_of_le (Heap.lt_size hob) (I1.ok.cab y c h2 h1)) (Nat.lt_irrefl _)
 have e0:Env0 X.prog X.w X.K X.mg X.base X.A X.stack s1 (shw os H1):=by
  have z:=I1.env0
  refine⟨z.frames,z.mod,fun b ob e=>⟨(z.bs b ob e).1,?_⟩,z.bsz,z.funs,fun b hb=>?_,hH,z.bare⟩
  ·rw [zbx (zai fun w=>?_)]
   ·exact(z.bs b ob e).2
   ·obtain⟨y,h1,h2⟩:=inC b w
    have:=Heap.lt_size (I1.ok.bs b ob e).1
    exact absurd (Nat.lt_of_lt_of_le this (I1.ok.cab y b h2 h1)) (Nat.lt_irrefl _)
  ·rw [zbx (zai fun w=>cfs b w hb)]
   exact z.frf b hb
 have hln:us.length=ps.length:=by rw [<- r.length]; exact F.len _ _ _ _ q'
 have hbd:=hb s1 us I1.kIn (by rw [List.append_nil]; exact hln)
 rw [List.append_nil] at hbd
 refine wpAny_call (codeAny_mono (F.run X.A X.stack s1 _ ⟨us,[]⟩ us vs _ E0 (hr.mono hk) e0 hbd r q') fun r s' hq=>?_)
 cases r with
 | error e=>exact False.elim hq
 | ok fl=>
  cases fl with
  | next=>exact False.elim hq
  | brk=>exact False.elim hq
  | cont=>exact False.elim hq
  | ret u2=>
   obtain⟨v2,H2,os',bare,un,hok,rv,hc2,q2⟩:=hq
   have ac:AreCells (os.map (·.1)) H2:=fun b hb=>by
    obtain⟨o,e⟩:=zg0 hb
    exact⟨o,hc2 _ _ e⟩
   have out:∀{b:Addr} {u:HO},H1 b=some u->b∉os.map (·.1):=fun e z=>by rw [hcn _ z] at e; cases e
   refine⟨v2,zeu (os.map (·.1)) H2,I1.call' os' (ch:=[]) ⟨fun b ob e n hb hx=>?_,fun b ob e n hb hx=>?_,fun b ob e n hx=>?_,fun b ob e hx=>un.there b ob e hx,fun b xs e=>?_,fun b ob w e=>?_,fun b qs e=>?_⟩ (hok.hid ac) bare (fun b z=>absurd z (by simp)),rv,q2⟩
   ·cases hbc:os.lookup b with
    | some o=>rw [hoo hbc] at e; cases e; exact(hok b _ (hc2 _ _ hbc)).1
    | none=>exact un.keep b ob e (by rw [zbx hbc]; exact n) hb hx
   ·cases hbc:os.lookup b with
    | some o=>exact absurd hb (cfs b (List.mem_map.mpr ⟨_,mem_of_lookupK hbc,rfl⟩))
    | none=>exact un.slot b ob e (by rw [zbx hbc]; exact n) hb hx
   ·cases hbc:os.lookup b with
    | some o=>exact z7u (List.mem_map.mpr ⟨_,mem_of_lookupK hbc,rfl⟩)
    | none=>exact z59 (un.free b ob e (by rw [zbx hbc]; exact n) hx)
   ·rw [z1d (out e)]
    exact un.tups b xs (z8c hcn e)
   ·rw [z1d (out e)]
    exact un.frzs b ob w (z8c hcn e)
   ·rw [z1d (out e)]
    exact un.tbls b qs (z8c hcn e)
end L2
set_option maxHeartbeats 0
namespace SR
open PySem L2
abbrev CDF(x:Str):Prop:=(x == ("__classdict__" : Str))=false
abbrev DBF(x:Str):Prop:=(x == ("__debug__" : Str))=false
abbrev GLF(s:Stmt)(x:Str):Prop:=(defScope s).names.lookup x=some NameKind.globalImplicit
def top(i:Nat):Stmt:=PySem.Challenge.pw_smallrooms_k14_traces_refused.main.body.getD i (.Pass ⟨0,0,0,0⟩)
theorem zlw:bootBuiltins "ValueError" = some (.type "ValueError"):=by decide+kernel
theorem q13:bootBuiltins "bool" = some (.type "bool"):=by decide+kernel
theorem zwb:bootBuiltins "dict" = some (.type "dict"):=by decide+kernel
theorem q3m:bootBuiltins "int" = some (.type "int"):=by decide+kernel
theorem z2l:bootBuiltins "isinstance" = some (.builtin "isinstance"):=by decide+kernel
theorem zcp:bootBuiltins "len" = some (.builtin "len"):=by decide+kernel
theorem q3l:bootBuiltins "max" = some (.builtin "max"):=by decide+kernel
theorem q3k:bootBuiltins "min" = some (.builtin "min"):=by decide+kernel
theorem zo3:bootBuiltins "sorted" = some (.builtin "sorted"):=by decide+kernel
theorem z8j:bootBuiltins "tuple" = some (.type "tuple"):=by decide+kernel
theorem z1c:CDF "_law_at":=by decide+kernel
theorem zj0:CDF "_law_bad":=by decide+kernel
theorem z4e:CDF "_law_base":=by decide+kernel
theorem zco:CDF "_law_body":=by decide+kernel
theorem zo0:CDF "_law_deed":=by decide+kernel
theorem z7f:CDF "_law_deeds":=by decide+kernel
theorem z38:CDF "_law_deep":=by decide+kernel
theorem zb1:CDF "_law_drawn":=by decide+kernel
theorem zfg:CDF "_law_first":=by decide+kernel
theorem znz:CDF "_law_goal":=by decide+kernel
theorem zny:CDF "_law_high":=by decide+kernel
theorem zea:CDF "_law_ins":=by decide+kernel
theorem z4w:CDF "_law_k":=by decide+kernel
theorem z5b:CDF "_law_kept":=by decide+kernel
theorem zb0:CDF "_law_kinds":=by decide+kernel
theorem z0t:CDF "_law_known":=by decide+kernel
theorem z2x:CDF "_law_low":=by decide+kernel
theorem znx:CDF "_law_many":=by decide+kernel
theorem znw:CDF "_law_mine":=by decide+kernel
theorem znv:CDF "_law_more":=by decide+kernel
theorem zcn:CDF "_law_most":=by decide+kernel
theorem z6y:CDF "_law_name":=by decide+kernel
theorem z84:CDF "_law_one":=by decide+kernel
theorem z31:CDF "_law_program_here":=by decide+kernel
theorem ze9:CDF "_law_row":=by decide+kernel
theorem z09:CDF "_law_script":=by decide+kernel
theorem zjp:CDF "_law_second":=by decide+kernel
theorem zlv:CDF "_law_small":=by decide+kernel
theorem zgo:CDF "_law_some":=by decide+kernel
theorem z1m:CDF "_law_trace":=by decide+kernel
theorem ze8:CDF "_law_way":=by decide+kernel
theorem zlu:CDF "_law_words":=by decide+kernel
theorem z5q:CDF "_law_worths_here":=by decide+kernel
theorem zlt:CDF "_law_yours":=by decide+kernel
theorem znu:CDF "at":=by decide+kernel
theorem zrk:CDF "block":=by decide+kernel
theorem z2w:CDF "deed":=by decide+kernel
theorem zgn:CDF "deed_path":=by decide+kernel
theorem zw7:CDF "done":=by decide+kernel
theorem q5q:CDF "e":=by decide+kernel
theorem zff:CDF "had":=by decide+kernel
theorem q11:CDF "high":=by decide+kernel
theorem zy1:CDF "inner":=by decide+kernel
theorem zrj:CDF "ins":=by decide+kernel
theorem q3h:CDF "low":=by decide+kernel
theorem q0z:CDF "many":=by decide+kernel
theorem z2b:CDF "names":=by decide+kernel
theorem zw6:CDF "number":=by decide+kernel
theorem zcm:CDF "one":=by decide+kernel
theorem z5n:CDF "other":=by decide+kernel
theorem z1p:CDF "path":=by decide+kernel
theorem z3d:CDF "program":=by decide+kernel
theorem z5y:CDF "refusal":=by decide+kernel
theorem zkd:CDF "row":=by decide+kernel
theorem zaz:CDF "rows":=by decide+kernel
theorem q0y:CDF "seen":=by decide+kernel
theorem z0x:CDF "self":=by decide+kernel
theorem z2e:CDF "settle":=by decide+kernel
theorem z67:CDF "term":=by decide+kernel
theorem zay:CDF "thing":=by decide+kernel
theorem ze7:CDF "word":=by decide+kernel
theorem z66:CDF "worth":=by decide+kernel
theorem z4a:CDF "worths":=by decide+kernel
theorem zq1:DBF "BadPaper":=by decide+kernel
theorem zt2:DBF "BadPlan":=by decide+kernel
theorem znt:DBF "NoProgram":=by decide+kernel
theorem zfc:DBF "NoStep":=by decide+kernel
theorem zvy:DBF "NoText":=by decide+kernel
theorem ze6:DBF "NoWorths":=by decide+kernel
theorem zns:DBF "RoomError":=by decide+kernel
theorem zrd:DBF "Trace":=by decide+kernel
theorem zls:DBF "ValueError":=by decide+kernel
theorem zvx:DBF "WIDE":=by decide+kernel
theorem z1b:DBF "_law_at":=by decide+kernel
theorem zix:DBF "_law_bad":=by decide+kernel
theorem z4d:DBF "_law_base":=by decide+kernel
theorem z7e:DBF "_law_block":=by decide+kernel
theorem zcl:DBF "_law_body":=by decide+kernel
theorem znr:DBF "_law_cell":=by decide+kernel
theorem zlr:DBF "_law_class":=by decide+kernel
theorem ziw:DBF "_law_counted":=by decide+kernel
theorem znq:DBF "_law_deed":=by decide+kernel
theorem z7d:DBF "_law_deeds":=by decide+kernel
theorem z37:DBF "_law_deep":=by decide+kernel
theorem zaw:DBF "_law_drawn":=by decide+kernel
theorem zfb:DBF "_law_first":=by decide+kernel
theorem znp:DBF "_law_goal":=by decide+kernel
theorem zno:DBF "_law_high":=by decide+kernel
theorem ze5:DBF "_law_ins":=by decide+kernel
theorem z4v:DBF "_law_k":=by decide+kernel
theorem z5a:DBF "_law_kept":=by decide+kernel
theorem zav:DBF "_law_kinds":=by decide+kernel
theorem z0s:DBF "_law_known":=by decide+kernel
theorem z2v:DBF "_law_low":=by decide+kernel
theorem znn:DBF "_law_many":=by decide+kernel
theorem znm:DBF "_law_mine":=by decide+kernel
theorem znl:DBF "_law_more":=by decide+kernel
theorem zck:DBF "_law_most":=by decide+kernel
theorem z6w:DBF "_law_name":=by decide+kernel
theorem z83:DBF "_law_one":=by decide+kernel
theorem z0w:DBF "_law_pick":=by decide+kernel
theorem ziv:DBF "_law_program":=by decide+kernel
theorem z30:DBF "_law_program_here":=by decide+kernel
theorem ze4:DBF "_law_row":=by decide+kernel
theorem z08:DBF "_law_script":=by decide+kernel
theorem zjo:DBF "_law_second":=by decide+kernel
theorem zlq:DBF "_law_small":=by decide+kernel
theorem zgm:DBF "_law_some":=by decide+kernel
theorem z82:DBF "_law_sum":=by decide+kernel
theorem z6v:DBF "_law_told":=by decide+kernel
theorem z1l:DBF "_law_trace":=by decide+kernel
theorem ze3:DBF "_law_way":=by decide+kernel
theorem zlp:DBF "_law_words":=by decide+kernel
theorem zjn:DBF "_law_worths":=by decide+kernel
theorem z5p:DBF "_law_worths_here":=by decide+kernel
theorem zlo:DBF "_law_yours":=by decide+kernel
theorem znk:DBF "all_deeds":=by decide+kernel
theorem znj:DBF "at":=by decide+kernel
theorem zrc:DBF "block":=by decide+kernel
theorem zni:DBF "blocks_of":=by decide+kernel
theorem q0u:DBF "bool":=by decide+kernel
theorem z2u:DBF "deed":=by decide+kernel
theorem zgl:DBF "deed_path":=by decide+kernel
theorem za5:DBF "deeds_of_block":=by decide+kernel
theorem zvw:DBF "dict":=by decide+kernel
theorem z81:DBF "do_block":=by decide+kernel
theorem zt1:DBF "do_deed":=by decide+kernel
theorem zxy:DBF "do_if":=by decide+kernel
theorem zvv:DBF "do_set":=by decide+kernel
theorem zq0:DBF "do_while":=by decide+kernel
theorem zvu:DBF "done":=by decide+kernel
theorem q5p:DBF "e":=by decide+kernel
theorem zfa:DBF "had":=by decide+kernel
theorem q0t:DBF "high":=by decide+kernel
theorem zxx:DBF "inner":=by decide+kernel
theorem zrb:DBF "ins":=by decide+kernel
theorem q3b:DBF "int":=by decide+kernel
theorem zdk:DBF "is_tuple_of":=by decide+kernel
theorem zpz:DBF "is_whole":=by decide+kernel
theorem zbd:DBF "is_whole_from":=by decide+kernel
theorem z2k:DBF "isinstance":=by decide+kernel
theorem zcj:DBF "len":=by decide+kernel
theorem q3a:DBF "low":=by decide+kernel
theorem q0s:DBF "many":=by decide+kernel
theorem q39:DBF "max":=by decide+kernel
theorem q38:DBF "min":=by decide+kernel
theorem z2a:DBF "names":=by decide+kernel
theorem za4:DBF "names_at_first":=by decide+kernel
theorem zvt:DBF "number":=by decide+kernel
theorem zci:DBF "one":=by decide+kernel
theorem z5m:DBF "other":=by decide+kernel
theorem z1o:DBF "path":=by decide+kernel
theorem z3c:DBF "program":=by decide+kernel
theorem zch:DBF "reckon":=by decide+kernel
theorem z5x:DBF "refusal":=by decide+kernel
theorem zk9:DBF "row":=by decide+kernel
theorem zau:DBF "rows":=by decide+kernel
theorem q37:DBF "run":=by decide+kernel
theorem ziu:DBF "run_by":=by decide+kernel
theorem q0r:DBF "seen":=by decide+kernel
theorem z0v:DBF "self":=by decide+kernel
theorem z2d:DBF "settle":=by decide+kernel
theorem znh:DBF "sorted":=by decide+kernel
theorem zxw:DBF "spots":=by decide+kernel
theorem z76:DBF "spots_of_term":=by decide+kernel
theorem z65:DBF "term":=by decide+kernel
theorem zt0:DBF "term_of":=by decide+kernel
theorem zat:DBF "thing":=by decide+kernel
theorem zng:DBF "traced":=by decide+kernel
theorem z8i:DBF "tuple":=by decide+kernel
theorem ze2:DBF "word":=by decide+kernel
theorem z64:DBF "worth":=by decide+kernel
theorem zpy:DBF "worth_of":=by decide+kernel
theorem z49:DBF "worths":=by decide+kernel
theorem zl8:("ValueError" : Str)≠"__name__":=by decide+kernel
theorem q08:("bool" : Str)≠"__name__":=by decide+kernel
theorem zuo:("dict" : Str)≠"__name__":=by decide+kernel
theorem q2m:("int" : Str)≠"__name__":=by decide+kernel
theorem z2j:("isinstance" : Str)≠"__name__":=by decide+kernel
theorem zc1:("len" : Str)≠"__name__":=by decide+kernel
theorem q2l:("max" : Str)≠"__name__":=by decide+kernel
theorem q2k:("min" : Str)≠"__name__":=by decide+kernel
theorem zmx:("sorted" : Str)≠"__name__":=by decide+kernel
theorem z8e:("tuple" : Str)≠"__name__":=by decide+kernel
abbrev q4s:Stmt:=top 0
abbrev z56:Stmt:=top 11
theorem sc_spots:FnScope ["program","rows","path","deed"] ["program"] (defScope z56):=⟨rfl,rfl,rfl,by decide+kernel,rfl,by decide+kernel,by decide+kernel⟩
theorem zev:GLF z56 "all_deeds":=by decide+kernel
theorem zbn:GLF z56 "spots_of_term":=by decide+kernel
theorem zh2:GLF z56 "term_of":=by decide+kernel
theorem zjh:Loc (defScope z56) "deed":=Or.inl (by decide+kernel)
theorem zjg:Loc (defScope z56) "path":=Or.inl (by decide+kernel)
theorem zjf:Loc (defScope z56) "rows":=Or.inl (by decide+kernel)
theorem zj7:Vis (defScope z56) "deed":=Or.inl (by decide+kernel)
theorem zj6:Vis (defScope z56) "path":=Or.inl (by decide+kernel)
theorem zfh:Vis (defScope z56) "program":=Or.inl (by decide+kernel)
theorem zdg:Vis (defScope z56) "rows":=Or.inl (by decide+kernel)
abbrev z45:Stmt:=top 12
theorem zou:FnScope ["thing"] ["thing"] (defScope z45):=⟨rfl,rfl,rfl,by decide+kernel,rfl,by decide+kernel,by decide+kernel⟩
theorem zh3:GLF z45 "bool":=by decide+kernel
theorem zin:GLF z45 "int":=by decide+kernel
theorem z6d:GLF z45 "isinstance":=by decide+kernel
theorem z89:Vis (defScope z45) "thing":=Or.inl (by decide+kernel)
abbrev z1g:Stmt:=top 13
theorem zgs:FnScope ["thing","low","high"] ["thing","low","high"] (defScope z1g):=⟨rfl,rfl,rfl,by decide+kernel,rfl,by decide+kernel,by decide+kernel⟩
theorem z95:GLF z1g "is_whole":=by decide+kernel
theorem zbj:Vis (defScope z1g) "high":=Or.inl (by decide+kernel)
theorem zbs:Vis (defScope z1g) "low":=Or.inl (by decide+kernel)
theorem z4i:Vis (defScope z1g) "thing":=Or.inl (by decide+kernel)
abbrev z1v:Stmt:=top 14
theorem zja:FnScope ["thing","many"] ["thing","many"] (defScope z1v):=⟨rfl,rfl,rfl,by decide+kernel,rfl,by decide+kernel,by decide+kernel⟩
theorem z96:GLF z1v "isinstance":=by decide+kernel
theorem zf1:GLF z1v "len":=by decide+kernel
theorem zdb:GLF z1v "tuple":=by decide+kernel
theorem zd1:Vis (defScope z1v) "many":=Or.inl (by decide+kernel)
theorem z6o:Vis (defScope z1v) "thing":=Or.inl (by decide+kernel)
abbrev z6r:Stmt:=top 15
theorem zs1:FnScope ["deed"] ["deed"] (defScope z6r):=⟨rfl,rfl,rfl,by decide+kernel,rfl,by decide+kernel,by decide+kernel⟩
theorem z6z:Vis (defScope z6r) "deed":=Or.inl (by decide+kernel)
abbrev z58:Stmt:=top 16
theorem zme:FnScope ["deed"] ["deed"] (defScope z58):=⟨rfl,rfl,rfl,by decide+kernel,rfl,by decide+kernel,by decide+kernel⟩
theorem z3n:Vis (defScope z58) "deed":=Or.inl (by decide+kernel)
abbrev z4m:Stmt:=top 17
theorem zmf:FnScope ["program"] ["program"] (defScope z4m):=⟨rfl,rfl,rfl,by decide+kernel,rfl,by decide+kernel,by decide+kernel⟩
theorem z7y:GLF z4m "deeds_of_block":=by decide+kernel
theorem zbv:Vis (defScope z4m) "program":=Or.inl (by decide+kernel)
abbrev z0b:Stmt:=top 18
theorem sc_deeds_of_block:FnScope ["block","path","rows","at","deed","deed_path","number","inner"] ["block","path"] (defScope z0b):=⟨rfl,rfl,rfl,by decide+kernel,rfl,by decide+kernel,by decide+kernel⟩
theorem z7x:GLF z0b "blocks_of":=by decide+kernel
theorem z69:GLF z0b "deeds_of_block":=by decide+kernel
theorem z7w:GLF z0b "enumerate":=by decide+kernel
theorem zc3:Loc (defScope z0b) "at":=Or.inl (by decide+kernel)
theorem zap:Loc (defScope z0b) "deed":=Or.inl (by decide+kernel)
theorem z7c:Loc (defScope z0b) "deed_path":=Or.inl (by decide+kernel)
theorem z9z:Loc (defScope z0b) "inner":=Or.inl (by decide+kernel)
theorem z90:Loc (defScope z0b) "number":=Or.inl (by decide+kernel)
theorem zao:Loc (defScope z0b) "rows":=Or.inl (by decide+kernel)
theorem zbu:Vis (defScope z0b) "at":=Or.inl (by decide+kernel)
theorem z9g:Vis (defScope z0b) "block":=Or.inl (by decide+kernel)
theorem z61:Vis (defScope z0b) "deed":=Or.inl (by decide+kernel)
theorem z52:Vis (defScope z0b) "deed_path":=Or.inl (by decide+kernel)
theorem z9f:Vis (defScope z0b) "inner":=Or.inl (by decide+kernel)
theorem z8s:Vis (defScope z0b) "number":=Or.inl (by decide+kernel)
theorem zae:Vis (defScope z0b) "path":=Or.inl (by decide+kernel)
theorem z4j:Vis (defScope z0b) "rows":=Or.inl (by decide+kernel)
abbrev z1f:Stmt:=top 19
theorem zgr:FnScope ["term","path"] ["term","path"] (defScope z1f):=⟨rfl,rfl,rfl,by decide+kernel,rfl,by decide+kernel,by decide+kernel⟩
theorem z4b:GLF z1f "spots_of_term":=by decide+kernel
theorem z3h:Vis (defScope z1f) "path":=Or.inl (by decide+kernel)
theorem z1r:Vis (defScope z1f) "term":=Or.inl (by decide+kernel)
abbrev zfw:Stmt:=top 21
theorem q1z:FnScope ["program","worths"] ["program","worths"] (defScope zfw):=⟨rfl,rfl,rfl,by decide+kernel,rfl,by decide+kernel,by decide+kernel⟩
theorem zli:GLF zfw "run_by":=by decide+kernel
theorem zhh:Vis (defScope zfw) "program":=Or.inl (by decide+kernel)
theorem zj8:Vis (defScope zfw) "worths":=Or.inl (by decide+kernel)
abbrev z33:Stmt:=top 22
theorem sc_traced:FnScope ["program","worths","rows"] ["program","worths"] (defScope z33):=⟨rfl,rfl,rfl,by decide+kernel,rfl,by decide+kernel,by decide+kernel⟩
theorem zbe:(defScope z33).names.lookup ("rows" : Str)=some NameKind.cell:=by decide+kernel
theorem zb9:GLF z33 "run_by":=by decide+kernel
theorem zc2:Loc (defScope z33) "rows":=Or.inr (by decide+kernel)
theorem z88:Vis (defScope z33) "program":=Or.inl (by decide+kernel)
theorem zbr:Vis (defScope z33) "rows":=Or.inr <| Or.inl (by decide+kernel)
theorem z99:Vis (defScope z33) "worths":=Or.inl (by decide+kernel)
abbrev z34:Stmt:=top 23
theorem sc_run_by:FnScope ["program","worths","settle","names","refusal"] ["program","worths","settle"] (defScope z34):=⟨rfl,rfl,rfl,by decide+kernel,rfl,by decide+kernel,by decide+kernel⟩
theorem z8g:GLF z34 "do_block":=by decide+kernel
theorem z5w:GLF z34 "names_at_first":=by decide+kernel
theorem zba:GLF z34 "sorted":=by decide+kernel
theorem zc7:GLF z34 "tuple":=by decide+kernel
theorem zb8:Loc (defScope z34) "names":=Or.inl (by decide+kernel)
theorem z8f:Loc (defScope z34) "refusal":=Or.inl (by decide+kernel)
theorem z5k:Vis (defScope z34) "names":=Or.inl (by decide+kernel)
theorem z51:Vis (defScope z34) "program":=Or.inl (by decide+kernel)
theorem z50:Vis (defScope z34) "refusal":=Or.inl (by decide+kernel)
theorem z9b:Vis (defScope z34) "settle":=Or.inl (by decide+kernel)
theorem z9a:Vis (defScope z34) "worths":=Or.inl (by decide+kernel)
abbrev z57:Stmt:=top 24
theorem zs2:FnScope ["worth","path","rows"] ["worth","path","rows"] (defScope z57):=⟨rfl,rfl,rfl,by decide+kernel,rfl,by decide+kernel,by decide+kernel⟩
theorem zc6:GLF z57 "WIDE":=by decide+kernel
theorem z70:Vis (defScope z57) "path":=Or.inl (by decide+kernel)
theorem zgq:Vis (defScope z57) "rows":=Or.inl (by decide+kernel)
theorem z3y:Vis (defScope z57) "worth":=Or.inl (by decide+kernel)
abbrev z0e:Stmt:=top 25
theorem sc_names_at_first:FnScope ["ins","worths","names","row","worth"] ["ins","worths"] (defScope z0e):=⟨rfl,rfl,rfl,by decide+kernel,rfl,by decide+kernel,by decide+kernel⟩
theorem z5g:GLF z0e "NoWorths":=by decide+kernel
theorem z4s:GLF z0e "is_tuple_of":=by decide+kernel
theorem z47:GLF z0e "is_whole_from":=by decide+kernel
theorem z6t:GLF z0e "len":=by decide+kernel
theorem z6s:GLF z0e "zip":=by decide+kernel
theorem z5t:Loc (defScope z0e) "names":=Or.inl (by decide+kernel)
theorem z6c:Loc (defScope z0e) "row":=Or.inl (by decide+kernel)
theorem z5s:Loc (defScope z0e) "worth":=Or.inl (by decide+kernel)
theorem z3i:Vis (defScope z0e) "ins":=Or.inl (by decide+kernel)
theorem z2r:Vis (defScope z0e) "names":=Or.inl (by decide+kernel)
theorem z1s:Vis (defScope z0e) "row":=Or.inl (by decide+kernel)
theorem z2q:Vis (defScope z0e) "worth":=Or.inl (by decide+kernel)
theorem z2i:Vis (defScope z0e) "worths":=Or.inl (by decide+kernel)
abbrev z1a:Stmt:=top 26
theorem sc_do_block:FnScope ["block","path","names","settle","at","deed","refusal"] ["block","path","names","settle"] (defScope z1a):=⟨rfl,rfl,rfl,by decide+kernel,rfl,by decide+kernel,by decide+kernel⟩
theorem zdy:GLF z1a "do_deed":=by decide+kernel
theorem zcd:GLF z1a "enumerate":=by decide+kernel
theorem zic:Loc (defScope z1a) "at":=Or.inl (by decide+kernel)
theorem zg2:Loc (defScope z1a) "deed":=Or.inl (by decide+kernel)
theorem zd7:Loc (defScope z1a) "refusal":=Or.inl (by decide+kernel)
theorem zhj:Vis (defScope z1a) "at":=Or.inl (by decide+kernel)
theorem zef:Vis (defScope z1a) "block":=Or.inl (by decide+kernel)
theorem zfl:Vis (defScope z1a) "deed":=Or.inl (by decide+kernel)
theorem zee:Vis (defScope z1a) "names":=Or.inl (by decide+kernel)
theorem zfk:Vis (defScope z1a) "path":=Or.inl (by decide+kernel)
theorem z78:Vis (defScope z1a) "refusal":=Or.inl (by decide+kernel)
theorem zdl:Vis (defScope z1a) "settle":=Or.inl (by decide+kernel)
abbrev z3f:Stmt:=top 27
theorem zs3:FnScope ["deed","path","names","settle"] ["deed","path","names","settle"] (defScope z3f):=⟨rfl,rfl,rfl,by decide+kernel,rfl,by decide+kernel,by decide+kernel⟩
theorem zh5:GLF z3f "do_if":=by decide+kernel
theorem zg3:GLF z3f "do_set":=by decide+kernel
theorem zdx:GLF z3f "do_while":=by decide+kernel
theorem z4r:Vis (defScope z3f) "deed":=Or.inl (by decide+kernel)
theorem z6g:Vis (defScope z3f) "names":=Or.inl (by decide+kernel)
theorem z74:Vis (defScope z3f) "path":=Or.inl (by decide+kernel)
theorem z60:Vis (defScope z3f) "settle":=Or.inl (by decide+kernel)
abbrev z4l:Stmt:=top 28
theorem sc_do_set:FnScope ["deed","path","names","settle","had"] ["deed","path","names","settle"] (defScope z4l):=⟨rfl,rfl,rfl,by decide+kernel,rfl,by decide+kernel,by decide+kernel⟩
theorem zh4:GLF z4l "reckon":=by decide+kernel
theorem zjk:Loc (defScope z4l) "had":=Or.inl (by decide+kernel)
theorem zbt:Vis (defScope z4l) "deed":=Or.inl (by decide+kernel)
theorem z8p:Vis (defScope z4l) "had":=Or.inl (by decide+kernel)
theorem zb5:Vis (defScope z4l) "names":=Or.inl (by decide+kernel)
theorem zhi:Vis (defScope z4l) "path":=Or.inl (by decide+kernel)
theorem zfj:Vis (defScope z4l) "settle":=Or.inl (by decide+kernel)
abbrev z5h:Stmt:=top 29
theorem sc_do_if:FnScope ["deed","path","names","settle","had"] ["deed","path","names","settle"] (defScope z5h):=⟨rfl,rfl,rfl,by decide+kernel,rfl,by decide+kernel,by decide+kernel⟩
theorem za0:GLF z5h "do_block":=by decide+kernel
theorem zio:GLF z5h "reckon":=by decide+kernel
theorem zla:Loc (defScope z5h) "had":=Or.inl (by decide+kernel)
theorem z8r:Vis (defScope z5h) "deed":=Or.inl (by decide+kernel)
theorem zad:Vis (defScope z5h) "had":=Or.inl (by decide+kernel)
theorem z7m:Vis (defScope z5h) "names":=Or.inl (by decide+kernel)
theorem z8q:Vis (defScope z5h) "path":=Or.inl (by decide+kernel)
theorem z73:Vis (defScope z5h) "settle":=Or.inl (by decide+kernel)
abbrev z19:Stmt:=top 30
theorem sc_do_while:FnScope ["deed","path","names","settle","done","had","refusal"] ["deed","path","names","settle"] (defScope z19):=⟨rfl,rfl,rfl,by decide+kernel,rfl,by decide+kernel,by decide+kernel⟩
theorem zdc:GLF z19 "do_block":=by decide+kernel
theorem zf2:GLF z19 "reckon":=by decide+kernel
theorem z9y:Loc (defScope z19) "done":=Or.inl (by decide+kernel)
theorem zh1:Loc (defScope z19) "had":=Or.inl (by decide+kernel)
theorem zd6:Loc (defScope z19) "refusal":=Or.inl (by decide+kernel)
theorem z6f:Vis (defScope z19) "deed":=Or.inl (by decide+kernel)
theorem z9e:Vis (defScope z19) "done":=Or.inl (by decide+kernel)
theorem z72:Vis (defScope z19) "had":=Or.inl (by decide+kernel)
theorem z8a:Vis (defScope z19) "names":=Or.inl (by decide+kernel)
theorem z6e:Vis (defScope z19) "path":=Or.inl (by decide+kernel)
theorem z77:Vis (defScope z19) "refusal":=Or.inl (by decide+kernel)
theorem z7l:Vis (defScope z19) "settle":=Or.inl (by decide+kernel)
abbrev z3k:Stmt:=top 31
theorem sc_reckon:FnScope ["term","path","names","settle","one","other"] ["term","path","names","settle"] (defScope z3k):=⟨rfl,rfl,rfl,by decide+kernel,rfl,by decide+kernel,by decide+kernel⟩
theorem zbb:GLF z3k "reckon":=by decide+kernel
theorem zew:GLF z3k "worth_of":=by decide+kernel
theorem zji:Loc (defScope z3k) "one":=Or.inl (by decide+kernel)
theorem zgy:Loc (defScope z3k) "other":=Or.inl (by decide+kernel)
theorem z71:Vis (defScope z3k) "names":=Or.inl (by decide+kernel)
theorem z8k:Vis (defScope z3k) "one":=Or.inl (by decide+kernel)
theorem z5l:Vis (defScope z3k) "other":=Or.inl (by decide+kernel)
theorem z3z:Vis (defScope z3k) "path":=Or.inl (by decide+kernel)
theorem z39:Vis (defScope z3k) "settle":=Or.inl (by decide+kernel)
theorem z2m:Vis (defScope z3k) "term":=Or.inl (by decide+kernel)
abbrev z3m:Stmt:=top 32
theorem zos:FnScope ["word","one","other"] ["word","one","other"] (defScope z3m):=⟨rfl,rfl,rfl,by decide+kernel,rfl,by decide+kernel,by decide+kernel⟩
theorem zim:GLF z3m "max":=by decide+kernel
theorem zil:GLF z3m "min":=by decide+kernel
theorem z28:Vis (defScope z3m) "one":=Or.inl (by decide+kernel)
theorem z1q:Vis (defScope z3m) "other":=Or.inl (by decide+kernel)
theorem z2f:Vis (defScope z3m) "word":=Or.inl (by decide+kernel)
abbrev z2o:Stmt:=ziz (top 34) 0
theorem zeh:FnScope ["self","program","worths"] ["self","program","worths"] (defScope z2o):=⟨rfl,rfl,rfl,by decide+kernel,rfl,by decide+kernel,by decide+kernel⟩
theorem z79:GLF z2o "traced":=by decide+kernel
theorem z3j:Vis (defScope z2o) "program":=Or.inl (by decide+kernel)
theorem z1e:Vis (defScope z2o) "self":=Or.inl (by decide+kernel)
theorem z3o:Vis (defScope z2o) "worths":=Or.inl (by decide+kernel)
abbrev z5c:Stmt:=ziz (top 34) 1
theorem zov:FnScope ["self"] ["self"] (defScope z5c):=⟨rfl,rfl,rfl,by decide+kernel,rfl,by decide+kernel,by decide+kernel⟩
theorem zf5:GLF z5c "NoStep":=by decide+kernel
theorem ziq:GLF z5c "len":=by decide+kernel
theorem z3a:Vis (defScope z5c) "self":=Or.inl (by decide+kernel)
abbrev z3q:Stmt:=ziz (top 34) 2
theorem zei:FnScope ["self"] ["self"] (defScope z3q):=⟨rfl,rfl,rfl,by decide+kernel,rfl,by decide+kernel,by decide+kernel⟩
theorem zdf:GLF z3q "NoStep":=by decide+kernel
theorem z0y:Vis (defScope z3q) "self":=Or.inl (by decide+kernel)
abbrev z2t:Stmt:=ziz (top 34) 3
theorem sc_Trace_to:FnScope ["self","path","at"] ["self","path"] (defScope z2t):=⟨rfl,rfl,rfl,by decide+kernel,rfl,by decide+kernel,by decide+kernel⟩
theorem zf3:GLF z2t "NoStep":=by decide+kernel
theorem zcf:GLF z2t "len":=by decide+kernel
theorem za1:GLF z2t "range":=by decide+kernel
theorem zc5:Loc (defScope z2t) "at":=Or.inl (by decide+kernel)
theorem z43:Vis (defScope z2t) "at":=Or.inl (by decide+kernel)
theorem z9h:Vis (defScope z2t) "path":=Or.inl (by decide+kernel)
theorem z15:Vis (defScope z2t) "self":=Or.inl (by decide+kernel)
abbrev z36:Stmt:=ziz (top 34) 4
theorem zhx:FnScope ["self"] ["self"] (defScope z36):=⟨rfl,rfl,rfl,by decide+kernel,rfl,by decide+kernel,by decide+kernel⟩
theorem zdz:GLF z36 "len":=by decide+kernel
theorem z55:Vis (defScope z36) "self":=Or.inl (by decide+kernel)
abbrev z3p:Stmt:=ziz (top 34) 5
theorem zkt:FnScope ["self","path"] ["self","path"] (defScope z3p):=⟨rfl,rfl,rfl,by decide+kernel,rfl,by decide+kernel,by decide+kernel⟩
theorem zf4:GLF z3p "dict":=by decide+kernel
theorem zdm:Vis (defScope z3p) "path":=Or.inl (by decide+kernel)
theorem z7n:Vis (defScope z3p) "self":=Or.inl (by decide+kernel)
abbrev zws:Stmt:=ziz (top 34) 6
abbrev z22:Stmt:=ziz (top 34) 7
theorem sc_Trace_unseen:FnScope ["self","seen"] ["self"] (defScope z22):=⟨rfl,rfl,rfl,by decide+kernel,rfl,by decide+kernel,by decide+kernel⟩
theorem zdd:GLF z22 "dict":=by decide+kernel
theorem zce:GLF z22 "spots":=by decide+kernel
theorem zc4:Loc (defScope z22) "seen":=Or.inr (by decide+kernel)
theorem z54:Vis (defScope z22) "self":=Or.inl (by decide+kernel)
abbrev z2n:Stmt:=ziz (top 34) 8
theorem zgt:FnScope ["self"] ["self"] (defScope z2n):=⟨rfl,rfl,rfl,by decide+kernel,rfl,by decide+kernel,by decide+kernel⟩
theorem zde:GLF z2n "run":=by decide+kernel
theorem z6b:Vis (defScope z2n) "self":=Or.inl (by decide+kernel)
abbrev zwj:Stmt:=ziz (top 34) 9
abbrev zyg:Stmt:=ziz (top 34) 10
abbrev z4x:Stmt:=top 36
theorem zot:FnScope ["_law_script","_law_k"] ["_law_script","_law_k"] (defScope z4x):=⟨rfl,rfl,rfl,by decide+kernel,rfl,by decide+kernel,by decide+kernel⟩
theorem zcc:GLF z4x "len":=by decide+kernel
theorem z4g:Vis (defScope z4x) "_law_k":=Or.inl (by decide+kernel)
theorem z20:Vis (defScope z4x) "_law_script":=Or.inl (by decide+kernel)
abbrev z3b:Stmt:=top 37
theorem sc_law_pick:FnScope ["_law_script","_law_k","_law_many","_law_drawn"] ["_law_script","_law_k","_law_many"] (defScope z3b):=⟨rfl,rfl,rfl,by decide+kernel,rfl,by decide+kernel,by decide+kernel⟩
theorem zc9:GLF z3b "_law_cell":=by decide+kernel
theorem zaj:Loc (defScope z3b) "_law_drawn":=Or.inl (by decide+kernel)
theorem z4f:Vis (defScope z3b) "_law_drawn":=Or.inl (by decide+kernel)
theorem z7k:Vis (defScope z3b) "_law_k":=Or.inl (by decide+kernel)
theorem zbi:Vis (defScope z3b) "_law_many":=Or.inl (by decide+kernel)
theorem z9c:Vis (defScope z3b) "_law_script":=Or.inl (by decide+kernel)
abbrev z1t:Stmt:=top 38
theorem sc_law_sum:FnScope ["_law_script","_law_at","_law_known","_law_deep","_law_way","_law_words","_law_one"] ["_law_script","_law_at","_law_known","_law_deep"] (defScope z1t):=⟨rfl,rfl,rfl,by decide+kernel,rfl,by decide+kernel,by decide+kernel⟩
theorem z2y:GLF z1t "_law_pick":=by decide+kernel
theorem z7v:GLF z1t "_law_sum":=by decide+kernel
theorem zjm:GLF z1t "len":=by decide+kernel
theorem zd4:Loc (defScope z1t) "_law_one":=Or.inl (by decide+kernel)
theorem zd3:Loc (defScope z1t) "_law_way":=Or.inl (by decide+kernel)
theorem zbk:Loc (defScope z1t) "_law_words":=Or.inl (by decide+kernel)
theorem z1x:Vis (defScope z1t) "_law_at":=Or.inl (by decide+kernel)
theorem z53:Vis (defScope z1t) "_law_deep":=Or.inl (by decide+kernel)
theorem z2c:Vis (defScope z1t) "_law_known":=Or.inl (by decide+kernel)
theorem zcz:Vis (defScope z1t) "_law_one":=Or.inl (by decide+kernel)
theorem z12:Vis (defScope z1t) "_law_script":=Or.inl (by decide+kernel)
theorem zcy:Vis (defScope z1t) "_law_way":=Or.inl (by decide+kernel)
theorem zbh:Vis (defScope z1t) "_law_words":=Or.inl (by decide+kernel)
abbrev z0j:Stmt:=top 39
theorem sc_law_counted:FnScope ["_law_script","_law_at","_law_known","_law_body","_law_deep","_law_most","_law_name","_law_goal","_law_more"] ["_law_script","_law_at","_law_known","_law_body","_law_deep"] (defScope z0j):=⟨rfl,rfl,rfl,by decide+kernel,rfl,by decide+kernel,by decide+kernel⟩
theorem z21:GLF z0j "_law_pick":=by decide+kernel
theorem zar:GLF z0j "_law_sum":=by decide+kernel
theorem zex:GLF z0j "len":=by decide+kernel
theorem z8x:Loc (defScope z0j) "_law_goal":=Or.inl (by decide+kernel)
theorem z8w:Loc (defScope z0j) "_law_more":=Or.inl (by decide+kernel)
theorem z5j:Loc (defScope z0j) "_law_most":=Or.inl (by decide+kernel)
theorem z8v:Loc (defScope z0j) "_law_name":=Or.inl (by decide+kernel)
theorem z1j:Vis (defScope z0j) "_law_at":=Or.inl (by decide+kernel)
theorem z5i:Vis (defScope z0j) "_law_body":=Or.inl (by decide+kernel)
theorem z8n:Vis (defScope z0j) "_law_deep":=Or.inl (by decide+kernel)
theorem z8m:Vis (defScope z0j) "_law_goal":=Or.inl (by decide+kernel)
theorem z3l:Vis (defScope z0j) "_law_known":=Or.inl (by decide+kernel)
theorem z8l:Vis (defScope z0j) "_law_more":=Or.inl (by decide+kernel)
theorem z3t:Vis (defScope z0j) "_law_most":=Or.inl (by decide+kernel)
theorem z3s:Vis (defScope z0j) "_law_name":=Or.inl (by decide+kernel)
theorem z10:Vis (defScope z0j) "_law_script":=Or.inl (by decide+kernel)
abbrev z0c:Stmt:=top 40
theorem sc_law_block:FnScope ["_law_script","_law_at","_law_known","_law_deep","_law_deeds","_law_k","_law_base","_law_way","_law_name","_law_first","_law_mine","_law_second","_law_yours","_law_body"] ["_law_script","_law_at","_law_known","_law_deep"] (defScope z0c):=⟨rfl,rfl,rfl,by decide+kernel,rfl,by decide+kernel,by decide+kernel⟩
theorem z98:(defScope z0c).names.lookup ("_law_known" : Str)=some NameKind.cell:=by decide+kernel
theorem z4o:GLF z0c "_law_block":=by decide+kernel
theorem z94:GLF z0c "_law_counted":=by decide+kernel
theorem z4z:GLF z0c "_law_pick":=by decide+kernel
theorem z6u:GLF z0c "_law_sum":=by decide+kernel
theorem zez:GLF z0c "range":=by decide+kernel
theorem zey:GLF z0c "tuple":=by decide+kernel
theorem zan:Loc (defScope z0c) "_law_base":=Or.inl (by decide+kernel)
theorem zam:Loc (defScope z0c) "_law_body":=Or.inl (by decide+kernel)
theorem z9w:Loc (defScope z0c) "_law_deeds":=Or.inl (by decide+kernel)
theorem z9v:Loc (defScope z0c) "_law_first":=Or.inl (by decide+kernel)
theorem zd5:Loc (defScope z0c) "_law_k":=Or.inl (by decide+kernel)
theorem z5v:Loc (defScope z0c) "_law_known":=Or.inr (by decide+kernel)
theorem zal:Loc (defScope z0c) "_law_mine":=Or.inl (by decide+kernel)
theorem zak:Loc (defScope z0c) "_law_name":=Or.inl (by decide+kernel)
theorem z8y:Loc (defScope z0c) "_law_second":=Or.inl (by decide+kernel)
theorem zbm:Loc (defScope z0c) "_law_way":=Or.inl (by decide+kernel)
theorem z9u:Loc (defScope z0c) "_law_yours":=Or.inr (by decide+kernel)
theorem z6n:Vis (defScope z0c) "_law_at":=Or.inl (by decide+kernel)
theorem z0u:Vis (defScope z0c) "_law_base":=Or.inl (by decide+kernel)
theorem zac:Vis (defScope z0c) "_law_body":=Or.inl (by decide+kernel)
theorem z2s:Vis (defScope z0c) "_law_deeds":=Or.inl (by decide+kernel)
theorem z1k:Vis (defScope z0c) "_law_deep":=Or.inl (by decide+kernel)
theorem z9d:Vis (defScope z0c) "_law_first":=Or.inl (by decide+kernel)
theorem zd0:Vis (defScope z0c) "_law_k":=Or.inl (by decide+kernel)
theorem z0n:Vis (defScope z0c) "_law_known":=Or.inr <| Or.inl (by decide+kernel)
theorem zab:Vis (defScope z0c) "_law_mine":=Or.inl (by decide+kernel)
theorem z5z:Vis (defScope z0c) "_law_name":=Or.inl (by decide+kernel)
theorem z0k:Vis (defScope z0c) "_law_script":=Or.inl (by decide+kernel)
theorem z8o:Vis (defScope z0c) "_law_second":=Or.inl (by decide+kernel)
theorem z6a:Vis (defScope z0c) "_law_way":=Or.inl (by decide+kernel)
abbrev z0q:Stmt:=top 41
theorem sc_law_program:FnScope ["_law_script","_law_at","_law_ins","_law_k","_law_low"] ["_law_script","_law_at"] (defScope z0q):=⟨rfl,rfl,rfl,by decide+kernel,rfl,by decide+kernel,by decide+kernel⟩
theorem z93:GLF z0q "_law_block":=by decide+kernel
theorem z48:GLF z0q "_law_pick":=by decide+kernel
theorem zd9:GLF z0q "range":=by decide+kernel
theorem zd8:GLF z0q "tuple":=by decide+kernel
theorem z9t:Loc (defScope z0q) "_law_ins":=Or.inl (by decide+kernel)
theorem zbl:Loc (defScope z0q) "_law_k":=Or.inl (by decide+kernel)
theorem z9s:Loc (defScope z0q) "_law_low":=Or.inl (by decide+kernel)
theorem z32:Vis (defScope z0q) "_law_at":=Or.inl (by decide+kernel)
theorem z40:Vis (defScope z0q) "_law_ins":=Or.inl (by decide+kernel)
theorem z4y:Vis (defScope z0q) "_law_k":=Or.inl (by decide+kernel)
theorem z5r:Vis (defScope z0q) "_law_low":=Or.inl (by decide+kernel)
theorem z23:Vis (defScope z0q) "_law_script":=Or.inl (by decide+kernel)
abbrev z35:Stmt:=top 42
theorem zks:FnScope ["_law_script","_law_at","_law_program_here"] ["_law_script","_law_at","_law_program_here"] (defScope z35):=⟨rfl,rfl,rfl,by decide+kernel,rfl,by decide+kernel,by decide+kernel⟩
theorem zaq:GLF z35 "enumerate":=by decide+kernel
theorem zdt:GLF z35 "tuple":=by decide+kernel
theorem z68:Vis (defScope z35) "_law_program_here":=Or.inl (by decide+kernel)
abbrev z16:Stmt:=top 43
theorem sc_law_class:FnScope ["_law_kept","_law_kinds"] ["_law_kept"] (defScope z16):=⟨rfl,rfl,rfl,by decide+kernel,rfl,by decide+kernel,by decide+kernel⟩
theorem zcb:GLF z16 "BadPaper":=by decide+kernel
theorem zda:GLF z16 "BadPlan":=by decide+kernel
theorem zbp:GLF z16 "NoProgram":=by decide+kernel
theorem zdv:GLF z16 "NoStep":=by decide+kernel
theorem zdu:GLF z16 "NoText":=by decide+kernel
theorem zca:GLF z16 "NoWorths":=by decide+kernel
theorem zas:GLF z16 "ValueError":=by decide+kernel
theorem z14:GLF z16 "isinstance":=by decide+kernel
theorem z5u:Loc (defScope z16) "_law_kinds":=Or.inl (by decide+kernel)
theorem z13:Vis (defScope z16) "_law_kept":=Or.inl (by decide+kernel)
theorem z41:Vis (defScope z16) "_law_kinds":=Or.inl (by decide+kernel)
abbrev z44:Stmt:=top 44
theorem sc_law_told:FnScope ["_law_deed","e"] ["_law_deed"] (defScope z44):=⟨rfl,rfl,rfl,by decide+kernel,rfl,by decide+kernel,by decide+kernel⟩
theorem zc8:GLF z44 "RoomError":=by decide+kernel
theorem zbo:GLF z44 "_law_class":=by decide+kernel
theorem zjl:(defScope z44).names.lookup ("e" : Str)=some NameKind.local:=by decide+kernel
theorem zbg:Vis (defScope z44) "_law_deed":=Or.inl (by decide+kernel)
abbrev z4k:Stmt:=top 45
theorem sc_law:FnScope ["_law_script","_law_program_here","_law_worths_here","_law_bad","_law_k","_law_some","_law_first","_law_small","_law_low","_law_trace"] ["_law_script"] (defScope z4k):=⟨rfl,rfl,rfl,by decide+kernel,rfl,by decide+kernel,by decide+kernel⟩
theorem z87:(defScope z4k).names.lookup ("_law_program_here" : Str)=some NameKind.cell:=by decide+kernel
theorem zfe:(defScope z4k).names.lookup ("_law_some" : Str)=some NameKind.cell:=by decide+kernel
theorem z4p:(defScope z4k).names.lookup ("_law_trace" : Str)=some NameKind.cell:=by decide+kernel
theorem zn9:GLF z4k "Trace":=by decide+kernel
theorem zbc:GLF z4k "_law_pick":=by decide+kernel
theorem zdw:GLF z4k "_law_program":=by decide+kernel
theorem z4t:GLF z4k "_law_told":=by decide+kernel
theorem zf0:GLF z4k "_law_worths":=by decide+kernel
theorem zn8:GLF z4k "range":=by decide+kernel
theorem zgh:GLF z4k "tuple":=by decide+kernel
theorem zh0:Loc (defScope z4k) "_law_bad":=Or.inl (by decide+kernel)
theorem zes:Loc (defScope z4k) "_law_first":=Or.inl (by decide+kernel)
theorem zjj:Loc (defScope z4k) "_law_k":=Or.inl (by decide+kernel)
theorem zgz:Loc (defScope z4k) "_law_low":=Or.inl (by decide+kernel)
theorem z8z:Loc (defScope z4k) "_law_program_here":=Or.inr (by decide+kernel)
theorem zer:Loc (defScope z4k) "_law_small":=Or.inl (by decide+kernel)
theorem zg1:Loc (defScope z4k) "_law_some":=Or.inr (by decide+kernel)
theorem zeq:Loc (defScope z4k) "_law_trace":=Or.inr (by decide+kernel)
theorem z9x:Loc (defScope z4k) "_law_worths_here":=Or.inl (by decide+kernel)
theorem zb4:Vis (defScope z4k) "_law_bad":=Or.inl (by decide+kernel)
theorem zed:Vis (defScope z4k) "_law_first":=Or.inl (by decide+kernel)
theorem zj9:Vis (defScope z4k) "_law_k":=Or.inl (by decide+kernel)
theorem z29:Vis (defScope z4k) "_law_low":=Or.inl (by decide+kernel)
theorem z3u:Vis (defScope z4k) "_law_program_here":=Or.inr <| Or.inl (by decide+kernel)
theorem z4h:Vis (defScope z4k) "_law_script":=Or.inl (by decide+kernel)
theorem zec:Vis (defScope z4k) "_law_small":=Or.inl (by decide+kernel)
theorem zfi:Vis (defScope z4k) "_law_some":=Or.inr <| Or.inl (by decide+kernel)
theorem z17:Vis (defScope z4k) "_law_trace":=Or.inr <| Or.inl (by decide+kernel)
theorem z42:Vis (defScope z4k) "_law_worths_here":=Or.inl (by decide+kernel)
abbrev zz1(J:It)(g:TG)(tb:TS)(D:Ends)(σ : St)(H:Hp):Prop:=∃W:Nat->Nat->St->Hp->Prop,(∃m,W 0 m σ H)/\∀i m σ H,W i m σ H->
 (J.stop i H/\D.nx σ H)\/(J.go i H/\∃N:St->Hp->Prop,(∀ σ' H',N σ' H'->∃m',m' < m/\W (i+1) m' σ' H')/\∀x H',J.yld i H x H'->g x σ H' fun σ2 H2=>tb {D with nx:=N,ct:=N,bk:=D.nx} σ2 H2)
theorem zcs{K:PySem.W.Frag}{tl:TE}{g:TG}{tb:TS}{D:Ends}{σ : St}{H:Hp}:zwq (q4f K tl) g tb D σ H=tl σ H fun x H1=>∃a,x=.ref a/\(∃xs,SqT K H1 a xs)/\zz1 (Itt K a) g tb D σ H1:=rfl
theorem z9k{K:PySem.W.Frag}{tl:TE}{g:TG}{tb:TS}{D:Ends}{σ : St}{H:Hp}:zwq (q0i K tl) g tb D σ H=tl σ H fun x H1=>∃a,x=.ref a/\(∃xs,SqL K H1 a xs)/\zz1 (Itl K a) g tb D σ H1:=rfl
theorem z9j{ta:TA}{g:TG}{tb:TS}{D:Ends}{σ : St}{H:Hp}:zwq (q2x ta) g tb D σ H=ta σ H fun vs H1=>∃j:Int,vs=[.int j]/\-(2 ^ 62)<=j/\j < 2 ^ 62/\zz1 (Itr 0 j.toNat) g tb D σ H1:=rfl
theorem z9n{K:PySem.W.Frag}{tl:TE}{g:TG}{tt:TT}{te:TE}{mp:List (Option Nat)}{σ : St}{H:Hp}{Q:VK}:zm1 (q4f K tl) g tt te mp σ H Q=tl σ H fun x H1=>∃a,x=.ref a/\(∃xs,SqT K H1 a xs)/\zh7 (Itt K a) g tt te Q (subσ mp σ) H1:=rfl
theorem z7h{K:PySem.W.Frag}{tl:TE}{g:TG}{tt:TT}{te:TE}{mp:List (Option Nat)}{σ : St}{H:Hp}{Q:VK}:zm1 (q0i K tl) g tt te mp σ H Q=tl σ H fun x H1=>∃a,x=.ref a/\(∃xs,SqL K H1 a xs)/\zh7 (Itl K a) g tt te Q (subσ mp σ) H1:=rfl
theorem z9o{tl:TE}{g:TG}{tt:TT}{te:TE}{mp:List (Option Nat)}{σ : St}{H:Hp}{Q:VK}:zm1 (q5j tl) g tt te mp σ H Q=tl σ H fun x H1=>∃z,x=.str z/\zh7 (Its z) g tt te Q (subσ mp σ) H1:=rfl
inductive Wd where
 | add | sub | mul | quo | less | same | min | max
 deriving DecidableEq
def Wd.str:Wd->Str
 | .add=>"add" | .sub=>"sub" | .mul=>"mul" | .quo=>"quo" | .less=>"less" | .same=>"same" | .min=>"min" | .max=>"max"
inductive T where
 | num (i:Int) | nm (x:Str) | op (w:Wd) (a b:T)
def T.enc:T->Dm
 | .num i=>.tup [.str "num",.int i]
 | .nm x=>.tup [.str "name",.str x]
 | .op w a b=>.tup [.str w.str,a.enc,b.enc]
def T.ok(g:List Str):Nat->T->Prop
 | 0,_=>False
 | _+1,.num i=>-32768<=i/\i<=32767
 | _+1,.nm x=>x∈g
 | n+1,.op _ a b=>T.ok g n a/\T.ok g n b
theorem T.ok.mono{g g':List Str}(hg:∀x∈g,x∈g'):∀{n m:Nat} {t:T},T.ok g n t->n<=m->T.ok g' m t
 | 0,_,_,h,_=>h.elim
 | n+1,0,_,_,h=>absurd h (by omega)
 | n+1,m+1,.num i,h,_=>h
 | n+1,m+1,.nm x,h,_=>hg x h
 | n+1,m+1,.op w a b,h,hm=>⟨T.ok.mono hg h.1 (by omega),T.ok.mono hg h.2 (by omega)⟩
inductive D where
 | set (x:Str) (t:T) | ite (t:T) (b c:List D) | whl (t:T) (m:Int) (b:List D)
mutual
def D.enc:D->Dm
 | .set x t=>.tup [.str "set",.str x,t.enc]
 | .ite t b c=>.tup [.str "if",t.enc,.tup (encB b),.tup (encB c)]
 | .whl t m b=>.tup [.str "while",t.enc,.int m,.tup (encB b)]
def encB:List D->List Dm
 | []=>[]
 | d::r=>d.enc::encB r
end
theorem z80:∀(b c:List D),encB (b++c)=encB b++encB c
 | [],c=>by simp[encB]
 | d::b,c=>by rw [List.cons_append,encB,encB,z80 b c,List.cons_append]
theorem z7z:∀b:List D,(encB b).length=b.length
 | []=>by simp[encB]
 | d::b=>by rw [encB,List.length_cons,List.length_cons,z7z b]
def pool:List Str:=["a","b","c","dd"]
def okB:Nat->List D->Prop
 | 0,_=>False
 | n+1,b=>b.length<=6/\∀d∈b,match d with
  | .set x t=>x∈pool/\t.ok pool 5
  | .ite t b c=>t.ok pool 5/\okB n b/\okB n c
  | .whl t m b=>t.ok pool 5/\0<=m/\m<=20/\okB n b
abbrev okD(n:Nat)(d:D):Prop:=match d with
 | .set x t=>x∈pool/\t.ok pool 5
 | .ite t b c=>t.ok pool 5/\okB n b/\okB n c
 | .whl t m b=>t.ok pool 5/\0<=m/\m<=20/\okB n b
def T.knows(p:List Str):T->Bool
 | .num _=>true
 | .nm x=>p.contains x
 | .op _ a b=>a.knows p && b.knows p
mutual
def kbD(p:List Str):D->Option (List Str)
 | .set x t=>if t.knows p then some (p++[x]) else none
 | .ite t b c=>if t.knows p then(match kbB p b,kbB p c with | some q,some r=>some (q.filter fun x=>r.contains x) | _,_=>none) else none
 | .whl t _ b=>if t.knows p then(match kbB p b with | some _=>some p | none=>none) else none
def kbB(p:List Str):List D->Option (List Str)
 | []=>some p
 | d::r=>match kbD p d with
  | some q=>kbB q r
  | none=>none
end
theorem zk5(p:List Str):∀(b c:List D),kbB p (b++c)=match kbB p b with | some q=>kbB q c | none=>none
 | [],c=>by simp[kbB]
 | d::b,c=>by
  rw [List.cons_append,kbB,kbB]
  cases kbD p d with
  | none=>rfl
  | some q=>exact zk5 q b c
def Sub(g p:List Str):Prop:=∀x∈g,x∈p
theorem Sub.refl(g:List Str):Sub g g:=fun _ h=>h
theorem Sub.trans{a b c:List Str}(h:Sub a b)(k:Sub b c):Sub a c:=fun x hx=>k x (h x hx)
theorem T.ok.knows{g p:List Str}(hg:Sub g p):∀{n:Nat} {t:T},T.ok g n t->t.knows p=true
 | 0,_,h=>h.elim
 | n+1,.num i,_=>rfl
 | n+1,.nm x,h=>by simpa [T.knows] using hg x h
 | n+1,.op w a b,h=>by simp[T.knows,T.ok.knows hg h.1,T.ok.knows hg h.2]
def Knows(g:List Str)(b:List D)(g':List Str):Prop:=∀p,Sub g p->∃q,kbB p b=some q/\Sub g' q/\Sub p q
def KnowsD(g:List Str)(d:D)(g':List Str):Prop:=∀p,Sub g p->∃q,kbD p d=some q/\Sub g' q/\Sub p q
theorem Knows.nil(g:List Str):Knows g [] g:=fun p h=>⟨p,by simp[kbB],h,Sub.refl p⟩
theorem Knows.snoc{g g1 g2:List Str}{b:List D}{d:D}(h:Knows g b g1)(k:KnowsD g1 d g2):Knows g (b++[d]) g2:=fun p hp=>by
 obtain⟨q,e,s1,s2⟩:=h p hp
 obtain⟨r,e2,s3,s4⟩:=k q s1
 refine⟨r,?_,s3,s2.trans s4⟩
 rw [zk5,e]
 simp[kbB,e2]
theorem KnowsD.set{g g':List Str}{x:Str}{t:T}{n:Nat}(ht:t.ok g n)(hs:∀y∈g',y∈g\/y=x):KnowsD g (.set x t) g':=fun p hp=>by
 refine⟨p++[x],by simp[kbD,ht.knows hp],fun y hy=>?_,fun y hy=>List.mem_append_left _ hy⟩
 rcases hs y hy with z | z
 ·exact List.mem_append_left _ (hp y z)
 ·exact List.mem_append_right _ (by simp[z])
theorem KnowsD.ite{g m y g':List Str}{t:T}{b c:List D}{n:Nat}(ht:t.ok g n)(hb:Knows g b m)(hc:Knows g c y)(hs:∀x∈g',x∈m/\x∈y):KnowsD g (.ite t b c) g':=fun p hp=>by
 obtain⟨q,e,s1,s2⟩:=hb p hp
 obtain⟨r,e2,s3,s4⟩:=hc p hp
 refine⟨q.filter fun x=>r.contains x,by simp[kbD,ht.knows hp,e,e2],fun x hx=>?_,fun x hx=>?_⟩
 ·exact List.mem_filter.mpr ⟨s1 x (hs x hx).1,by simpa using s3 x (hs x hx).2⟩
 ·exact List.mem_filter.mpr ⟨s2 x hx,by simpa using s4 x hx⟩
theorem KnowsD.whl{g g1:List Str}{t:T}{m:Int}{b:List D}{n:Nat}(ht:t.ok g n)(hb:Knows g b g1):KnowsD g (.whl t m b) g:=fun p hp=>by
 obtain⟨q,e,s1,s2⟩:=hb p hp
 exact⟨p,by simp[kbD,ht.knows hp,e],hp,Sub.refl p⟩
theorem Knows.sub{g g1:List Str}{b:List D}(h:Knows g b g1):Knows g b g:=fun p hp=>by
 obtain⟨q,e,s1,s2⟩:=h p hp
 exact⟨q,e,hp.trans s2,s2⟩
theorem q3q{xs:List V}{k:Int}(h0:0<=k)(h:k < (xs.length:Int)):∃v,xs[k.toNat]?=some v/\atI xs k=some v:=by
 have hk:k.toNat < xs.length:=by omega
 have ek:k=((k.toNat:Nat):Int):=by omega
 refine⟨xs[k.toNat],List.getElem?_eq_getElem hk,?_⟩
 have q:atI xs ((k.toNat:Nat):Int)=some xs[k.toNat]:=z1i (List.getElem?_eq_getElem hk)
 rw [<- ek] at q
 exact q
theorem zb3{α : Type}{c : α->V}{ns:List α}{k:Int}(h0:0<=k)(h:k < (ns.length:Int)):∃v∈ns,atI (ns.map c) k=some (c v):=by
 obtain⟨v,e1,e2⟩:=q3q (xs:=ns.map c) h0 (by rw [List.length_map]; exact h)
 rw [List.getElem?_map] at e1
 cases e:ns[k.toNat]? with
 | none=>rw [e] at e1; cases e1
 | some i=>rw [e] at e1; cases e1; exact⟨i,List.mem_of_getElem? e,e2⟩
theorem q2j(ns:List Int):(ns.map V.int).all okV=true:=by simp[okV]
theorem zyp{g:List Str}(h:Sub g pool):(g.map V.str).all okV=true:=by
 simp only[List.all_map,List.all_eq_true]
 intro x hx
 have:=h x hx
 simp only[pool,List.mem_cons,List.not_mem_nil,or_false] at this
 rcases this with rfl | rfl | rfl | rfl<;>decide+kernel
theorem zl(n:Nat)(h:n<=1000):n<=sizeLine:=Nat.le_of_lt (z3e h)
theorem zyr{K:PySem.W.Frag}{H:Hp}{a:Addr}{xs:List V}(h:SqL K H a xs):q1a K (.ref a) H xs.length:=.inl ⟨a,xs,rfl,.inl h,rfl⟩
theorem q5f{K:PySem.W.Frag}{H:Hp}{a:Addr}{xs:List V}(h:SqT K H a xs):q1a K (.ref a) H xs.length:=.inl ⟨a,xs,rfl,.inr h,rfl⟩
theorem q30{K:PySem.W.Frag}{H:Hp}{a p:Addr}{xs:List V}(h:SqL K H a xs)(ho:xs.all okV=true)(hp:SqL K H p []):q3w K (.ref a) (.ref p) H xs.isEmpty:=.inr (.inl ⟨a,p,xs,[],rfl,rfl,h,hp,ho,rfl,(zvk xs).symm⟩)
theorem zkb(CX:CXT)(P:Program)(w:World)(K:PySem.W.Frag)(mg:Str->Option Value)(base:Heap)(N:List Str)(qual:Str)(scope:Scope)(f:Addr)(cd:Value)(A:Around)(outer:List Env)(s:Shared)(H:Hp)(E:XK):(z85 CX P w K mg base N qual scope f cd A outer s H E).K=K:=rfl
theorem z7j(CX:CXT)(P:Program)(w:World)(K:PySem.W.Frag)(mg:Str->Option Value)(base:Heap)(N:List Str)(qual:Str)(scope:Scope)(f:Addr)(cd:Value)(A:Around)(outer:List Env)(s:Shared)(H:Hp)(E:XK):(z85 CX P w K mg base N qual scope f cd A outer s H E).nox.K=K:=rfl
theorem zcx(X:Cx)(N':List Str)(scope:Scope)(cl:List (Str×Addr))(C:Addr)(s₀:Shared)(H₀:Hp)(ex:List Addr):(z6x X N' scope cl C s₀ H₀ ex).K=X.K:=rfl
theorem z9m{K:PySem.W.Frag}{ta:TA}{g:TG}{tb:TS}{D:Ends}{σ : St}{H:Hp}:zwq (q4g K ta) g tb D σ H=ta σ H fun vs H1=>∃a,vs=[.ref a]/\(∃xs,SqL K H1 a xs)/\zz1 (Ite K a) g tb D σ H1:=rfl
theorem zcr{K:PySem.W.Frag}{ta:TA}{g:TG}{tb:TS}{D:Ends}{σ : St}{H:Hp}:zwq (q5i K ta) g tb D σ H=ta σ H fun vs H1=>∃a b,vs=[.ref a,.ref b]/\(∃xs,SqL K H1 a xs)/\(∃ys,SqL K H1 b ys)/\zz1 (Itz K a b) g tb D σ H1:=rfl
theorem z9i{ta:TA}{g:TG}{tb:TS}{D:Ends}{σ : St}{H:Hp}:zwq (q0h ta) g tb D σ H=ta σ H fun vs H1=>∃i j:Int,vs=[.int i,.int j]/\(-(2 ^ 62)<=i/\i < 2 ^ 62/\-(2 ^ 62)<=j/\j < 2 ^ 62)/\zz1 (Itr i (j - i).toNat) g tb D σ H1:=rfl
theorem z9p{K:PySem.W.Frag}{tl:TE}{g:TG}{tt:TT}{te:TE}{mp:List (Option Nat)}{σ : St}{H:Hp}{Q:VK}:zm1 (q5k K tl) g tt te mp σ H Q=tl σ H fun x H1=>∃a,x=.ref a/\(((∃xs,SqL K H1 a xs)/\zh7 (Itl K a) g tt te Q (subσ mp σ) H1)\/((∃xs,SqT K H1 a xs)/\zh7 (Itt K a) g tt te Q (subσ mp σ) H1)):=rfl
theorem za6(CX:CXT)(P:Program)(w:World)(K:PySem.W.Frag)(mg:Str->Option Value)(base:Heap)(N:List Str)(qual:Str)(scope:Scope)(f:Addr)(cd:Value)(A:Around)(outer:List Env)(s:Shared)(H:Hp)(E:XK):(z85 CX P w K mg base N qual scope f cd A outer s H E).prog=P:=rfl
theorem zka(CX:CXT)(P:Program)(w:World)(K:PySem.W.Frag)(mg:Str->Option Value)(base:Heap)(N:List Str)(qual:Str)(scope:Scope)(f:Addr)(cd:Value)(A:Around)(outer:List Env)(s:Shared)(H:Hp)(E:XK):(z85 CX P w K mg base N qual scope f cd A outer s H E).w=w:=rfl
theorem z5e(CX:CXT)(P:Program)(w:World)(K:PySem.W.Frag)(mg:Str->Option Value)(base:Heap)(N:List Str)(qual:Str)(scope:Scope)(f:Addr)(cd:Value)(A:Around)(outer:List Env)(s:Shared)(H:Hp)(E:XK):(z85 CX P w K mg base N qual scope f cd A outer s H E).nox.prog=P:=rfl
theorem z7i(CX:CXT)(P:Program)(w:World)(K:PySem.W.Frag)(mg:Str->Option Value)(base:Heap)(N:List Str)(qual:Str)(scope:Scope)(f:Addr)(cd:Value)(A:Around)(outer:List Env)(s:Shared)(H:Hp)(E:XK):(z85 CX P w K mg base N qual scope f cd A outer s H E).nox.w=w:=rfl
theorem zg8(CX:CXT)(P:Program)(w:World)(K:PySem.W.Frag)(mg:Str->Option Value)(base:Heap)(N:List Str)(qual:Str)(scope:Scope)(f:Addr)(cd:Value)(A:Around)(outer:List Env)(s:Shared)(H:Hp)(E:XK):(z85 CX P w K mg base N qual scope f cd A outer s H E).mg=mg:=rfl
theorem z6j(CX:CXT)(P:Program)(w:World)(K:PySem.W.Frag)(mg:Str->Option Value)(base:Heap)(N:List Str)(qual:Str)(scope:Scope)(f:Addr)(cd:Value)(A:Around)(outer:List Env)(s:Shared)(H:Hp)(E:XK):(z85 CX P w K mg base N qual scope f cd A outer s H E).nox.mg=mg:=rfl
theorem za7(CX:CXT)(P:Program)(w:World)(K:PySem.W.Frag)(mg:Str->Option Value)(base:Heap)(N:List Str)(qual:Str)(scope:Scope)(f:Addr)(cd:Value)(A:Around)(outer:List Env)(s:Shared)(H:Hp)(E:XK):(z85 CX P w K mg base N qual scope f cd A outer s H E).base=base:=rfl
theorem z5f(CX:CXT)(P:Program)(w:World)(K:PySem.W.Frag)(mg:Str->Option Value)(base:Heap)(N:List Str)(qual:Str)(scope:Scope)(f:Addr)(cd:Value)(A:Around)(outer:List Env)(s:Shared)(H:Hp)(E:XK):(z85 CX P w K mg base N qual scope f cd A outer s H E).nox.base=base:=rfl
theorem z6k(X:Cx)(N':List Str)(scope:Scope)(cl:List (Str×Addr))(C:Addr)(s₀:Shared)(H₀:Hp)(ex:List Addr):(z6x X N' scope cl C s₀ H₀ ex).prog=X.prog:=rfl
theorem zcw(X:Cx)(N':List Str)(scope:Scope)(cl:List (Str×Addr))(C:Addr)(s₀:Shared)(H₀:Hp)(ex:List Addr):(z6x X N' scope cl C s₀ H₀ ex).w=X.w:=rfl
theorem za8(X:Cx)(N':List Str)(scope:Scope)(cl:List (Str×Addr))(C:Addr)(s₀:Shared)(H₀:Hp)(ex:List Addr):(z6x X N' scope cl C s₀ H₀ ex).mg=X.mg:=rfl
theorem z6l(X:Cx)(N':List Str)(scope:Scope)(cl:List (Str×Addr))(C:Addr)(s₀:Shared)(H₀:Hp)(ex:List Addr):(z6x X N' scope cl C s₀ H₀ ex).base=X.base:=rfl
theorem z7g{K:PySem.W.Frag}{ta:TA}{g:TG}{tt:TT}{te:TE}{mp:List (Option Nat)}{σ : St}{H:Hp}{Q:VK}:zm1 (q0g K ta) g tt te mp σ H Q=ta σ H fun vs H1=>∃a b,vs=[.ref a,.ref b]/\(∃xs,SqT K H1 a xs)/\(∃ys,SqT K H1 b ys)/\zh7 (q1b K a b) g tt te Q (subσ mp σ) H1:=rfl
local macro_rules | `(tactic| walk_at "rd")=>`(tactic| simp only[zq7,ztc,zoh,tOp,zq6,tC,zya,zll,zyw,zpu,q0l,zz8,zrs,zol,zok,tCB,zd2,zq8,zm2,tUn,rU,rI0,rI,zzb,tOr,zz9,tB,zon,q1d,zoj,tIf,q1f,zru,zjr,zom,zho,zow,zhn,zrv,zgb,zrw,tSl,zdn,zoi,zzk,zfn,zjy,zsa,zp0,z9m,zcr,z9i,z9p,q49,zwx,za6,zka,z5e,z7i,zg8,za7,z6j,z5f,z6k,zcw,za8,z6l,z7g,zjt,q23,zzl,tDX,zwi,zz6,zza,tBM,
 qEq,qNe,qIn,zge,zzq,zoz,q1k,zs7,zzp,zp1,zzr,zzo,zs8,zs9,zjz,rIx,zyi,zu1,zzm,zzn,zqk,q1h,zs5,q1j,q1i,zdp,zdo,zhm,zjv,zy9,
 zcs,z9k,z9j,z9n,z7h,z9o,L2.start,zkb,z7j,zcx,List.map_cons,List.map_nil,List.length_cons,List.length_nil,List.replicate_succ,List.replicate_zero,Nat.reduceAdd,Nat.reduceSub,Nat.zero_add,Nat.add_zero,Nat.sub_zero,Nat.sub_self,Nat.add_sub_cancel,
 List.getElem?_cons_zero,List.getElem?_cons_succ,List.set_cons_zero,List.set_cons_succ,List.cons_append,List.nil_append,List.append_nil,List.cons.injEq,Option.some.injEq,V.int.injEq,V.ref.injEq,V.str.injEq,V.bl.injEq,V.ty.injEq,
 reduceCtorEq,false_and,and_false,and_true,true_and,exists_false,exists_const,false_or,or_false,exists_eq_left,exists_eq_left',exists_eq_right,exists_eq_right',exists_and_left,decide_eq_true_eq,Bool.not_eq_true',Bool.decide_eq_true,exists_eq,true_or,or_true,Bool.false_eq_true,if_true,if_false,Bool.true_eq_false,Bool.not_true,Bool.not_false,decide_true,decide_false,List.isEmpty_cons,List.isEmpty_nil,Bool.true_and,Bool.false_and,bne_self_eq_false,beq_self_eq_true])
section
variable{P:Program}{w:World}{K:PySem.W.Frag}{mg:Str->Option Value}{base:Heap}{f:Addr}{fd:FuncData}
def zyd(K:PySem.W.Frag):Sp:=fun vs H Q _=>∃(a:Addr) (ns:List Int) (k:Int),vs=[.ref a,.int k]/\SqL K H a (ns.map V.int)/\0<=k/\∀(i:Int) (H':Hp),Same H H'->Q (.int i) H'
theorem q06(F:Fun K "_law_cell" "_law_cell" z4x f fd) (b_len:mg "len" = none):FnOk P w K mg base CX0 1 f fd ["_law_script","_law_k"] (zyd K):=by
 refine F.ok zot (fun vs H Q E h=>?_) (fun cdv A outer s H vs Q E hr h=>?_)
 ·obtain⟨a,ns,k,rfl,_⟩:=h
  rfl
 obtain⟨a,ns,k,rfl,hS,h0,q⟩:=h
 refine⟨_,(z03 (z2g (z0f zpe (z00 (i:=1) rfl z4g z4v z4w) (z75 zvd zcc b_len zcp (z06 (z00 (i:=0) rfl z20 z08 z09) pa_nil) zc1 zcj) (z0m _)) (z07 (z0h (z0z z4n (z00 (i:=0) rfl z20 z08 z09) (z00 (i:=1) rfl z4g z4v z4w) (fun _ _=>rfl)))) z0l)
 (z03 (z2g (z0f (gEq hr.units) (z00 (i:=0) rfl z20 z08 z09) (z46 pa_nil) (z0m _)) (z07 (z0h z02)) z0l)
 (z07 (z0h (z0o z1h (z0o zc0 (z0z z4n (z00 (i:=0) rfl z20 z08 z09) (z0o zk1 (z00 (i:=1) rfl z4g z4v z4w) (z75 zvd zcc b_len zcp (z06 (z00 (i:=0) rfl z20 z08 z09) pa_nil) zc1 zcj)) (fun _ _=>rfl)) z02) (z00 (i:=1) rfl z4g z4v z4w)))))),?_⟩
 walk_at "rd"
 refine⟨_,zyr hS,?_⟩
 rw [List.length_map]
 split
 ·rename_i hk
  obtain⟨i,_,e⟩:=zb3 (c:=V.int) h0 hk
  exact⟨_,hS,_,e,q i H (Same.refl _)⟩
 ·refine⟨Nat.zero_le _,fun p hp=>?_⟩
  have s1:=z04 hp (.lst [])
  refine⟨_,q30 (s1.seq hS) (q2j ns) (SqL.of z01),?_⟩
  split
  ·exact q 0 _ s1
  ·rename_i hne
   have hl:0 < (ns.length:Int):=by
    cases ns with
    | nil=>exact absurd rfl hne
    | cons a r=>simp only[List.length_cons]; omega
   obtain⟨i,_,e⟩:=zb3 (c:=V.int) (ns:=ns) (k:=k % (ns.length:Int)) (Int.emod_nonneg _ (by omega)) (Int.emod_lt_of_pos _ hl)
   exact⟨_,zyr (s1.seq hS),by rw [List.length_map]; exact hl,_,s1.seq hS,_,by rw [List.length_map]; exact e,i,rfl,.inr ⟨by decide,by decide⟩,q _ _ s1⟩
def zdh(K:PySem.W.Frag):Sp:=fun vs H Q _=>∃(a:Addr) (ns:List Int) (k m:Int),vs=[.ref a,.int k,.int m]/\SqL K H a (ns.map V.int)/\0<=k/\0 < m/\∀(i:Int) (H':Hp),0<=i->i < m->Same H H'->Q (.int i) H'
theorem q05(F:Fun K "_law_pick" "_law_pick" z3b f fd) (c_law_cell:Callee P w K mg base "_law_cell" ["_law_script","_law_k"] 1 (zyd K)):FnOk P w K mg base CX0 2 f fd ["_law_script","_law_k","_law_many"] (zdh K):=by
 refine F.ok sc_law_pick (fun vs H Q E h=>?_) (fun cdv A outer s H vs Q E hr h=>?_)
 ·obtain⟨a,ns,k,m,rfl,_⟩:=h
  rfl
 obtain⟨a,ns,k,m,rfl,hS,h0,hm,q⟩:=h
 refine⟨_,(z03 (z18 (i:=3) sc_law_pick.nd rfl zaj (z0o zk1 (z0o zc0 (z0o z1h (z1n c_law_cell hr (by omega) (z06 (z00 (i:=0) rfl z9c z08 z09) (z06 (z00 (i:=1) rfl z7k z4v z4w) pa_nil)) zc9 znr) (z0o zc0 z02 (z0o z1h (z00 (i:=1) rfl z7k z4v z4w) z02))) z02) z02) (z05 rfl))
 (z07 (z0h (z0o zk1 (z0o zk1 (z0o z1h (z0o zc0 (z00 (i:=3) rfl z4f zaw zb1) (z00 (i:=3) rfl z4f zaw zb1)) (z0o q03 (z00 (i:=3) rfl z4f zaw zb1) z02)) z02) (z00 (i:=2) rfl zbi znn znx))))),?_⟩
 walk_at "rd"
 refine⟨a,ns,k,rfl,hS,h0,fun i H' s1=>?_⟩
 walk_at "rd"
 refine⟨.inl ⟨by decide,by decide⟩,.inr ⟨by decide,by decide⟩,by decide,?_⟩
 have e1:0<=(i+6151 * (k+1)) * 40692 % 2147483399:=Int.emod_nonneg _ (by decide)
 have e2:(i+6151 * (k+1)) * 40692 % 2147483399 < 2147483399:=Int.emod_lt_of_pos _ (by decide)
 refine⟨.inl ⟨by omega,by omega⟩,⟨by decide,by decide⟩,by decide,hm,q _ _ (Int.emod_nonneg _ (by omega)) (Int.emod_lt_of_pos _ hm) s1⟩
structure Df(K:PySem.W.Frag)(mg:Str->Option Value)(x:Str)(st:Stmt)(ps:List Str)(f:Addr)(fd:FuncData):Prop where
 F:Fun K x x st f fd
 m:mg x=some (.ref f)
 b:Binds K fd ps []
theorem Df.callee{x:Str}{st:Stmt}{ps:List Str}{k:Nat}{sp:Sp}(d:Df K mg x st ps f fd)(h:FnOk P w K mg base CX0 k f fd ps sp):Callee P w K mg base x ps k sp:=⟨f,fd,h,d.m,d.F.kp,d.b⟩
theorem zlg(x:Str):∀g:List Str,inV (.str x) (g.map V.str)=g.contains x
 | []=>rfl
 | y::g=>by
  have ih:=zlg x g
  unfold inV at ih |-
  rw [List.map_cons,List.any_cons,ih,List.contains_cons]
  have e:eqV (.str y) (.str x)=(x == y):=by
   show(y == x)=(x == y)
   rw [Bool.eq_iff_iff,beq_iff_eq,beq_iff_eq]
   exact eq_comm
  rw [e]
theorem znc(g:List Str):(g.map V.str).all zbq=true:=by simp[zbq]
theorem z6m{H H':Hp}{p:Addr}{o:HO}(s:Same H H')(h:H p=none):Same H (upd H' p o):=fun b u q=>by rw [z0a (z0d q h)]; exact s b u q
end
theorem z9l{K:PySem.W.Frag}{ta:TA}{g:TG}{tb:TS}{D:Ends}{σ : St}{H:Hp}:zwq (zv8 K ta) g tb D σ H=ta σ H fun vs H1=>∃a,vs=[.ref a]/\(∃xs,SqT K H1 a xs)/\zz1 (zz0 K a) g tb D σ H1:=rfl
theorem zbw{K:PySem.W.Frag}{ta:TA}{g:TG}{tb:TS}{D:Ends}{σ : St}{H:Hp}:zwq (q0g K ta) g tb D σ H=ta σ H fun vs H1=>∃a b,vs=[.ref a,.ref b]/\(∃xs,SqT K H1 a xs)/\(∃ys,SqT K H1 b ys)/\zz1 (q1b K a b) g tb D σ H1:=rfl
theorem zrx{ta:TA}{g:TG}{tt:TT}{te:TE}{mp:List (Option Nat)}{σ : St}{H:Hp}{Q:VK}:zm1 (q0h ta) g tt te mp σ H Q=ta σ H fun vs H1=>∃i j:Int,vs=[.int i,.int j]/\(-(2 ^ 62)<=i/\i < 2 ^ 62/\-(2 ^ 62)<=j/\j < 2 ^ 62)/\zh7 (Itr i (j - i).toNat) g tt te Q (subσ mp σ) H1:=rfl
local macro_rules | `(tactic| walk_at "rd7")=>`(tactic| simp only[zrx,zjs,zbw,ztk,ztl,zjq,zhz,q24,zi0,zm0,z7o,zq7,ztc,zoh,tOp,zq6,tC,zya,zll,zyw,zpu,q0l,zz8,zrs,zol,zok,tCB,zd2,zq8,zm2,tUn,rU,rI0,rI,zzb,tOr,zz9,tB,zon,q1d,zoj,tIf,q1f,zru,zjr,zom,zho,zow,zhn,zrv,zgb,zrw,tSl,zdn,zoi,zzk,zfn,zjy,zsa,zp0,z9m,z9l,zcr,z9i,z9p,za6,zka,z5e,z7i,zg8,za7,z6j,z5f,z6k,zcw,za8,z6l,z7g,zjt,q23,zzl,tDX,zwi,zz6,zza,tBM,
 qEq,qNe,qIn,zge,zzq,zoz,q1k,zs7,zzp,zp1,zzr,zzo,zs8,zs9,zjz,rIx,zyi,zu1,zzm,zzn,q1h,zs5,q1j,q1i,zdp,zdo,zhm,zjv,zy9,
 zcs,z9k,z9j,z9n,z7h,z9o,L2.start,zkb,z7j,zcx,List.map_cons,List.map_nil,List.length_cons,List.length_nil,List.replicate_succ,List.replicate_zero,Nat.reduceAdd,Nat.reduceSub,Nat.zero_add,Nat.add_zero,Nat.sub_zero,Nat.sub_self,Nat.add_sub_cancel,
 List.getElem?_cons_zero,List.getElem?_cons_succ,List.set_cons_zero,List.set_cons_succ,List.cons_append,List.nil_append,List.append_nil,List.cons.injEq,Option.some.injEq,V.int.injEq,V.ref.injEq,V.str.injEq,V.bl.injEq,V.ty.injEq,
 reduceCtorEq,false_and,and_false,and_true,true_and,exists_false,exists_const,false_or,or_false,exists_eq_left,exists_eq_left',exists_eq_right,exists_eq_right',exists_and_left,decide_eq_true_eq,Bool.not_eq_true',Bool.decide_eq_true,exists_eq,true_or,or_true,Bool.false_eq_true,if_true,if_false,Bool.true_eq_false,Bool.not_true,Bool.not_false,decide_true,decide_false,List.isEmpty_cons,List.isEmpty_nil,Bool.true_and,Bool.false_and,bne_self_eq_false,beq_self_eq_true])
section
variable{P:Program}{w:World}{K:PySem.W.Frag}{mg:Str->Option Value}{base:Heap}{f:Addr}{fd:FuncData}
theorem z0g{a b:TS}{D:Ends}{σ : St}{H:Hp}(h:∀N:St->Hp->Prop,N=b D->a {D with nx:=N} σ H):zq7 a b D σ H:=h _ rfl
theorem zy8{c:TT}{a b:TS}{D:Ends}{σ : St}{H:Hp}(h:∀Y Z:St->Hp->Prop,Y=a D->Z=b D->ztc c (fun _=>Y) (fun _=>Z) D σ H):ztc c a b D σ H:=h _ _ rfl rfl
theorem q1s{t1 t2:TS}{c:TT}{a b:TS}{D:Ends}{σ : St}{H:Hp}(h:∀Y Z:St->Hp->Prop,Y=a D->Z=b D->zq7 t1 (zq7 t2 (ztc c (fun _=>Y) (fun _=>Z))) D σ H):zq7 t1 (zq7 t2 (ztc c a b)) D σ H:=h _ _ rfl rfl
def zm4(K:PySem.W.Frag)(n:Nat):Sp:=fun vs H Q _=>∃(a:Addr) (ns:List Int) (k:Int) (kn:Addr) (g:List Str) (d:Nat),vs=[.ref a,.int k,.ref kn,.int d]/\SqL K H a (ns.map V.int)/\0<=k/\H kn=some (.lst (g.map V.str))/\Sub g pool/\1<=d/\d<=n/\
 ∀(r:V) (H':Hp) (t:T),Same H H'->Dt H' r t.enc->t.ok g d->Q r H'
theorem q2g{n:Nat} (F:Fun K "_law_sum" "_law_sum" z1t f fd) (b_len:mg "len" = none) (c_law_pick:Callee P w K mg base "_law_pick" ["_law_script","_law_k","_law_many"] 2 (zdh K))
  (c_law_sum:Callee P w K mg base "_law_sum" ["_law_script","_law_at","_law_known","_law_deep"] (n+3) (zm4 K n)):FnOk P w K mg base CX0 (n+4) f fd ["_law_script","_law_at","_law_known","_law_deep"] (zm4 K (n+1)):=by
 refine F.ok sc_law_sum (fun vs H Q E h=>?_) (fun cdv A outer s H vs Q E hr h=>?_)
 ·obtain⟨a,ns,k,kn,g,d,rfl,_⟩:=h
  rfl
 obtain⟨a,ns,k,kn,g,d,rfl,hS,h0,hk,hg,hd1,hd2,q⟩:=h
 refine⟨_,(z03 (z18 (i:=4) sc_law_sum.nd rfl zd3 (z1n c_law_pick hr (by omega) (z06 (z00 (i:=0) rfl z12 z08 z09) (z06 (z00 (i:=1) rfl z1x z1b z1c) (z06 z02 pa_nil))) z2y z0w) (z05 rfl))
 (z03 (z2g (PW.pt (zgu (z0f zdj (z00 (i:=3) rfl z53 z37 z38) z02 (z0m _)) (zgf (z0f zpe (z00 (i:=4) rfl zcy ze3 ze8) z02 (z0m _))))) (z03 (z2g (PW.pt (zu2 (z0f (gNe hr.units) (z00 (i:=2) rfl z2c z0s z0t) (z46 pa_nil) (z0m _)) (zp2 (z0f q2d (z1n c_law_pick hr (by omega) (z06 (z00 (i:=0) rfl z12 z08 z09) (z06 (z0o z1h (z00 (i:=1) rfl z1x z1b z1c) z02) (z06 z02 pa_nil))) z2y z0w) z02 (z0m _))))) (z07 (z0h (z11 (z06 z0i (z06 (z0z z4n (z00 (i:=2) rfl z2c z0s z0t) (z1n c_law_pick hr (by omega) (z06 (z00 (i:=0) rfl z12 z08 z09) (z06 (z0o z1h (z00 (i:=1) rfl z1x z1b z1c) z02) (z06 (z75 zvd zjm b_len zcp (z06 (z00 (i:=2) rfl z2c z0s z0t) pa_nil) zc1 zcj) pa_nil))) z2y z0w) (fun _ _=>rfl)) pa_nil))))) z0l)
 (z07 (z0h (z11 (z06 z0i (z06 (z0z z4n (z46 (z06 z02 (z06 z02 (z06 (zp9 zhl z02) (z06 z02 (z06 z02 (z06 z02 (z06 (zp9 zhl z02) (z06 z02 (z06 (zp9 zhl z02) (z06 z02 (z06 z02 (z06 (zp9 zhl z02) pa_nil))))))))))))) (z1n c_law_pick hr (by omega) (z06 (z00 (i:=0) rfl z12 z08 z09) (z06 (z0o z1h (z00 (i:=1) rfl z1x z1b z1c) z02) (z06 z02 pa_nil))) z2y z0w) (fun _ _=>rfl)) pa_nil)))))) z0l)
 (z03 (z18 (i:=5) sc_law_sum.nd rfl zbk (z46 (z06 z0i (z06 z0i (z06 z0i (z06 z0i (z06 z0i (z06 z0i (z06 z0i (z06 z0i (z06 z0i (z06 z0i pa_nil))))))))))) (z05 rfl))
 (z03 (z18 (i:=6) sc_law_sum.nd rfl zd4 (z1n c_law_sum hr (by omega) (z06 (z00 (i:=0) rfl z12 z08 z09) (z06 (z0o z1h (z0o zc0 z02 (z00 (i:=1) rfl z1x z1b z1c)) z02) (z06 (z00 (i:=2) rfl z2c z0s z0t) (z06 (z0o z8d (z00 (i:=3) rfl z53 z37 z38) z02) pa_nil)))) z7v z82) (z05 rfl))
 (z07 (z0h (z11 (z06 (z0z z4n (z00 (i:=5) rfl zbh zlp zlu) (z1n c_law_pick hr (by omega) (z06 (z00 (i:=0) rfl z12 z08 z09) (z06 (z0o z1h (z00 (i:=1) rfl z1x z1b z1c) z02) (z06 z02 pa_nil))) z2y z0w) (fun _ _=>rfl)) (z06 (z00 (i:=6) rfl zcz z83 z84) (z06 (z1n c_law_sum hr (by omega) (z06 (z00 (i:=0) rfl z12 z08 z09) (z06 (z0o z1h (z0o zc0 z02 (z00 (i:=1) rfl z1x z1b z1c)) z02) (z06 (z00 (i:=2) rfl z2c z0s z0t) (z06 (z0o z8d (z00 (i:=3) rfl z53 z37 z38) z02) pa_nil)))) z7v z82) pa_nil)))))))))),z0g fun N1 e1=>?_⟩
 walk_at "rd"
 refine⟨a,ns,k,10,rfl,hS,h0,by decide,fun i H1 i0 i1 s1=>?_⟩
 rw [e1]
 refine z0g fun N2 e2=>zy8 fun Y Z eY eZ=>?_
 walk_at "rd"
 have leaf:∀(H1:Hp),Same H H1->Y [some (.ref a),some (.int k),some (.ref kn),some (.int d),some (.int i),none,none] H1:=by
  intro H1 s1
  rw [eY]
  walk_at "rd"
  have num:∀(H2:Hp) (p:Addr),Same H H2->H2 p=none->zdh K [V.ref a,V.int (k+3),V.int 12] (upd H2 p (HO.lst [V.int 0,V.int 1,V.int (-1),V.int 2,V.int 3,V.int 7,V.int (-8),V.int 100,V.int (-129),V.int 300,V.int 32767,V.int (-32768)])) (fun y H2=>∃x x_1,y=V.int x_1/\SqL K H2 p x/\∃x_2,atI x x_1=some x_2/\2<=sizeLine/\∀(p:Addr),H2 p=none->Q (V.ref p) (upd H2 p (HO.tup [V.str (Str.ofString "num"),x_2]))) E0:=by
   intro H2 p s2 hp
   have s3:=z04 hp (HO.lst [V.int 0,V.int 1,V.int (-1),V.int 2,V.int 3,V.int 7,V.int (-8),V.int 100,V.int (-129),V.int 300,V.int 32767,V.int (-32768)])
   refine⟨a,ns,k+3,12,rfl,(s2.trans s3).seq hS,by omega,by decide,fun j H3 j0 j1 s4=>?_⟩
   obtain⟨v,hv,e⟩:=zb3 (c:=V.int) (ns:=[0,1,-1,2,3,7,-8,100,-129,300,32767,-32768]) (k:=j) j0 j1
   refine⟨_,_,rfl,SqL.of (s4 _ _ z01),_,e,zl 2 (by decide),fun r hr'=>?_⟩
   refine q _ _ (.num v) ((s2.trans s3).trans (s4.trans (z04 hr' _))) (.tup z01 (.cons (.str _) (.cons (.int _) .nil))) ?_
   obtain⟨d',rfl⟩:∃d',d=d'+1:=⟨d - 1,by omega⟩
   show -32768<=v/\v<=32767
   simp only[List.mem_cons,List.not_mem_nil,or_false] at hv
   omega
  refine⟨Nat.zero_le _,fun p hp=>?_⟩
  have s2:=z04 hp (HO.lst [])
  have hk2:(upd H1 p (HO.lst [])) kn=some (.lst (g.map V.str)):=s2 _ _ (s1 _ _ hk)
  refine⟨_,.inr ⟨_,SqL.of hk2,_,SqL.of z01,zyp hg,rfl,(zvk _).symm⟩,?_⟩
  split
  ·rename_i hne
   refine⟨a,ns,k+1,3,rfl,(s1.trans s2).seq hS,by omega,by decide,fun j H3 j0 j1 s3=>?_⟩
   refine⟨_,rfl,?_⟩
   have s03:=(s1.trans s2).trans s3
   split
   ·have hk3:=s3 _ _ hk2
    refine⟨_,zyr (SqL.of hk3),?_⟩
    have hl:0 < ((g.map V.str).length:Int):=by
     cases g with
     | nil=>exact absurd rfl (Bool.eq_false_iff.mp hne)
     | cons x r=>simp only[List.map_cons,List.length_cons]; omega
    refine⟨a,ns,k+2,_,rfl,s03.seq hS,by omega,hl,fun m H4 m0 m1 s4=>?_⟩
    obtain⟨v,hv,e⟩:=zb3 (c:=V.str) (ns:=g) (k:=m) m0 (by rw [List.length_map] at m1; exact m1)
    refine⟨_,_,rfl,SqL.of (s4 _ _ hk3),_,e,zl 2 (by decide),fun r hr'=>?_⟩
    refine q _ _ (.nm v) (s03.trans (s4.trans (z04 hr' _))) (.tup z01 (.cons (.str _) (.cons (.str _) .nil))) ?_
    obtain⟨d',rfl⟩:∃d',d=d'+1:=⟨d - 1,by omega⟩
    exact hv
   ·exact⟨zl 12 (by decide),fun p2 hp2=>num _ p2 s03 hp2⟩
  ·exact⟨zl 12 (by decide),fun p2 hp2=>num _ p2 (s1.trans s2) hp2⟩
 split
 ·exact leaf H1 s1
 ·split
  ·exact leaf H1 s1
  ·rename_i hd _
   rw [eZ]
   show N2 _ _
   rw [e2]
   refine z0g fun N3 e3=>?_
   walk_at "rd"
   refine⟨zl 10 (by decide),fun p hp=>?_⟩
   rw [e3]
   refine z0g fun N4 e4=>?_
   walk_at "rd"
   refine⟨.inl ⟨by decide,by decide⟩,?_⟩
   have s2:=z04 hp (HO.lst [V.str "add",V.str "sub",V.str "mul",V.str "quo",V.str "less",V.str "same",V.str "min",V.str "max",V.str "add",V.str "less"])
   have s02:=s1.trans s2
   have ed:((d:Int) - 1)=((d - 1:Nat):Int):=by omega
   have hd3:2<=d:=by omega
   rw [ed]
   refine⟨a,ns,_,kn,g,d - 1,rfl,s02.seq hS,by omega,s02 _ _ hk,hg,by omega,by omega,fun r1 H2 t1 s3 d1 k1=>?_⟩
   have s03:=s02.trans s3
   rw [e4]
   walk_at "rd"
   refine⟨a,ns,k+4,10,rfl,s03.seq hS,by omega,by decide,fun j H3 j0 j1 s4=>?_⟩
   have s04:=s03.trans s4
   obtain⟨v,hv,e⟩:=zb3 (c:=fun w:Wd=>V.str w.str) (ns:=[.add,.sub,.mul,.quo,.less,.same,.min,.max,.add,.less]) (k:=j) j0 j1
   refine⟨_,_,rfl,SqL.of (s4 _ _ (s3 _ _ z01)),_,e,.inl ⟨by decide,by decide⟩,?_⟩
   rw [ed]
   refine⟨a,ns,_,kn,g,d - 1,rfl,s04.seq hS,by omega,s04 _ _ hk,hg,by omega,by omega,fun r2 H4 t2 s5 d2 k2=>?_⟩
   refine⟨zl 3 (by decide),fun p3 hp3=>?_⟩
   have s6:=z04 hp3 (HO.tup [V.str v.str,r1,r2])
   refine q _ _ (.op v t1 t2) (s04.trans (s5.trans s6)) (.tup z01 (.cons (.str _) (.cons (d1.kp (s4.trans (s5.trans s6)).kp) (.cons (d2.kp s6.kp) .nil)))) ?_
   obtain⟨d',rfl⟩:∃d',d=d'+1:=⟨d - 1,by omega⟩
   exact⟨k1,k2⟩
theorem zxb{k:Nat}:FnOk P w K mg base CX0 k f fd ["_law_script","_law_at","_law_known","_law_deep"] (zm4 K 0):=by
 have no:∀vs H Q E,¬ zm4 K 0 vs H Q E:=fun vs H Q E h=>by
  obtain⟨a,ns,k,kn,g,d,_,_,_,_,_,h1,h2,_⟩:=h
  omega
 exact⟨fun vs H Q E h=>absurd h (no vs H Q E),fun A outer s H args us vs Q E _ _ _ _ h=>absurd h (no vs H Q E)⟩
theorem zwg(d:Df K mg "_law_sum" z1t ["_law_script","_law_at","_law_known","_law_deep"] f fd) (b_len:mg "len" = none) (c_law_pick:Callee P w K mg base "_law_pick" ["_law_script","_law_k","_law_many"] 2 (zdh K)) :
  ∀n:Nat,Callee P w K mg base "_law_sum" ["_law_script","_law_at","_law_known","_law_deep"] (n+3) (zm4 K n)
 | 0=>d.callee zxb
 | n+1=>d.callee (q2g d.F b_len c_law_pick (zwg d b_len c_law_pick n))
def zhs(K:PySem.W.Frag):Sp:=fun vs H Q _=>∃(a:Addr) (ns:List Int) (k:Int) (kn:Addr) (g g1:List Str) (rb:V) (b:List D) (d:Nat) (di:Int),vs=[.ref a,.int k,.ref kn,rb,.int di]/\SqL K H a (ns.map V.int)/\0<=k/\H kn=some (.lst (g.map V.str))/\Sub g pool/\g≠[]/\
 Dt H rb (.tup (encB b))/\okB d b/\b.length<=4/\b≠[]/\Knows g b g1/\1<=d/\∀(r:V) (H':Hp) (e:D),Same H H'->Dt H' r e.enc->okD d e->KnowsD g e g->Q r H'
theorem zsp(F:Fun K "_law_counted" "_law_counted" z0j f fd) (b_len:mg "len" = none) (c_law_pick:Callee P w K mg base "_law_pick" ["_law_script","_law_k","_law_many"] 2 (zdh K))
  (c_law_sum:Callee P w K mg base "_law_sum" ["_law_script","_law_at","_law_known","_law_deep"] 6 (zm4 K 3)):FnOk P w K mg base CX0 7 f fd ["_law_script","_law_at","_law_known","_law_body","_law_deep"] (zhs K):=by
 refine F.ok sc_law_counted (fun vs H Q E h=>?_) (fun cdv A outer s H vs Q E hr h=>?_)
 ·obtain⟨a,ns,k,kn,g,g1,rb,b,d,di,rfl,_⟩:=h
  rfl
 obtain⟨a,ns,k,kn,g,g1,rb,b,d,di,rfl,hS,h0,hk,hg,hne,hb,hob,hbl,hbn,hkn,hd1,q⟩:=h
 refine⟨_,(z03 (z18 (i:=5) sc_law_counted.nd rfl z5j (z0z z4n (z46 (z06 z02 (z06 z02 (z06 z02 (z06 z02 (z06 z02 pa_nil)))))) (z1n c_law_pick hr (by omega) (z06 (z00 (i:=0) rfl z10 z08 z09) (z06 (z00 (i:=1) rfl z1j z1b z1c) (z06 z02 pa_nil))) z21 z0w) (fun _ _=>rfl)) (z05 rfl))
 (z03 (z2g (z0f zpe (z00 (i:=4) rfl z8n z37 z38) z02 (z0m _)) (z07 (z18 (i:=5) sc_law_counted.nd rfl z5j (z0o zk1 (z00 (i:=5) rfl z3t zck zcn) z02) (z05 rfl))) z0l)
 (z03 (z2g (z0f zdj (z1n c_law_pick hr (by omega) (z06 (z00 (i:=0) rfl z10 z08 z09) (z06 (z0o z1h (z00 (i:=1) rfl z1j z1b z1c) z02) (z06 z02 pa_nil))) z21 z0w) z02 (z0m _)) (z07 (z0h (z11 (z06 z0i (z06 (z1n c_law_sum hr (by omega) (z06 (z00 (i:=0) rfl z10 z08 z09) (z06 (z0o z1h (z00 (i:=1) rfl z1j z1b z1c) z02) (z06 (z00 (i:=2) rfl z3l z0s z0t) (z06 z02 pa_nil)))) zar z82) (z06 (z00 (i:=5) rfl z3t zck zcn) (z06 (z00 (i:=3) rfl z5i zcl zco) pa_nil))))))) z0l)
 (z03 (z18 (i:=6) sc_law_counted.nd rfl z8v (z11 (z06 z0i (z06 (z0z z4n (z00 (i:=2) rfl z3l z0s z0t) (z1n c_law_pick hr (by omega) (z06 (z00 (i:=0) rfl z10 z08 z09) (z06 (z0o z1h (z00 (i:=1) rfl z1j z1b z1c) z02) (z06 (z75 zvd zex b_len zcp (z06 (z00 (i:=2) rfl z3l z0s z0t) pa_nil) zc1 zcj) pa_nil))) z21 z0w) (fun _ _=>rfl)) pa_nil))) (z05 rfl))
 (z03 (z18 (i:=7) sc_law_counted.nd rfl z8x (z11 (z06 z0i (z06 (z0z z4n (z46 (z06 (zp9 zhl z02) (z06 z02 (z06 z02 (z06 z02 pa_nil))))) (z1n c_law_pick hr (by omega) (z06 (z00 (i:=0) rfl z10 z08 z09) (z06 (z0o z1h (z00 (i:=1) rfl z1j z1b z1c) z02) (z06 z02 pa_nil))) z21 z0w) (fun _ _=>rfl)) pa_nil))) (z05 rfl))
 (z03 (z18 (i:=8) sc_law_counted.nd rfl z8w (z11 (z06 z0i (z06 (z0z z0p (z00 (i:=6) rfl z3s z6w z6y) z02 (fun _ _=>rfl)) (z06 (z11 (z06 z0i (z06 (z00 (i:=6) rfl z3s z6w z6y) (z06 (z11 (z06 z0i (z06 (z0o z1h z02 (z1n c_law_pick hr (by omega) (z06 (z00 (i:=0) rfl z10 z08 z09) (z06 (z0o z1h (z00 (i:=1) rfl z1j z1b z1c) z02) (z06 z02 pa_nil))) z21 z0w)) pa_nil))) pa_nil)))) pa_nil)))) (z05 rfl))
 (z07 (z0h (z11 (z06 z0i (z06 (z11 (z06 z0i (z06 (z00 (i:=6) rfl z3s z6w z6y) (z06 (z00 (i:=7) rfl z8m znp znz) pa_nil)))) (z06 (z00 (i:=5) rfl z3t zck zcn) (z06 (z0o z3x (z00 (i:=3) rfl z5i zcl zco) (z11 (z06 (z00 (i:=8) rfl z8l znl znv) pa_nil))) pa_nil))))))))))))),z0g fun N1 e1=>?_⟩
 walk_at "rd"
 have hl:0 < ((g.map V.str).length:Int):=by
  cases g with
  | nil=>exact absurd rfl hne
  | cons x r=>simp only[List.map_cons,List.length_cons]; omega
 refine⟨zl 5 (by decide),fun p hp=>?_⟩
 have s1:=z04 hp (HO.lst [V.int 0,V.int 1,V.int 3,V.int 6,V.int 20])
 refine⟨a,ns,k,5,rfl,s1.seq hS,h0,by decide,fun i H2 i0 i1 s2=>?_⟩
 have s02:=s1.trans s2
 obtain⟨v,hv,e⟩:=zb3 (c:=V.int) (ns:=[0,1,3,6,20]) (k:=i) i0 i1
 have hv2:0<=v/\v<=20:=by
  simp only[List.mem_cons,List.not_mem_nil,or_false] at hv
  omega
 refine⟨_,_,rfl,SqL.of (s2 _ _ z01),_,e,?_⟩
 obtain⟨ab,xs,rfl,hab,hda⟩:=hb.tupI
 have hxl:xs.length=b.length:=by rw [hda.length,z7z]
 have hxs:xs≠[]:=fun z=>hbn (List.length_eq_zero_iff.mp (by rw [<- hxl,z]; rfl))
 rw [e1]
 refine z0g fun N2 e2=>?_
 walk_at "rd"
 suffices key:∀mv:Int,0<=mv/\mv<=20->N2 [some (.ref a),some (.int k),some (.ref kn),some (.ref ab),some (.int di),some (.int mv),none,none,none] H2 by
  split
  ·exact⟨by decide,key (v % 4) (by omega)⟩
  ·exact key v hv2
 intro mv hv3
 rw [e2]
 refine z0g fun N3 e3=>?_
 walk_at "rd"
 refine⟨a,ns,k+1,4,rfl,s02.seq hS,by omega,by decide,fun j H3 j0 j1 s3=>?_⟩
 refine⟨_,rfl,?_⟩
 have s03:=s02.trans s3
 split
 ·refine⟨a,ns,k+2,kn,g,2,rfl,s03.seq hS,by omega,s03 _ _ hk,hg,by decide,by decide,fun r1 H4 t1 s4 d1 k1=>?_⟩
  refine⟨zl 4 (by decide),fun p2 hp2=>?_⟩
  exact q _ _ (.whl t1 _ b) (s03.trans (s4.trans (z04 hp2 _))) (.tup z01 (.cons (.str _) (.cons (d1.kp (z04 hp2 _).kp) (.cons (.int _) (.cons (hb.kp (s03.trans (s4.trans (z04 hp2 _))).kp) .nil))))) ⟨k1.mono hg (by decide),by omega,by omega,hob⟩ (KnowsD.whl k1 hkn)
 ·have hk3:=s03 _ _ hk
  rw [e3]
  refine z0g fun N4 e4=>?_
  walk_at "rd"
  refine⟨_,zyr (SqL.of hk3),?_⟩
  refine⟨a,ns,k+3,_,rfl,s03.seq hS,by omega,hl,fun m H4 m0 m1 s4=>?_⟩
  obtain⟨x,hx,e⟩:=zb3 (c:=V.str) (ns:=g) (k:=m) m0 (by rw [List.length_map] at m1; exact m1)
  refine⟨_,_,rfl,SqL.of (s4 _ _ hk3),_,e,zl 2 (by decide),fun pn hpn=>?_⟩
  have s5:=z04 hpn (HO.tup [V.str "name",V.str x])
  rw [e4]
  refine z0g fun N5 e5=>?_
  walk_at "rd"
  refine⟨zl 4 (by decide),fun pg hpg=>?_⟩
  have s6:=z04 hpg (HO.lst [V.int (-2),V.int 1,V.int 3,V.int 5])
  have s06:=s03.trans (s4.trans (s5.trans s6))
  refine⟨a,ns,k+4,4,rfl,s06.seq hS,by omega,by decide,fun l H5 l0 l1 s7=>?_⟩
  obtain⟨gv,hgv,e2⟩:=zb3 (c:=V.int) (ns:=[-2,1,3,5]) (k:=l) l0 l1
  have hgv2 : -32768<=gv/\gv<=32767:=by
   simp only[List.mem_cons,List.not_mem_nil,or_false] at hgv
   omega
  refine⟨_,_,rfl,SqL.of (s7 _ _ z01),_,e2,zl 2 (by decide),fun pl hpl=>?_⟩
  have s8:=z04 hpl (HO.tup [V.str "num",V.int gv])
  have s68:=s6.trans (s7.trans s8)
  have s08:=s03.trans (s4.trans (s5.trans s68))
  rw [e5]
  refine z0g fun N6 e6=>?_
  walk_at "rd"
  refine⟨_,SqT.of (s68 _ _ z01),V.str x,rfl,?_⟩
  refine⟨a,ns,k+5,3,rfl,s08.seq hS,by omega,by decide,fun z H6 z0 z1 s9=>?_⟩
  refine⟨_,rfl,zl 2 (by decide),fun p1 h1=>⟨zl 3 (by decide),fun p2 h2=>⟨zl 3 (by decide),fun p3 h3=>?_⟩⟩⟩
  rw [e6]
  walk_at "rd"
  refine⟨zl 3 (by decide),fun p4 h4=>⟨zl 1 (by decide),fun p5 h5=>?_⟩⟩
  have u1:=z04 h1 (HO.tup [V.str "num",V.int (1+z)])
  have u2:=z04 h2 (HO.tup [V.str "add",V.ref pn,V.ref p1])
  have u3:=z04 h3 (HO.tup [V.str "set",V.str x,V.ref p2])
  have u4:=z04 h4 (HO.tup [V.str "less",V.ref pn,V.ref pl])
  have u5:=z04 h5 (HO.tup [V.ref p3])
  have u05:=s08.trans (s9.trans (u1.trans (u2.trans (u3.trans (u4.trans u5)))))
  refine⟨xs,SqT.of (u05 _ _ hab),[V.ref p3],SqT.of z01,by rw [List.length_singleton]; exact zl _ (by omega),fun h=>absurd h hxs,fun _ h=>absurd h (by simp),fun _ _ p6 h6=>⟨zl 4 (by decide),fun p7 h7=>?_⟩⟩
  have u6:=z04 h6 (HO.tup (xs++[V.ref p3]))
  have u67:=u6.trans (z04 h7 (HO.tup [V.str "while",V.ref p4,V.int mv,V.ref p6]))
  have u57:=u5.trans u67
  have dn:Dt (upd H4 pn (HO.tup [V.str "name",V.str x])) (.ref pn) (T.nm x).enc:=.tup z01 (.cons (.str _) (.cons (.str _) .nil))
  have dl:Dt (upd H5 pl (HO.tup [V.str "num",V.int gv])) (.ref pl) (T.num gv).enc:=.tup z01 (.cons (.str _) (.cons (.int _) .nil))
  have dz:Dt (upd H6 p1 (HO.tup [V.str "num",V.int (1+z)])) (.ref p1) (T.num (1+z)).enc:=.tup z01 (.cons (.str _) (.cons (.int _) .nil))
  have s9u:=s9.trans u1
  have da:Dt _ (.ref p2) (T.op .add (.nm x) (.num (1+z))).enc:=.tup (z01 (H:=upd H6 p1 (HO.tup [V.str "num",V.int (1+z)]))) (.cons (.str _) (.cons (dn.kp (s68.trans (s9u.trans u2)).kp) (.cons (dz.kp u2.kp) .nil)))
  have ds:Dt _ (.ref p3) (D.set x (T.op .add (.nm x) (.num (1+z)))).enc:=.tup z01 (.cons (.str _) (.cons (.str _) (.cons (da.kp u3.kp) .nil)))
  have de:Dt _ (.ref p4) (T.op .less (.nm x) (.num gv)).enc:=.tup z01 (.cons (.str _) (.cons (dn.kp (s68.trans (s9u.trans (u2.trans (u3.trans u4)))).kp) (.cons (dl.kp (s9u.trans (u2.trans (u3.trans u4))).kp) .nil)))
  have dB:Dt _ (.ref p6) (.tup (encB b++[(D.set x (T.op .add (.nm x) (.num (1+z)))).enc])):=.tup z01 ((hda.kp (u05.trans u6).kp).append (.cons (ds.kp (u4.trans (u5.trans u6)).kp) .nil))
  rw [show encB b++[(D.set x (T.op .add (.nm x) (.num (1+z)))).enc]=encB (b++[D.set x (T.op .add (.nm x) (.num (1+z)))]) by rw [z80,encB,encB]] at dB
  have hz : -32768<=1+z/\1+z<=32767:=by omega
  refine q _ _ (.whl (.op .less (.nm x) (.num gv)) _ (b++[D.set x (T.op .add (.nm x) (.num (1+z)))])) (u05.trans u67) (.tup z01 (.cons (.str _) (.cons (de.kp u57.kp) (.cons (.int _) (.cons (dB.kp (z04 h7 _).kp) .nil))))) ⟨⟨hg x hx,hgv2⟩,by omega,by omega,?_⟩ (KnowsD.whl (n:=2) ⟨hx,hgv2⟩ (hkn.sub.snoc (KnowsD.set (n:=2) (g':=g) ⟨hx,hz⟩ fun y hy=>.inl hy)))
  obtain⟨d',rfl⟩:∃d',d=d'+1:=⟨d - 1,by omega⟩
  refine⟨by rw [List.length_append,List.length_singleton]; omega,fun c hc=>?_⟩
  rcases List.mem_append.mp hc with hc | hc
  ·exact hob.2 c hc
  ·have ec:c=D.set x (T.op .add (.nm x) (.num (1+z))):=by simpa using hc
   subst ec
   exact⟨hg x hx,⟨hg x hx,hz⟩⟩
def zt6:Nat->Nat
 | 1=>1 | 2=>2 | 3=>6 | _=>0
def zsc:Nat->Nat
 | 3=>2 | _=>1
theorem pg1(d:Nat):1<=zsc d:=by unfold zsc; split<;>decide
theorem pgc{d j:Nat}(h1:1<=d)(h3:d<=3)(hj:j<=d):j * zsc d<=zt6 d:=by
 have:d=1\/d=2\/d=3:=by omega
 rcases this with rfl | rfl | rfl<;>simp only[zsc,zt6]<;>omega
theorem cgp{d:Nat}(h1:2<=d)(h3:d<=3):zt6 (d - 1)<=zsc d:=by
 have:d=2\/d=3:=by omega
 rcases this with rfl | rfl<;>decide
theorem cg6(d:Nat):zt6 d<=6:=by unfold zt6; split<;>decide
theorem q1p{Hy C:Hp->Prop}{G:Prop}(h1:(∀Hx,Hy Hx->C Hx)->G)(h2:∀Hx,Hy Hx->C Hx):G:=h1 h2
def zft(K:PySem.W.Frag)(n:Nat):Sp:=fun vs H Q _=>∃(a:Addr) (ns:List Int) (k:Int) (kn:Addr) (g:List Str) (d:Nat),vs=[.ref a,.int k,.ref kn,.int d]/\SqL K H a (ns.map V.int)/\0<=k/\H kn=some (.lst (g.map V.str))/\Sub g pool/\1<=d/\d<=n/\d<=3/\g.length+100 * d<=900/\
 ∀(r rb rk:Addr) (H':Hp) (b:List D) (g':List Str),Same H H'->H' r=some (.tup [.ref rb,.ref rk])->Dt H' (.ref rb) (.tup (encB b))->H' rk=some (.lst (g'.map V.str))->okB d b->b.length<=d->b≠[]->Knows g b g'->Sub g' pool->g'.length<=g.length+zt6 d->(rk=kn\/H rk=none)->Q (.ref r) H'
def q5z(U3:Hp)(kc:Addr)(g':List Str)(x:Str)(i:Nat)(ys:List V)(σ':St)(H':Hp):Prop:=H'=U3/\(∃t,σ'=[t,some (.ref kc)])/\((i=0/\ys=[])\/(i=1/\ys=(if g'.contains x then [] else [x]).map V.str))
def q5x(U2:Hp)(rk2:Addr)(g1 g2:List Str)(i:Nat)(ys:List V)(σ':St)(H':Hp):Prop:=H'=U2/\(∃t,σ'=[t,some (.ref rk2)])/\ys=((g1.take i).filter fun x=>g2.contains x).map V.str
def q62(H:Hp)(kn a:Addr)(k:Int)(d:Nat)(pd:Addr)(g:List Str)(j:Nat)(σ : St)(Hc:Hp):Prop:=
 ∃(kc:Addr) (vs:List V) (b:List D) (g':List Str) (x5 x6 x7 x8 x9 x10 x11 x12 x13:Option V),σ = [some (.ref a),some (.int k),some (.ref kc),some (.int d),some (.ref pd),x5,x6,x7,x8,x9,x10,x11,x12,x13]/\
  Same H Hc/\Hc pd=some (.lst vs)/\DtA Hc vs (encB b)/\Hc kc=some (.lst (g'.map V.str))/\kc≠pd/\Knows g b g'/\Sub g' pool/\b.length=j/\(∀e∈b,okD (d - 1) e)/\g'.length<=g.length+j * zsc d/\(kc=kn\/H kc=none)
theorem zx8{n:Nat} (F:Fun K "_law_block" "_law_block" z0c f fd) (b_range:mg "range" = none) (b_tuple:mg "tuple" = none) (c_law_pick:Callee P w K mg base "_law_pick" ["_law_script","_law_k","_law_many"] 2 (zdh K))
  (c_law_sum:Callee P w K mg base "_law_sum" ["_law_script","_law_at","_law_known","_law_deep"] 6 (zm4 K 3)) (c_law_counted:Callee P w K mg base "_law_counted" ["_law_script","_law_at","_law_known","_law_body","_law_deep"] 7 (zhs K))
  (c_law_block:Callee P w K mg base "_law_block" ["_law_script","_law_at","_law_known","_law_deep"] (n+7) (zft K n)):FnOk P w K mg base CX0 (n+8) f fd ["_law_script","_law_at","_law_known","_law_deep"] (zft K (n+1)):=by
 refine F.ok sc_law_block (fun vs H Q E h=>?_) (fun cdv A outer s H vs Q E hr h=>?_)
 ·obtain⟨a,ns,k,kn,g,d,rfl,_⟩:=h
  rfl
 obtain⟨a,ns,k,kn,g,d,rfl,hS,h0,hk,hg,hd1,hd2,hd3,hgb,q⟩:=h
 refine⟨_,(z03 (z18 (i:=4) sc_law_block.nd rfl z9w (z46 pa_nil) (z05 rfl))
 (z03 (zbz PassesOwn.never rfl (zi1 zez b_range (z06 (z0o z1h z02 (z1n c_law_pick hr (by omega) (z06 (z00 (i:=0) rfl z0k z08 z09) (z06 (z00 (i:=1) rfl z6n z1b z1c) (z06 (z00 (i:=3) rfl z1k z37 z38) pa_nil))) z4z z0w)) pa_nil)) (z1u (i:=5) sc_law_block.nd rfl zd5)
 (z03 (z18 (i:=6) sc_law_block.nd rfl zan (z0o z1h (z0o zc0 z02 (z00 (i:=1) rfl z6n z1b z1c)) (z0o zc0 z02 (z0o z1h (z00 (i:=5) rfl zd0 z4v z4w) z02))) (z05 rfl))
 (z03 (z18 (i:=7) sc_law_block.nd rfl zbm (z1n c_law_pick hr (by omega) (z06 (z00 (i:=0) rfl z0k z08 z09) (z06 (z00 (i:=6) rfl z0u z4d z4e) (z06 z02 pa_nil))) z4z z0w) (z05 rfl))
 (z07 (z2g (PW.pt (zgu (z0f zpe (z00 (i:=7) rfl z6a ze3 ze8) z02 (z0m _)) (zgu (z0f zdj (z00 (i:=3) rfl z1k z37 z38) z02 (z0m _)) (zgf (z0f (gEq hr.units) (z00 (i:=2) rfl z0n z0s z0t) (z46 pa_nil) (z0m _)))))) (z03 (z18 (i:=8) sc_law_block.nd rfl zak (z0z z4n (z46 (z06 z0i (z06 z0i (z06 z0i (z06 z0i pa_nil))))) (z1n c_law_pick hr (by omega) (z06 (z00 (i:=0) rfl z0k z08 z09) (z06 (z0o z1h (z00 (i:=6) rfl z0u z4d z4e) z02) (z06 z02 pa_nil))) z4z z0w) (fun _ _=>rfl)) (z05 rfl))
 (z03 (z7p (zi3 PySem.F.plainAttrs_list PySem.F.slot_list_append PySem.F.type_list_append z7r (z00 (i:=4) rfl z2s z7d z7f) (z06 (z11 (z06 z0i (z06 (z00 (i:=8) rfl z5z z6w z6y) (z06 (z1n c_law_sum hr (by omega) (z06 (z00 (i:=0) rfl z0k z08 z09) (z06 (z0o z1h (z00 (i:=6) rfl z0u z4d z4e) z02) (z06 (z00 (i:=2) rfl z0n z0s z0t) (z06 z02 pa_nil)))) z6u z82) pa_nil)))) pa_nil)) (z05 rfl))
 (z07 (z18 (i:=2) sc_law_block.nd rfl z5v (z0o zqs (z00 (i:=2) rfl z0n z0s z0t) (zdr ["_law_one","_law_known"] [none,some 2] rfl (CompS.of (by rfl)) (zfx (z46 (z06 (z00 (i:=8) rfl z5z z6w z6y) pa_nil))) (fun _ _ _ _ _=>(z1u (i:=0) (show List.Nodup (["_law_one","_law_known"]:List Str) from by decide+kernel) rfl (Or.inl rfl))) (fun _ _ _ _ _=>(zp7 (z0f (opK (r:=zge) (K:=K) (q2y hr.units) rfl) (z00 (i:=0) rfl (by first | exact Or.inl rfl | exact Or.inr (Or.inl rfl) | exact Or.inr (Or.inr rfl)) z83 z84) (z00 (i:=1) rfl (by first | exact Or.inl rfl | exact Or.inr (Or.inl rfl) | exact Or.inr (Or.inr rfl)) z0s z0t) (by with_unfolding_all rfl)))) (fun _ _ _ _ _=>(z00 (i:=0) rfl (by first | exact Or.inl rfl | exact Or.inr (Or.inl rfl) | exact Or.inr (Or.inr rfl)) z83 z84)))) (z05 rfl))))) (z07 (z2g (z0f zpe (z00 (i:=7) rfl z6a ze3 ze8) z02 (z0m _)) (z03 (zyk (z1n c_law_block hr (by omega) (z06 (z00 (i:=0) rfl z0k z08 z09) (z06 (z0o z1h (z00 (i:=6) rfl z0u z4d z4e) z02) (z06 (z00 (i:=2) rfl z0n z0s z0t) (z06 (z0o z8d (z00 (i:=3) rfl z1k z37 z38) z02) pa_nil)))) z4o z7e) (zel (n:=2) rfl (z24 (z1u (i:=9) sc_law_block.nd rfl z9v) (z24 (z1u (i:=10) sc_law_block.nd rfl zal) z7q))))
 (z03 (zyk (z1n c_law_block hr (by omega) (z06 (z00 (i:=0) rfl z0k z08 z09) (z06 (z0o z1h (z00 (i:=6) rfl z0u z4d z4e) z02) (z06 (z00 (i:=2) rfl z0n z0s z0t) (z06 (z0o z8d (z00 (i:=3) rfl z1k z37 z38) z02) pa_nil)))) z4o z7e) (zel (n:=2) rfl (z24 (z1u (i:=11) sc_law_block.nd rfl z8y) (z24 (z1u (i:=12) sc_law_block.nd rfl z9u) z7q))))
 (z03 (z7p (zi3 PySem.F.plainAttrs_list PySem.F.slot_list_append PySem.F.type_list_append z7r (z00 (i:=4) rfl z2s z7d z7f) (z06 (z11 (z06 z0i (z06 (z1n c_law_sum hr (by omega) (z06 (z00 (i:=0) rfl z0k z08 z09) (z06 (z0o z1h (z00 (i:=6) rfl z0u z4d z4e) z02) (z06 (z00 (i:=2) rfl z0n z0s z0t) (z06 z02 pa_nil)))) z6u z82) (z06 (z00 (i:=9) rfl z9d zfb zfg) (z06 (z00 (i:=11) rfl z8o zjo zjp) pa_nil))))) pa_nil)) (z05 rfl))
 (z07 (z18 (i:=2) sc_law_block.nd rfl z5v (zdr ["_law_one","_law_yours"] [none,some 12] rfl (CompS.of (by rfl)) (zfx (z00 (i:=10) rfl zab znm znw)) (fun _ _ _ _ _=>(z1u (i:=0) (show List.Nodup (["_law_one","_law_yours"]:List Str) from by decide+kernel) rfl (Or.inl rfl))) (fun _ _ _ _ _=>(zp7 (z0f (opK (r:=qIn) (K:=K) (gIn hr.units) rfl) (z00 (i:=0) rfl (by first | exact Or.inl rfl | exact Or.inr (Or.inl rfl) | exact Or.inr (Or.inr rfl)) z83 z84) (z00 (i:=1) rfl (by first | exact Or.inl rfl | exact Or.inr (Or.inl rfl) | exact Or.inr (Or.inr rfl)) zlo zlt) (by with_unfolding_all rfl)))) (fun _ _ _ _ _=>(z00 (i:=0) rfl (by first | exact Or.inl rfl | exact Or.inr (Or.inl rfl) | exact Or.inr (Or.inr rfl)) z83 z84))) (zry z98)))))) (z03 (z18 (i:=13) sc_law_block.nd rfl zam (z0z z0p (z1n c_law_block hr (by omega) (z06 (z00 (i:=0) rfl z0k z08 z09) (z06 (z0o z1h (z00 (i:=6) rfl z0u z4d z4e) z02) (z06 (z00 (i:=2) rfl z0n z0s z0t) (z06 (z0o z8d (z00 (i:=3) rfl z1k z37 z38) z02) pa_nil)))) z4o z7e) z02 (fun _ _=>rfl)) (z05 rfl))
 (z07 (z7p (zi3 PySem.F.plainAttrs_list PySem.F.slot_list_append PySem.F.type_list_append z7r (z00 (i:=4) rfl z2s z7d z7f) (z06 (z1n c_law_counted hr (by omega) (z06 (z00 (i:=0) rfl z0k z08 z09) (z06 (z0o z1h (z00 (i:=6) rfl z0u z4d z4e) z02) (z06 (z00 (i:=2) rfl z0n z0s z0t) (z06 (z00 (i:=13) rfl zac zcl zco) (z06 (z00 (i:=3) rfl z1k z37 z38) pa_nil))))) z94 ziw) pa_nil)) (z05 rfl)))))))))))
 (z07 (z0h (z11 (z06 (zl0 z4q zey b_tuple z8j (z06 (z00 (i:=4) rfl z2s z7d z7f) pa_nil) z8e z8i) (z06 (z00 (i:=2) rfl z0n z0s z0t) pa_nil))))))),?_⟩
 walk_at "rd"
 refine⟨Nat.zero_le _,fun pd hpd=>?_⟩
 have s1:=z04 hpd (HO.lst [])
 refine⟨a,ns,k,d,rfl,s1.seq hS,h0,by omega,fun i H2 i0 i1 s2=>?_⟩
 have hnk:kn≠pd:=z0d hk hpd
 refine⟨_,rfl,by omega,by omega,?_⟩
 refine zcg (lo:=0) (n:=(1+i).toNat) (q62 H kn a k d pd g) ?start ?step ?done
 case start=>exact⟨kn,[],[],g,none,none,none,none,none,none,none,none,none,rfl,s1.trans s2,s2 _ _ z01,.nil,(s1.trans s2) _ _ hk,hnk,Knows.nil g,hg,rfl,fun e he=>absurd he (by simp),by omega,.inl rfl⟩
 case done=>
  rintro σ Hc ⟨kc,vs,b,g',x5,x6,x7,x8,x9,x10,x11,x12,x13,rfl,sc,hv,dv,hkc,hne,hkn,hg',hbl,hok,hgl,hkf⟩
  walk_at "rd"
  refine⟨vs,.inl ⟨SqL.of hv,fun pb hpb=>⟨zl 2 (by decide),fun pr hpr=>?_⟩⟩⟩
  have sa:=z04 hpb (HO.tup vs)
  have sb:=z04 hpr (HO.tup [V.ref pb,V.ref kc])
  refine q pr pb kc _ b g' (sc.trans (sa.trans sb)) z01 (.tup (sb _ _ z01) (dv.kp (sa.trans sb).kp)) (sb _ _ (sa _ _ hkc)) ?_ (by omega) (fun z=>by rw [z] at hbl; simp at hbl; omega) hkn hg' (Nat.le_trans hgl (Nat.add_le_add_left (pgc hd1 hd3 (by omega)) _)) hkf
  obtain⟨d',rfl⟩:∃d',d=d'+1:=⟨d - 1,by omega⟩
  exact⟨by omega,fun e he=>hok e he⟩
 case step=>
  rintro j σ Hc hj ⟨kc,vs,b,g',x5,x6,x7,x8,x9,x10,x11,x12,x13,rfl,sc,hv,dv,hkc,hne,hkn,hg',hbl,hok,hgl,hkf⟩
  have hjd:j < d:=by omega
  have hg7:g'.length<=g.length+6:=Nat.le_trans hgl (Nat.add_le_add_left (Nat.le_trans (pgc hd1 hd3 (Nat.le_of_lt hjd)) (cg6 d)) _)
  have hvl:vs.length=j:=by rw [dv.length,z7z,hbl]
  show zq7 _ (zq7 _ (ztc _ _ _)) _ _ _
  refine q1s fun Y Z eY eZ=>?_
  walk_at "rd"
  refine⟨.inl ⟨by decide,by decide⟩,.inl ⟨by decide,by decide⟩,?_⟩
  refine⟨a,ns,_,7,rfl,sc.seq hS,by omega,by decide,fun wy H3 w0 w1 s3=>?_⟩
  walk_at "rd"
  refine q1p (Hy:=fun Hx=>Same H3 Hx) (C:=?cc) ?kk ?_
  case kk=>
   intro key
   split
   ·generalize hH:H3=H3n
    exact key H3n (hH ▸ Same.refl _)
   ·split
    ·exact key H3 (Same.refl _)
    ·rename_i hd0
     refine⟨Nat.zero_le _,fun pe hpe=>?_⟩
     have se:=z04 hpe (HO.lst [])
     refine⟨_,q30 (SqL.of (se _ _ (s3 _ _ hkc))) (zyp hg') (SqL.of z01),?_⟩
     replace s3:=s3.trans se
     generalize upd H3 pe (HO.lst [])=H3e at s3 se |-
     split
     ·exact key H3e se
     ·rename_i hne2
      rw [eZ]
      refine zy8 fun Y2 Z2 eY2 eZ2=>?_
      walk_at "rd"
      split
      ·rw [eY2]
       refine z0g fun N1 e1=>?_
       walk_at "rd"
       have hd4:2<=d:=by
        have:¬ (d:Int)=1:=hd0
        omega
       have ed:((d:Int) - 1)=((d - 1:Nat):Int):=by omega
       rw [ed]
       refine⟨a,ns,_,kc,g',d - 1,rfl,(sc.trans s3).seq hS,by omega,s3 _ _ hkc,hg',by omega,by omega,by omega,by omega,fun r1 rb1 rk1 H4 b1 g1 s4 hr1 db1 hk1 ob1 lb1 nb1 kn1 sp1 gl1 kf1=>?_⟩
       refine⟨_,rfl,_,SqT.of hr1,rfl,_,_,rfl,_,_,rfl,rfl,?_⟩
       have s34:=s3.trans s4
       rw [e1]
       refine z0g fun N2 e2=>?_
       walk_at "rd"
       rw [ed]
       refine⟨a,ns,_,kc,g',d - 1,rfl,(sc.trans s34).seq hS,by omega,s34 _ _ hkc,hg',by omega,by omega,by omega,by omega,fun r2 rb2 rk2 H5 b2 g2 s5 hr2 db2 hk2 ob2 lb2 nb2 kn2 sp2 gl2 kf2=>?_⟩
       have s35:=s34.trans s5
       refine⟨_,rfl,_,SqT.of hr2,rfl,_,_,rfl,_,_,rfl,rfl,?_⟩
       rw [e2]
       refine z0g fun N3 e3=>?_
       walk_at "rd"
       refine⟨.inl ⟨rfl,_,SqL.of (s35 _ _ hv)⟩,?_⟩
       refine⟨a,ns,_,kc,g',2,rfl,(sc.trans s35).seq hS,by omega,s35 _ _ hkc,hg',by decide,by decide,fun r3 H6 t3 s6 d3 k3=>?_⟩
       refine⟨zl 4 (by decide),fun pt hpt=>?_⟩
       have s7:=z04 hpt (HO.tup [V.str "if",r3,V.ref rb1,V.ref rb2])
       have s57:=s5.trans (s6.trans s7)
       have s67:=s6.trans s7
       have dt:Dt _ (.ref pt) (D.ite t3 b1 b2).enc:=.tup z01 (.cons (.str _) (.cons (d3.kp s7.kp) (.cons (db1.kp s57.kp) (.cons (db2.kp s67.kp) .nil))))
       have s37:=s34.trans s57
       have n1:rk1≠pd:=by
        rcases kf1 with z | z
        ·rw [z]; exact hne
        ·intro y; rw [y,s3 _ _ hv] at z; cases z
       have n2:rk2≠pd:=by
        rcases kf2 with z | z
        ·rw [z]; exact hne
        ·intro y; rw [y,s34 _ _ hv] at z; cases z
       have m1:=s57 _ _ hk1
       have m2:=s67 _ _ hk2
       generalize upd H6 pt (HO.tup [V.str "if",r3,V.ref rb1,V.ref rb2])=U at s7 s57 s67 dt s37 m1 m2 |-
       have hv7:=s37 _ _ hv
       refine⟨vs,hv7,by rw [hvl]; exact z3e (by omega),?_⟩
       have k8:Kp U (upd U pd (HO.lst (vs++[V.ref pt]))):=Kp.set hv7
       have w1:(upd U pd (HO.lst (vs++[V.ref pt]))) rk1=some (.lst (g1.map V.str)):=by rw [z0a n1]; exact m1
       have w2:(upd U pd (HO.lst (vs++[V.ref pt]))) rk2=some (.lst (g2.map V.str)):=by rw [z0a n2]; exact m2
       have vU2:(upd U pd (HO.lst (vs++[V.ref pt]))) pd=some (.lst (vs++[V.ref pt])):=z01
       have sU2:Same H (upd U pd (HO.lst (vs++[V.ref pt]))):=z6m (sc.trans s37) hpd
       generalize upd U pd (HO.lst (vs++[V.ref pt]))=U2 at k8 w1 w2 vU2 sU2 |-
       rw [e3]
       walk_at "rd"
       refine⟨⟨_,SqL.of w1⟩,?_⟩
       have hg1:g1.length<=900:=by
        have:=cg6 (d - 1)
        omega
       refine zfd (K:=K) (a:=rk1) (xs:=g1.map V.str) (q5x U2 rk2 g1 g2) ⟨rfl,⟨none,rfl⟩,by simp⟩ (by rw [List.length_map]; exact z3e (by omega)) ?_ ?_ ?_ ?_
       ·rintro i ys σ' H' ⟨_,_,rfl⟩
        rw [List.length_map]
        exact Nat.le_trans (List.length_filter_le _ _) (by rw [List.length_take]; omega)
       ·rintro i ys σ' H' _ ⟨rfl,_,_⟩
        exact SqL.of w1
       ·rintro i ys v σ' H' hxi ⟨rfl,⟨t,rfl⟩,rfl⟩
        rw [List.getElem?_map] at hxi
        cases hx:g1[i]? with
        | none=>rw [hx] at hxi; cases hxi
        | some x=>
         rw [hx] at hxi
         have ev:V.str x=v:=by simpa using hxi
         subst ev
         walk_at "rd"
         refine⟨inV (.str x) (g2.map V.str),.inl ⟨rk2,_,rfl,.inl (SqL.of w2),rfl,znc g2,rfl⟩,?_⟩
         rw [zlg]
         have et:g1.take (i+1)=g1.take i++[x]:=by rw [List.take_add_one,hx]; rfl
         cases hc:g2.contains x with
         | true=>exact⟨rfl,⟨_,rfl⟩,by rw [et,List.filter_append,List.map_append,List.filter_cons,hc]; rfl⟩
         | false=>exact⟨rfl,⟨_,rfl⟩,by rw [et,List.filter_append,List.map_append,List.filter_cons,hc]; simp⟩
       ·rintro ys σ' H' ⟨rfl,_,rfl⟩ pc hpc
        rw [List.length_map,List.take_length]
        have sa:=z04 hpc (HO.lst ((g1.filter fun x=>g2.contains x).map V.str))
        have hnp:pc≠pd:=fun z=>by rw [z,vU2] at hpc; cases hpc
        have hlf:(g1.filter fun x=>g2.contains x).length<=g1.length:=List.length_filter_le _ _
        refine⟨pc,vs++[V.ref pt],b++[D.ite t3 b1 b2],g1.filter fun x=>g2.contains x,_,_,_,_,_,_,_,_,_,rfl,sU2.trans sa,sa _ _ vU2,?_,z01,hnp,hkn.snoc (KnowsD.ite k3 kn1 kn2 ?_),?_,by rw [List.length_append,List.length_singleton,hbl],?_,?_,.inr (sU2.free hpc)⟩
        ·rw [z80]
         exact(dv.kp (s37.kp.trans (k8.trans sa.kp))).append (.cons (dt.kp (k8.trans sa.kp)) .nil)
        ·intro y hy
         have:=List.mem_filter.mp hy
         exact⟨this.1,by simpa using this.2⟩
        ·exact fun y hy=>sp1 y (List.mem_filter.mp hy).1
        ·intro c hc
         rcases List.mem_append.mp hc with hc | hc
         ·exact hok c hc
         ·have ec:c=D.ite t3 b1 b2:=by simpa using hc
          subst ec
          exact⟨k3.mono hg' (by decide),ob1,ob2⟩
        ·rw [Nat.succ_mul]
         have:=cgp hd4 hd3
         omega
      ·rw [eZ2]
       refine z0g fun N1 e1=>?_
       walk_at "rd"
       have hd4:2<=d:=by
        have:¬ (d:Int)=1:=hd0
        omega
       have ed:((d:Int) - 1)=((d - 1:Nat):Int):=by omega
       rw [ed]
       have hgn:g'≠[]:=fun z=>hne2 (by rw [z]; rfl)
       refine⟨a,ns,_,kc,g',d - 1,rfl,(sc.trans s3).seq hS,by omega,s3 _ _ hkc,hg',by omega,by omega,by omega,by omega,fun r1 rb1 rk1 H4 b1 g1 s4 hr1 db1 hk1 ob1 lb1 nb1 kn1 sp1 gl1 kf1=>?_⟩
       have s34:=s3.trans s4
       refine⟨_,rfl,_,SqT.of hr1,_,rfl,?_⟩
       rw [e1]
       walk_at "rd"
       refine⟨.inl ⟨rfl,_,SqL.of (s34 _ _ hv)⟩,?_⟩
       refine⟨a,ns,_,kc,g',g1,_,b1,d - 1,d,rfl,(sc.trans s34).seq hS,by omega,s34 _ _ hkc,hg',hgn,db1,ob1,by omega,nb1,kn1,by omega,fun r2 H5 e2 s5 de2 oe2 ke2=>?_⟩
       have s35:=s34.trans s5
       refine⟨vs,s35 _ _ hv,by rw [hvl]; exact z3e (by omega),?_⟩
       have k8:Kp H5 (upd H5 pd (HO.lst (vs++[r2]))):=Kp.set (s35 _ _ hv)
       refine⟨kc,vs++[r2],b++[e2],g',_,_,_,_,_,_,_,_,_,rfl,z6m (sc.trans s35) hpd,z01,?_,by rw [z0a hne]; exact s35 _ _ hkc,hne,hkn.snoc ke2,hg',by rw [List.length_append,List.length_singleton,hbl],?_,?_,hkf⟩
       ·rw [z80]
        exact(dv.kp (s35.kp.trans k8)).append (.cons (de2.kp k8) .nil)
       ·intro c hc
        rcases List.mem_append.mp hc with hc | hc
        ·exact hok c hc
        ·have ec:c=e2:=by simpa using hc
         subst ec
         exact oe2
       ·rw [Nat.succ_mul]
        omega
  intro Hx sx
  replace s3:=s3.trans sx
  rw [eY]
  refine z0g fun N1 e1=>?_
  walk_at "rd"
  refine⟨zl 4 (by decide),fun pm hpm=>?_⟩
  have s4:=z04 hpm (HO.lst [V.str "a",V.str "b",V.str "c",V.str "dd"])
  refine⟨a,ns,_,4,rfl,((sc.trans s3).trans s4).seq hS,by omega,by decide,fun m H4 m0 m1 s5=>?_⟩
  obtain⟨x,hx,e⟩:=zb3 (c:=V.str) (ns:=pool) (k:=m) m0 m1
  have s35:=s3.trans (s4.trans s5)
  refine⟨_,_,rfl,SqL.of (s5 _ _ z01),_,e,?_⟩
  rw [e1]
  refine z0g fun N2 e2=>?_
  walk_at "rd"
  refine⟨.inl ⟨rfl,_,SqL.of (s35 _ _ hv)⟩,?_⟩
  refine⟨a,ns,_,kc,g',3,rfl,(sc.trans s35).seq hS,by omega,s35 _ _ hkc,hg',by decide,by decide,fun r1 H5 t1 s6 d1 k1=>?_⟩
  refine⟨zl 3 (by decide),fun pt hpt=>?_⟩
  have s7:=z04 hpt (HO.tup [V.str "set",V.str x,r1])
  have dt:Dt _ (.ref pt) (D.set x t1).enc:=.tup z01 (.cons (.str _) (.cons (.str _) (.cons (d1.kp s7.kp) .nil)))
  have s37:=s35.trans (s6.trans s7)
  generalize upd H5 pt (HO.tup [V.str "set",V.str x,r1])=U at s7 dt s37 |-
  have hv7:=s37 _ _ hv
  refine⟨vs,hv7,by rw [hvl]; exact z3e (by omega),?_⟩
  rw [e2]
  walk_at "rd"
  refine⟨zl 1 (by decide),fun pl hpl=>?_⟩
  have k8:Kp U (upd U pd (HO.lst (vs++[V.ref pt]))):=Kp.set hv7
  have kU2:(upd U pd (HO.lst (vs++[V.ref pt]))) kc=some (.lst (g'.map V.str)):=by rw [z0a hne]; exact s37 _ _ hkc
  have vU2:(upd U pd (HO.lst (vs++[V.ref pt]))) pd=some (.lst (vs++[V.ref pt])):=z01
  have sU2:Same H (upd U pd (HO.lst (vs++[V.ref pt]))):=z6m (sc.trans s37) hpd
  generalize upd U pd (HO.lst (vs++[V.ref pt]))=U2 at k8 kU2 vU2 sU2 hpl |-
  have s9:=z04 hpl (HO.lst [V.str x])
  have hU3:(upd U2 pl (HO.lst [V.str x])) pl=some (.lst [V.str x]):=z01
  generalize upd U2 pl (HO.lst [V.str x])=U3 at s9 hU3 |-
  refine⟨⟨_,SqL.of hU3⟩,?_⟩
  refine zfd (K:=K) (a:=pl) (xs:=[V.str x]) (q5z U3 kc g' x) ⟨rfl,⟨none,rfl⟩,.inl ⟨rfl,rfl⟩⟩ (z3e (by show 1<=1000; decide)) ?_ ?_ ?_ ?_
  ·rintro i ys σ' H' ⟨_,_,h⟩
   rcases h with⟨rfl,rfl⟩ | ⟨rfl,rfl⟩
   ·exact Nat.le_refl _
   ·split<;>simp
  ·rintro i ys σ' H' _ ⟨rfl,_,_⟩
   exact SqL.of hU3
  ·rintro i ys v σ' H' hxi ⟨rfl,⟨t,rfl⟩,h⟩
   rcases h with⟨rfl,rfl⟩ | ⟨rfl,rfl⟩
   ·have ev:V.str x=v:=by simpa using hxi
    subst ev
    walk_at "rd"
    refine⟨!inV (.str x) (g'.map V.str),.inl ⟨kc,_,rfl,.inl (SqL.of (s9 _ _ kU2)),rfl,znc g',rfl⟩,?_⟩
    rw [zlg]
    cases hc:g'.contains x with
    | true=>exact⟨rfl,⟨_,rfl⟩,.inr ⟨rfl,by rw [hc]; rfl⟩⟩
    | false=>exact⟨rfl,⟨_,rfl⟩,.inr ⟨rfl,by rw [hc]; rfl⟩⟩
   ·simp at hxi
  ·rintro ys σ' H' ⟨rfl,_,h⟩ pc hpc
   rcases h with⟨h,_⟩ | ⟨_,rfl⟩
   ·exact absurd h (by simp)
   have sa:=z04 hpc (HO.lst ((if g'.contains x then [] else [x]).map V.str))
   refine⟨_,rfl,_,sa _ _ (s9 _ _ kU2),_,z01,?_,fun pk hpk=>?_⟩
   ·have e1:((if g'.contains x then [] else [x]).map V.str).length<=1:=by split<;>simp
    rw [List.length_map]
    exact zl _ (by omega)
   ·have sb:=z04 hpk (HO.lst (g'.map V.str++(if g'.contains x then [] else [x]).map V.str))
    have s9b:=s9.trans (sa.trans sb)
    have hnp:pk≠pd:=fun z=>by
     have:=(s9.trans sa) _ _ vU2
     rw [<- z,hpk] at this
     cases this
    refine⟨pk,vs++[V.ref pt],b++[D.set x t1],g'++(if g'.contains x then [] else [x]),_,_,_,_,_,_,_,_,_,rfl,sU2.trans s9b,s9b _ _ vU2,?_,?_,hnp,hkn.snoc (KnowsD.set k1 ?_),?_,by rw [List.length_append,List.length_singleton,hbl],?_,?_,.inr ((sU2.trans (s9.trans sa)).free hpk)⟩
    ·rw [z80]
     exact(dv.kp (s37.kp.trans (k8.trans s9b.kp))).append (.cons (dt.kp (k8.trans s9b.kp)) .nil)
    ·rw [z01,List.map_append]
    ·intro y hy
     rcases List.mem_append.mp hy with hy | hy
     ·exact .inl hy
     ·cases hc:g'.contains x with
      | true=>rw [hc] at hy; simp at hy
      | false=>rw [hc] at hy; simp at hy; exact .inr hy
    ·intro y hy
     rcases List.mem_append.mp hy with hy | hy
     ·exact hg' y hy
     ·cases hc:g'.contains x with
      | true=>rw [hc] at hy; simp at hy
      | false=>rw [hc] at hy; simp at hy; rw [hy]; exact hx
    ·intro c hc
     rcases List.mem_append.mp hc with hc | hc
     ·exact hok c hc
     ·have ec:c=D.set x t1:=by simpa using hc
      subst ec
      exact⟨hx,k1.mono hg' (by decide)⟩
    ·have e1:(if g'.contains x then [] else [x]).length<=1:=by split<;>simp
     rw [List.length_append,Nat.succ_mul]
     have:=pg1 d
     omega
theorem zss{k:Nat}:FnOk P w K mg base CX0 k f fd ["_law_script","_law_at","_law_known","_law_deep"] (zft K 0):=by
 have no:∀vs H Q E,¬ zft K 0 vs H Q E:=fun vs H Q E h=>by
  obtain⟨a,ns,k,kn,g,d,_,_,_,_,_,h1,h2,_⟩:=h
  omega
 exact⟨fun vs H Q E h=>absurd h (no vs H Q E),fun A outer s H args us vs Q E _ _ _ _ h=>absurd h (no vs H Q E)⟩
theorem zo9(dd:Df K mg "_law_block" z0c ["_law_script","_law_at","_law_known","_law_deep"] f fd) (b_range:mg "range" = none) (b_tuple:mg "tuple" = none) (c_law_pick:Callee P w K mg base "_law_pick" ["_law_script","_law_k","_law_many"] 2 (zdh K))
  (c_law_sum:Callee P w K mg base "_law_sum" ["_law_script","_law_at","_law_known","_law_deep"] 6 (zm4 K 3)) (c_law_counted:Callee P w K mg base "_law_counted" ["_law_script","_law_at","_law_known","_law_body","_law_deep"] 7 (zhs K)) :
  ∀n:Nat,Callee P w K mg base "_law_block" ["_law_script","_law_at","_law_known","_law_deep"] (n+7) (zft K n)
 | 0=>dd.callee zss
 | n+1=>dd.callee (zx8 dd.F b_range b_tuple c_law_pick c_law_sum c_law_counted (zo9 dd b_range b_tuple c_law_pick c_law_sum c_law_counted n))
abbrev Rw:=Str×Int×Int
def rowEnc(r:Rw):Dm:=.tup [.str r.1,.int r.2.1,.int r.2.2]
def pair:List Str:=["a","b"]
def q5u(H:Hp)(a:Addr)(k:Int)(pi:Addr)(j:Nat)(σ : St)(Hc:Hp):Prop:=∃(vs:List V) (rows:List Rw) (x3 x4:Option V),σ = [some (.ref a),some (.int k),some (.ref pi),x3,x4]/\Same H Hc/\Hc pi=some (.lst vs)/\DtA Hc vs (rows.map rowEnc)/\rows.length=j/\rows.map (·.1)=pair.take j/\∀r∈rows,-6<=r.2.1/\r.2.1<=r.2.2/\r.2.2<=8
def q5t(U:Hp)(rows:List Rw)(i:Nat)(ys:List V)(σ':St)(H':Hp):Prop:=H'=U/\(∃t,σ'=[t])/\ys=(rows.take i).map fun r=>V.str r.1
structure okRows(rows:List Rw):Prop where
 len:rows.length<=2
 nm:rows.map (·.1)=pair.take rows.length
 lo:∀r∈rows,-6<=r.2.1/\r.2.1<=r.2.2/\r.2.2<=8
def zm5(K:PySem.W.Frag):Sp:=fun vs H Q _=>∃(a:Addr) (ns:List Int) (k:Int),vs=[.ref a,.int k]/\SqL K H a (ns.map V.int)/\0<=k/\
 ∀(r ri rb:Addr) (H':Hp) (rows:List Rw) (b:List D) (g':List Str),Same H H'->H' r=some (.tup [.ref ri,.ref rb])->Dt H' (.ref ri) (.tup (rows.map rowEnc))->Dt H' (.ref rb) (.tup (encB b))->okRows rows->okB 3 b->b.length<=3->b≠[]->Knows (rows.map (·.1)) b g'->Q (.ref r) H'
theorem zsn(F:Fun K "_law_program" "_law_program" z0q f fd) (b_range:mg "range" = none) (b_tuple:mg "tuple" = none) (c_law_pick:Callee P w K mg base "_law_pick" ["_law_script","_law_k","_law_many"] 2 (zdh K))
  (c_law_block:Callee P w K mg base "_law_block" ["_law_script","_law_at","_law_known","_law_deep"] 10 (zft K 3)):FnOk P w K mg base CX0 11 f fd ["_law_script","_law_at"] (zm5 K):=by
 refine F.ok sc_law_program (fun vs H Q E h=>?_) (fun cdv A outer s H vs Q E hr h=>?_)
 ·obtain⟨a,ns,k,rfl,_⟩:=h
  rfl
 obtain⟨a,ns,k,rfl,hS,h0,q⟩:=h
 refine⟨_,(z03 (z18 (i:=2) sc_law_program.nd rfl z9t (z46 pa_nil) (z05 rfl))
 (z03 (zbz PassesOwn.never rfl (zi1 zd9 b_range (z06 (z1n c_law_pick hr (by omega) (z06 (z00 (i:=0) rfl z23 z08 z09) (z06 (z00 (i:=1) rfl z32 z1b z1c) (z06 z02 pa_nil))) z48 z0w) pa_nil)) (z1u (i:=3) sc_law_program.nd rfl zbl)
 (z03 (z18 (i:=4) sc_law_program.nd rfl z9s (z0o z8d (z1n c_law_pick hr (by omega) (z06 (z00 (i:=0) rfl z23 z08 z09) (z06 (z0o z1h (z0o z1h (z00 (i:=1) rfl z32 z1b z1c) z02) (z0o zc0 z02 (z00 (i:=3) rfl z4y z4v z4w))) (z06 z02 pa_nil))) z48 z0w) z02) (z05 rfl))
 (z07 (z7p (zi3 PySem.F.plainAttrs_list PySem.F.slot_list_append PySem.F.type_list_append z7r (z00 (i:=2) rfl z40 ze5 zea) (z06 (z11 (z06 (z0z z4n (z46 (z06 z0i (z06 z0i pa_nil))) (z00 (i:=3) rfl z4y z4v z4w) (fun _ _=>rfl)) (z06 (z00 (i:=4) rfl z5r z2v z2x) (z06 (z0o z1h (z00 (i:=4) rfl z5r z2v z2x) (z1n c_law_pick hr (by omega) (z06 (z00 (i:=0) rfl z23 z08 z09) (z06 (z0o z1h (z0o z1h (z00 (i:=1) rfl z32 z1b z1c) z02) (z0o zc0 z02 (z00 (i:=3) rfl z4y z4v z4w))) (z06 z02 pa_nil))) z48 z0w)) pa_nil)))) pa_nil)) (z05 rfl)))))
 (z07 (z0h (z11 (z06 (zl0 z4q zd8 b_tuple z8j (z06 (z00 (i:=2) rfl z40 ze5 zea) pa_nil) z8e z8i) (z06 (z0z z0p (z1n c_law_block hr (by omega) (z06 (z00 (i:=0) rfl z23 z08 z09) (z06 (z0o z1h (z00 (i:=1) rfl z32 z1b z1c) z02) (z06 (zdr ["_law_row"] [none] rfl (CompS.of (by rfl)) (zfx (z00 (i:=2) rfl z40 ze5 zea)) (fun _ _ _ _ _=>(z1u (i:=0) (show List.Nodup (["_law_row"]:List Str) from by decide+kernel) rfl (Or.inl rfl))) (fun _ _ _ _ _=>zkw) (fun _ _ _ _ _=>(z0z (ixK (r:=zu1) (K:=K) z0p rfl) (z00 (i:=0) rfl (by first | exact Or.inl rfl | exact Or.inr (Or.inl rfl) | exact Or.inr (Or.inr rfl)) ze4 ze9) z02 (fun _ _=>rfl)))) (z06 z02 pa_nil)))) z93 z7e) z02 (fun _ _=>rfl)) pa_nil))))))),?_⟩
 walk_at "rd"
 refine⟨Nat.zero_le _,fun pi hpi=>?_⟩
 have s1:=z04 hpi (HO.lst [])
 refine⟨a,ns,k,3,rfl,s1.seq hS,h0,by decide,fun i H2 i0 i1 s2=>?_⟩
 refine⟨_,rfl,by omega,by omega,?_⟩
 refine zcg (lo:=0) (n:=i.toNat) (q5u H a k pi) ?start ?step ?done
 case start=>exact⟨[],[],none,none,rfl,s1.trans s2,s2 _ _ z01,.nil,rfl,rfl,fun r hr=>absurd hr (by simp)⟩
 case step=>
  rintro j σ Hc hj ⟨vs,rows,x3,x4,rfl,sc,hv,dv,hl,hnm,hlo⟩
  have hvl:vs.length=j:=by rw [dv.length,List.length_map,hl]
  walk_at "rd"
  refine⟨.inl ⟨by decide,by decide⟩,?_⟩
  refine⟨a,ns,_,13,rfl,sc.seq hS,by omega,by decide,fun lo H3 l0 l1 s3=>?_⟩
  walk_at "rd"
  refine⟨.inl ⟨rfl,_,SqL.of (s3 _ _ hv)⟩,zl 2 (by decide),fun pm hpm=>?_⟩
  have s4:=z04 hpm (HO.lst [V.str "a",V.str "b"])
  have hj2:j=0\/j=1:=by omega
  obtain⟨x,ex,et⟩:∃x:Str,atI (pair.map V.str) (0+(j:Int))=some (V.str x)/\pair.take (j+1)=pair.take j++[x]:=by
   rcases hj2 with rfl | rfl
   ·exact⟨"a",rfl,rfl⟩
   ·exact⟨"b",rfl,rfl⟩
  refine⟨_,SqL.of z01,_,ex,.inl ⟨by decide,by decide⟩,?_⟩
  refine⟨a,ns,_,3,rfl,((sc.trans s3).trans s4).seq hS,by omega,by decide,fun z H4 z0 z1 s5=>?_⟩
  refine⟨_,rfl,zl 3 (by decide),fun pt hpt=>?_⟩
  have s6:=z04 hpt (HO.tup [V.str x,V.int (lo - 6),V.int (lo - 6+z)])
  have dt:Dt (upd H4 pt (HO.tup [V.str x,V.int (lo - 6),V.int (lo - 6+z)])) (.ref pt) (rowEnc (x,lo - 6,lo - 6+z)):=.tup z01 (.cons (.str _) (.cons (.int _) (.cons (.int _) .nil)))
  have s36:=s3.trans (s4.trans (s5.trans s6))
  generalize upd H4 pt (HO.tup [V.str x,V.int (lo - 6),V.int (lo - 6+z)])=U at s6 dt s36 |-
  refine⟨vs,s36 _ _ hv,by rw [hvl]; exact z3e (by omega),?_⟩
  have k8:Kp U (upd U pi (HO.lst (vs++[V.ref pt]))):=Kp.set (s36 _ _ hv)
  refine⟨vs++[V.ref pt],rows++[(x,lo - 6,lo - 6+z)],_,_,rfl,z6m (sc.trans s36) hpi,z01,?_,by rw [List.length_append,List.length_singleton,hl],?_,?_⟩
  ·rw [List.map_append]
   exact(dv.kp (s36.kp.trans k8)).append (.cons (dt.kp k8) .nil)
  ·rw [List.map_append,hnm,et]; rfl
  ·intro r hr'
   rcases List.mem_append.mp hr' with hr' | hr'
   ·exact hlo r hr'
   ·have er:r=(x,lo - 6,lo - 6+z):=by simpa using hr'
    subst er
    show -6<=lo - 6/\lo - 6<=lo - 6+z/\lo - 6+z<=8
    omega
 case done=>
  rintro σ Hc ⟨vs,rows,x3,x4,rfl,sc,hv,dv,hl,hnm,hlo⟩
  walk_at "rd"
  have hvl:vs.length=i.toNat:=by rw [dv.length,List.length_map,hl]
  refine⟨vs,.inl ⟨SqL.of hv,fun pb hpb=>?_⟩⟩
  have sa:=z04 hpb (HO.tup vs)
  have dti:Dt _ (.ref pb) (.tup (rows.map rowEnc)):=.tup z01 (dv.kp sa.kp)
  have hv2:=sa _ _ hv
  have dvU:=dv.kp sa.kp
  generalize upd Hc pb (HO.tup vs)=U at sa dti hv2 dvU |-
  refine⟨⟨_,SqL.of hv2⟩,?_⟩
  refine zfd (K:=K) (a:=pi) (xs:=vs) (q5t U rows) ⟨rfl,⟨none,rfl⟩,rfl⟩ (by rw [hvl]; exact z3e (by omega)) ?_ ?_ ?_ ?_
  ·rintro i ys σ' H' ⟨_,_,rfl⟩
   rw [List.length_map,List.length_take]
   omega
  ·rintro i ys σ' H' _ ⟨rfl,_,_⟩
   exact SqL.of hv2
  ·rintro i' ys v σ' H' hxi ⟨rfl,⟨t,rfl⟩,rfl⟩
   obtain⟨d,hd,dd⟩:=dvU.get hxi
   rw [List.getElem?_map] at hd
   cases hr':rows[i']? with
   | none=>rw [hr'] at hd; cases hd
   | some r=>
    rw [hr'] at hd
    have ed:rowEnc r=d:=by simpa using hd
    subst ed
    obtain⟨pa,xs,rfl,hpa,da⟩:=dd.tupI
    rcases da with _ | ⟨d1,_ | ⟨d3,_ | ⟨d5,_ | _⟩⟩⟩
    ·cases d1
     walk_at "rd"
     refine⟨_,SqT.of hpa,_,rfl,rfl,⟨_,rfl⟩,?_⟩
     rw [List.take_add_one,hr',List.map_append]
     rfl
  ·rintro ys σ' H' ⟨rfl,_,rfl⟩ pc hpc
   rw [show vs.length=rows.length by rw [hvl,hl],List.take_length]
   have sb:=z04 hpc (HO.lst (rows.map fun r=>V.str r.1))
   have hsub:Sub (rows.map (·.1)) pool:=by
    rw [hnm]
    intro y hy
    have:=List.mem_of_mem_take hy
    simp only[pair,List.mem_cons,List.not_mem_nil,or_false] at this
    rcases this with rfl | rfl<;>decide+kernel
   refine⟨a,ns,k+9,pc,rows.map (·.1),3,rfl,(sc.trans (sa.trans sb)).seq hS,by omega,?_,hsub,by decide,by decide,by decide,by rw [List.length_map]; omega,fun r rb rk H5 b g' s5 hr' db hkk ob lb nb kn sp gl kf=>?_⟩
   ·rw [z01,List.map_map]; rfl
   ·refine⟨_,rfl,_,SqT.of hr',_,rfl,zl 2 (by decide),fun pr hpr=>?_⟩
    have sc2:=z04 hpr (HO.tup [V.ref pb,V.ref rb])
    exact q pr pb rb _ rows b g' (sc.trans (sa.trans (sb.trans (s5.trans sc2)))) z01 (dti.kp (sb.trans (s5.trans sc2)).kp) (db.kp sc2.kp) ⟨by omega,by rw [hnm,hl],hlo⟩ ob lb nb kn
end
section
variable{P:Program}{w:World}{K:PySem.W.Frag}{mg:Str->Option Value}{base:Heap}{f:Addr}{fd:FuncData}
def tyD:Dm->String
 | .non=>"NoneType" | .bl _=>"bool" | .int _=>"int" | .str _=>"str" | .tup _=>"tuple" | .lst=>"list"
theorem q45{H:Hp}{v:V}{d:Dm}(h:Dt H v d):TyOf K H v (.type (tyD d)):=by
 cases h with
 | non=>exact .non
 | bl b=>exact .bl b
 | int i=>exact .int i
 | str x=>exact .str x
 | tup e _=>exact .tup e
 | lst e=>exact .lst e
def isT:Dm->Bool
 | .tup _=>true
 | _=>false
def isI:Dm->Bool
 | .int _=>true
 | .bl _=>true
 | _=>false
def isB:Dm->Bool
 | .bl _=>true
 | _=>false
theorem zsw{H:Hp}{v:V}{d:Dm}(h:Dt H v d):∃t,TyOf K H v t/\PySem.W.kitOne K t (.type "tuple")=some (isT d):=⟨_,q45 h,by cases d<;>rfl⟩
theorem zob{H:Hp}{v:V}{a b:Dm}(h:Dt H v (.tup [a,b])):∃p x y,v=.ref p/\H p=some (.tup [x,y])/\Dt H x a/\Dt H y b:=by
 obtain⟨p,xs,rfl,e,r⟩:=h.tupI
 rcases r with _ | ⟨r1,_ | ⟨r2,_ | _⟩⟩
 exact⟨p,_,_,rfl,e,r1,r2⟩
theorem ztb{H:Hp}{v:V}{a b c:Dm}(h:Dt H v (.tup [a,b,c])):∃p x y z,v=.ref p/\H p=some (.tup [x,y,z])/\Dt H x a/\Dt H y b/\Dt H z c:=by
 obtain⟨p,xs,rfl,e,r⟩:=h.tupI
 rcases r with _ | ⟨r1,_ | ⟨r2,_ | ⟨r3,_ | _⟩⟩⟩
 exact⟨p,_,_,_,rfl,e,r1,r2,r3⟩
theorem zy7{H:Hp}{v:V}{a b c d:Dm}(h:Dt H v (.tup [a,b,c,d])):∃p x y z u,v=.ref p/\H p=some (.tup [x,y,z,u])/\Dt H x a/\Dt H y b/\Dt H z c/\Dt H u d:=by
 obtain⟨p,xs,rfl,e,r⟩:=h.tupI
 rcases r with _ | ⟨r1,_ | ⟨r2,_ | ⟨r3,_ | ⟨r4,_ | _⟩⟩⟩⟩
 exact⟨p,_,_,_,_,rfl,e,r1,r2,r3,r4⟩
def eqS(d:Dm)(z:Str):Bool:=match d with
 | .str x=>decide (x=z)
 | _=>false
theorem zg6{H:Hp}{x:V}{d:Dm}{z:Str}(h:Dt H x d):q3w K x (.str z) H (eqS d z):=by
 cases h with
 | str y=>exact .inl ⟨rfl,by show decide (y=z)=decide (V.str y=V.str z); simp⟩
 | tup e _=>exact .inr (.inr ⟨_,_,rfl,rfl,.inr ⟨_,SqT.of e⟩,rfl⟩)
 | lst e=>exact .inr (.inr ⟨_,_,rfl,rfl,.inl ⟨_,SqL.of e⟩,rfl⟩)
 | non=>exact .inl ⟨rfl,by simp[eqS]⟩
 | bl b=>exact .inl ⟨rfl,by simp[eqS]⟩
 | int i=>exact .inl ⟨rfl,by simp[eqS]⟩
def D.term:D->T
 | .set _ t=>t
 | .ite t _ _=>t
 | .whl t _ _=>t
def zqb:Sp:=fun vs H Q _=>∃v e,vs=[v]/\Dt H v (D.enc e)/\∀x,Dt H x e.term.enc->Q x H
theorem zsk(F:Fun K "term_of" "term_of" z6r f fd):FnOk P w K mg base CX0 1 f fd ["deed"] zqb:=by
 refine F.ok zs1 (fun vs H Q E h=>?_) (fun cdv A outer s H vs Q E hr h=>?_)
 ·obtain⟨v,d,rfl,_⟩:=h
  rfl
 obtain⟨v,e,rfl,hd,q⟩:=h
 refine⟨_,(z03 (z2g (z0f (gEq hr.units) (z0z z0p (z00 (i:=0) rfl z6z z2u z2w) z02 (fun _ _=>rfl)) z0i (z0m _)) (z07 (z0h (z0z z0p (z00 (i:=0) rfl z6z z2u z2w) z02 (fun _ _=>rfl)))) z0l)
 (z07 (z0h (z0z z0p (z00 (i:=0) rfl z6z z2u z2w) z02 (fun _ _=>rfl))))),?_⟩
 walk_at "rd"
 cases e with
 | set x t=>
  rw [D.enc] at hd
  obtain⟨p,x0,x1,x2,rfl,hp,t0,t1,t2⟩:=ztb hd
  refine⟨_,rfl,_,SqT.of hp,_,rfl,_,zg6 t0,?_⟩
  rw [if_pos (show eqS (.str "set") "set" = true from by decide+kernel)]
  exact⟨_,rfl,_,SqT.of hp,_,rfl,q _ t2⟩
 | ite t b c=>
  rw [D.enc] at hd
  obtain⟨p,x0,x1,x2,x3,rfl,hp,t0,t1,t2,t3⟩:=zy7 hd
  refine⟨_,rfl,_,SqT.of hp,_,rfl,_,zg6 t0,?_⟩
  rw [if_neg (show ¬ eqS (.str "if") "set" = true from by decide+kernel)]
  exact⟨_,rfl,_,SqT.of hp,_,rfl,q _ t1⟩
 | whl t m b=>
  rw [D.enc] at hd
  obtain⟨p,x0,x1,x2,x3,rfl,hp,t0,t1,t2,t3⟩:=zy7 hd
  refine⟨_,rfl,_,SqT.of hp,_,rfl,_,zg6 t0,?_⟩
  rw [if_neg (show ¬ eqS (.str "while") "set" = true from by decide+kernel)]
  exact⟨_,rfl,_,SqT.of hp,_,rfl,q _ t1⟩
def D.blocks:D->List (Int×List D)
 | .set _ _=>[]
 | .ite _ b c=>[(1,b),(2,c)]
 | .whl _ _ b=>[(1,b)]
def q3n(p:Int×List D):Dm:=.tup [.int p.1,.tup (encB p.2)]
def zfs:Sp:=fun vs H Q _=>∃v e,vs=[v]/\Dt H v (D.enc e)/\∀(r:Addr) (H':Hp) (xs:List V),Same H H'->H r=none->H' r=some (.lst xs)->DtA H' xs (e.blocks.map q3n)->Q (.ref r) H'
theorem zmr(F:Fun K "blocks_of" "blocks_of" z58 f fd):FnOk P w K mg base CX0 1 f fd ["deed"] zfs:=by
 refine F.ok zme (fun vs H Q E h=>?_) (fun cdv A outer s H vs Q E hr h=>?_)
 ·obtain⟨v,d,rfl,_⟩:=h
  rfl
 obtain⟨v,e,rfl,hd,q⟩:=h
 refine⟨_,(z03 (z2g (z0f (gEq hr.units) (z0z z0p (z00 (i:=0) rfl z3n z2u z2w) z02 (fun _ _=>rfl)) z0i (z0m _)) (z07 (z0h (z46 (z06 (z11 (z06 z02 (z06 (z0z z0p (z00 (i:=0) rfl z3n z2u z2w) z02 (fun _ _=>rfl)) pa_nil))) (z06 (z11 (z06 z02 (z06 (z0z z0p (z00 (i:=0) rfl z3n z2u z2w) z02 (fun _ _=>rfl)) pa_nil))) pa_nil))))) z0l)
 (z03 (z2g (z0f (gEq hr.units) (z0z z0p (z00 (i:=0) rfl z3n z2u z2w) z02 (fun _ _=>rfl)) z0i (z0m _)) (z07 (z0h (z46 (z06 (z11 (z06 z02 (z06 (z0z z0p (z00 (i:=0) rfl z3n z2u z2w) z02 (fun _ _=>rfl)) pa_nil))) pa_nil)))) z0l)
 (z07 (z0h (z46 pa_nil))))),?_⟩
 walk_at "rd"
 cases e with
 | set x t=>
  rw [D.enc] at hd
  obtain⟨p,x0,x1,x2,rfl,hp,t0,t1,t2⟩:=ztb hd
  refine⟨_,rfl,_,SqT.of hp,_,rfl,_,zg6 t0,?_⟩
  rw [if_neg (show ¬ eqS (.str "set") "if" = true from by decide+kernel)]
  refine⟨_,rfl,_,SqT.of hp,_,rfl,_,zg6 t0,?_⟩
  rw [if_neg (show ¬ eqS (.str "set") "while" = true from by decide+kernel)]
  exact⟨Nat.zero_le _,fun r hr'=>q r _ [] (z04 hr' _) hr' z01 .nil⟩
 | ite t b c=>
  rw [D.enc] at hd
  obtain⟨p,x0,x1,x2,x3,rfl,hp,t0,t1,t2,t3⟩:=zy7 hd
  refine⟨_,rfl,_,SqT.of hp,_,rfl,_,zg6 t0,?_⟩
  rw [if_pos (show eqS (.str "if") "if" = true from by decide+kernel)]
  refine⟨_,rfl,_,SqT.of hp,_,rfl,zl 2 (by decide),fun p1 h1=>?_⟩
  have s1:=z04 h1 (HO.tup [V.int 1,x2])
  refine⟨_,rfl,_,SqT.of (s1 _ _ hp),_,rfl,zl 2 (by decide),fun p2 h2=>⟨zl 2 (by decide),fun r hr'=>?_⟩⟩
  have s2:=z04 h2 (HO.tup [V.int 2,x3])
  have s3:=z04 hr' (HO.lst [V.ref p1,V.ref p2])
  refine q r _ _ (s1.trans (s2.trans s3)) ((s1.trans s2).free hr') z01 (.cons (.tup (s3 _ _ (s2 _ _ z01)) (.cons (.int 1) (.cons (t2.kp (s1.trans (s2.trans s3)).kp) .nil))) (.cons (.tup (s3 _ _ z01) (.cons (.int 2) (.cons (t3.kp (s1.trans (s2.trans s3)).kp) .nil))) .nil))
 | whl t m b=>
  rw [D.enc] at hd
  obtain⟨p,x0,x1,x2,x3,rfl,hp,t0,t1,t2,t3⟩:=zy7 hd
  refine⟨_,rfl,_,SqT.of hp,_,rfl,_,zg6 t0,?_⟩
  rw [if_neg (show ¬ eqS (.str "while") "if" = true from by decide+kernel)]
  refine⟨_,rfl,_,SqT.of hp,_,rfl,_,zg6 t0,?_⟩
  rw [if_pos (show eqS (.str "while") "while" = true from by decide+kernel)]
  refine⟨_,rfl,_,SqT.of hp,_,rfl,zl 2 (by decide),fun p1 h1=>⟨zl 1 (by decide),fun r hr'=>?_⟩⟩
  have s1:=z04 h1 (HO.tup [V.int 1,x3])
  have s3:=z04 hr' (HO.lst [V.ref p1])
  exact q r _ _ (s1.trans s3) (s1.free hr') z01 (.cons (.tup (s3 _ _ z01) (.cons (.int 1) (.cons (t3.kp (s1.trans s3).kp) .nil))) .nil)
def T.deep:T->Nat
 | .op _ a b=>max a.deep b.deep+1
 | _=>1
theorem Wd.ne(w:Wd):eqS (.str w.str) "num" = false/\eqS (.str w.str) "name" = false:=by cases w<;>decide+kernel
abbrev RT:=List Int×T
abbrev RD:=List Int×D
def q21(r:RT):Dm:=q1g (r.1,r.2.enc)
def zzi(r:RD):Dm:=q1g (r.1,r.2.enc)
def z8b(p:List Int):T->List RT
 | .num i=>[(p,.num i)]
 | .nm x=>[(p,.nm x)]
 | .op w a b=>(p,.op w a b)::(z8b (p++[0]) a++z8b (p++[1]) b)
mutual
def zgk(p:List Int):D->List RD
 | .set x t=>[(p,.set x t)]
 | .ite t b c=>(p,.ite t b c)::(z27 (p++[1]) 0 b++z27 (p++[2]) 0 c)
 | .whl t m b=>(p,.whl t m b)::z27 (p++[1]) 0 b
def z27(p:List Int)(k:Int):List D->List RD
 | []=>[]
 | d::r=>zgk (p++[k]) d++z27 p (k+1) r
end
def z97(p:List Int):List (Int×List D)->List RD
 | []=>[]
 | q::r=>z27 (p++[q.1]) 0 q.2++z97 p r
theorem znf(p:List Int)(d:D):zgk p d=(p,d)::z97 p d.blocks:=by
 cases d<;>simp[zgk,z97,D.blocks]
theorem zgj(p:List Int):∀(a b:List (Int×List D)),z97 p (a++b)=z97 p a++z97 p b
 | [],b=>by simp[z97]
 | q::a,b=>by rw [List.cons_append,z97,z97,zgj p a b,List.append_assoc]
theorem zf9(p:List Int):∀(k:Int) (a b:List D),z27 p k (a++b)=z27 p k a++z27 p (k+a.length) b
 | k,[],b=>by simp[z27]
 | k,d::a,b=>by
  rw [List.cons_append,z27,z27,zf9 p (k+1) a b,List.append_assoc,List.length_cons]
  congr 3
  omega
theorem zpx(p:List Int)(a:List D)(d:D):z27 p 0 (a++[d])=z27 p 0 a++zgk (p++[(a.length:Int)]) d:=by
 rw [zf9,z27,z27,List.append_nil,Int.zero_add]
theorem z6p{α : Type}{l:List α}{i:Nat}{x : α}(h:l[i]?=some x):l.take (i+1)=l.take i++[x]:=by
 rw [List.take_add_one,h]; rfl
def bnd:Nat->Nat
 | 0=>0
 | n+1=>6 * (1+2 * bnd n)
theorem zk7{n:Nat}(ih:∀(b:List D) (p:List Int) (k:Int),okB n b->(z27 p k b).length<=bnd n):∀(b:List D) (p:List Int) (k:Int),(∀d∈b,okD n d)->(z27 p k b).length<=b.length * (1+2 * bnd n)
 | [],p,k,_=>by simp[z27]
 | d::b,p,k,h=>by
  have h2:=zk7 ih b p (k+1) fun e he=>h e (.tail _ he)
  have h1:(zgk (p++[k]) d).length<=1+2 * bnd n:=by
   have hd:=h d (.head _)
   cases d with
   | set x t=>simp[zgk]
   | ite t b c=>
    have a1:=ih b (p++[k]++[1]) 0 hd.2.1
    have a2:=ih c (p++[k]++[2]) 0 hd.2.2
    rw [zgk,List.length_cons,List.length_append]
    omega
   | whl t m b=>
    have a1:=ih b (p++[k]++[1]) 0 hd.2.2.2
    rw [zgk,List.length_cons]
    omega
  rw [z27,List.length_append,List.length_cons,Nat.succ_mul]
  omega
theorem za3:∀(n:Nat) (b:List D) (p:List Int) (k:Int),okB n b->(z27 p k b).length<=bnd n
 | 0,_,_,_,h=>h.elim
 | n+1,b,p,k,h=>by
  refine Nat.le_trans (zk7 (za3 n) b p k fun d hd=>h.2 d hd) ?_
  exact Nat.mul_le_mul_right _ h.1
theorem zrm{n:Nat}(h:n<=3):bnd n<=942:=by
 match n,h with
 | 0,_=>decide
 | 1,_=>decide
 | 2,_=>decide
 | 3,_=>decide
theorem zyy{H:Hp}:∀p:List Int,DtA H (p.map V.int) (p.map Dm.int)
 | []=>.nil
 | i::p=>.cons (.int i) (zyy p)
theorem zrl{K:PySem.W.Frag}{H:Hp}{Q:VK}{x y:V}{p q:List Int}(dx:Dt H x (pathD p))(dy:Dt H y (pathD q))(hz:p.length+q.length<=1000)(h:∀z H',Same H H'->Dt H' z (pathD (p++q))->Q z H'):zqk K x y H Q:=by
 obtain⟨a,xs,rfl,ha,da⟩:=dx.tupI
 obtain⟨b,ys,rfl,hb,db⟩:=dy.tupI
 have ea:=zcv da
 have eb:=zcv db
 subst ea eb
 refine⟨a,b,_,_,rfl,rfl,SqT.of ha,SqT.of hb,?_,fun e=>?_,fun _ e=>?_,fun _ _ r hr=>?_⟩
 ·rw [List.length_map,List.length_map]
  exact Nat.le_of_lt (z3e hz)
 ·have:p=[]:=by simpa using e
  subst this
  exact h _ _ (Same.refl _) dy
 ·have:q=[]:=by simpa using e
  subst this
  rw [List.append_nil] at h
  exact h _ _ (Same.refl _) dx
 ·refine h _ _ (z04 hr _) (.tup z01 ?_)
  rw [<- List.map_append]
  exact zyy _
theorem zem{H:Hp}{r:Addr}{i:Int}:Dt (upd H r (.tup [.int i])) (.ref r) (pathD [i]):=.tup z01 (.cons (.int i) .nil)
theorem zr7:∀(b:List D) (i:Nat),(encB b)[i]?=(b[i]?).map D.enc
 | [],i=>by simp[encB]
 | d::b,0=>by simp[encB]
 | d::b,i+1=>by simp[encB,zr7 b i]
theorem zvp{H:Hp}{xs:List V}{b:List D}{i:Nat}{x:V}(h:DtA H xs (encB b))(hx:xs[i]?=some x):∃d,b[i]?=some d/\Dt H x d.enc:=by
 obtain⟨e,he,de⟩:=h.get hx
 rw [zr7] at he
 cases hb:b[i]? with
 | none=>rw [hb] at he; cases he
 | some d=>
  rw [hb] at he
  have:d.enc=e:=by simpa using he
  subst this
  exact⟨d,rfl,de⟩
theorem zb7{α : Type}{f : α->Dm}{H:Hp}{xs:List V}{b:List α}{i:Nat}{x:V}(h:DtA H xs (b.map f))(hx:xs[i]?=some x):∃d,b[i]?=some d/\Dt H x (f d):=by
 obtain⟨e,he,de⟩:=h.get hx
 rw [List.getElem?_map] at he
 cases hb:b[i]? with
 | none=>rw [hb] at he; cases he
 | some d=>
  rw [hb] at he
  have:f d=e:=by simpa using he
  subst this
  exact⟨d,rfl,de⟩
def q5y(H:Hp)(ab:Addr)(pv:V)(p:List Int)(b:List D)(pr:Addr)(i:Nat)(σ : St)(Hc:Hp):Prop:=∃(vs:List V) (x3 x4 x5 x6 x7:Option V),σ = [some (.ref ab),some pv,some (.ref pr),x3,x4,x5,x6,x7]/\Same H Hc/\Hc pr=some (.lst vs)/\DtA Hc vs ((z27 p 0 (b.take i)).map zzi)
def q4l(H H1:Hp)(rb:Addr)(bs:List V)(ab:Addr)(pv:V)(p:List Int)(b:List D)(pr:Addr)(i:Nat)(d:D)(dv qv:V)(j:Nat)(σ : St)(Hc:Hp):Prop:=∃(vs:List V) (x3 x6 x7:Option V),σ = [some (.ref ab),some pv,some (.ref pr),x3,some dv,some qv,x6,x7]/\Same H Hc/\Hc pr=some (.lst vs)/\DtA Hc vs ((z27 p 0 (b.take i)++(p++[(i:Int)],d)::z97 (p++[(i:Int)]) (d.blocks.take j)).map zzi)/\Kp H1 Hc/\Hc rb=some (.lst bs)
theorem zhq:∀(t:T) (p:List Int),(z8b p t).length < 2 ^ t.deep
 | .num i,p=>by simp[z8b,T.deep]
 | .nm x,p=>by simp[z8b,T.deep]
 | .op w a b,p=>by
  have h1:=zhq a (p++[0])
  have h2:=zhq b (p++[1])
  have g1:2 ^ a.deep<=2 ^ max a.deep b.deep:=Nat.pow_le_pow_right (by decide) (by omega)
  have g2:2 ^ b.deep<=2 ^ max a.deep b.deep:=Nat.pow_le_pow_right (by decide) (by omega)
  rw [z8b,T.deep,List.length_cons,List.length_append,Nat.pow_succ]
  omega
theorem zaf{t:T}{p:List Int}{n:Nat}(h:t.deep<=n)(hn:n<=6):(z8b p t).length<=64:=by
 have h1:=zhq t p
 have h2:2 ^ t.deep<=2 ^ 6:=Nat.pow_le_pow_right (by decide) (by omega)
 omega
theorem zxv{p:List Int}{b:List D}{i:Nat}{d:D}(h:b[i]?=some d):z27 p 0 (b.take (i+1))=z27 p 0 (b.take i)++(p++[(i:Int)],d)::z97 (p++[(i:Int)]) d.blocks:=by
 have hl:i < b.length:=(List.getElem?_eq_some_iff.mp h).1
 have e:(b.take i).length=i:=by rw [List.length_take]; omega
 rw [z6p h,zpx,znf,e]
theorem zit{n:Nat}{b:List D}(h:okB (n+1) b){i:Nat}(p:List Int):(z27 p 0 (b.take i)).length<=bnd (n+1):=by
 refine za3 (n+1) _ p 0 ⟨?_,fun d hd=>h.2 d (List.mem_of_mem_take hd)⟩
 rw [List.length_take]
 have:=h.1
 omega
theorem zj1{n:Nat}{d:D}{nb:Int×List D}(h:okD n d)(hm:nb∈d.blocks):okB n nb.2:=by
 cases d with
 | set x t=>simp[D.blocks] at hm
 | ite t b c=>
  simp only[D.blocks,List.mem_cons,List.not_mem_nil,or_false] at hm
  rcases hm with rfl | rfl
  ·exact h.2.1
  ·exact h.2.2
 | whl t m b=>
  simp only[D.blocks,List.mem_cons,List.not_mem_nil,or_false] at hm
  subst hm
  exact h.2.2.2
theorem zr2{n:Nat}(p:List Int):∀(l:List (Int×List D)),(∀q∈l,okB n q.2)->(z97 p l).length<=l.length * bnd n
 | [],_=>by simp[z97]
 | q::l,h=>by
  have h1:=za3 n q.2 (p++[q.1]) 0 (h q (.head _))
  have h2:=zr2 p l fun r hr=>h r (.tail _ hr)
  rw [z97,List.length_append,List.length_cons,Nat.succ_mul]
  omega
theorem zt8(d:D):d.blocks.length<=2:=by cases d<;>simp[D.blocks]
theorem zz{n:Nat}(h:n<=10000):n<=sizeLine:=Nat.le_trans h (by decide)
theorem zx4{n:Nat}{d:D}(h:okD n d)(hn:n+1<=3)(p:List Int)(l:List (Int×List D))(hl:∀q∈l,q∈d.blocks)(h2:l.length<=2):(z97 p l).length<=1884:=by
 have h1:=zr2 (n:=n) p l fun q hq=>zj1 h (hl q hq)
 have h3:=zrm (n:=n) (by omega)
 have:l.length * bnd n<=2 * 942:=Nat.mul_le_mul h2 h3
 omega
theorem zi5{g:List Str}:∀{n:Nat} {t:T},T.ok g n t->t.deep<=n
 | 0,_,h=>h.elim
 | n+1,.num i,_=>by simp[T.deep]
 | n+1,.nm x,_=>by simp[T.deep]
 | n+1,.op w a b,h=>by
  have h1:=zi5 h.1
  have h2:=zi5 h.2
  simp only[T.deep]
  omega
theorem zx9{n:Nat}{d:D}(h:okD n d):T.ok pool 5 d.term:=by
 cases d with
 | set x t=>exact h.2
 | ite t b c=>exact h.1
 | whl t m b=>exact h.1
theorem zmg{n:Nat}(ih:∀(b:List D) (p:List Int) (k:Int),okB n b->∀r∈z27 p k b,r.1.length<=p.length+2 * n/\T.ok pool 5 r.2.term):∀(b:List D) (p:List Int) (k:Int),(∀d∈b,okD n d)->∀r∈z27 p k b,r.1.length<=p.length+2 * (n+1)/\T.ok pool 5 r.2.term
 | [],p,k,_,r,hr=>by simp[z27] at hr
 | d::b,p,k,h,r,hr=>by
  rw [z27,List.mem_append] at hr
  rcases hr with hr | hr
  ·have hd:=h d (.head _)
   rw [znf,List.mem_cons] at hr
   rcases hr with rfl | hr
   ·exact⟨by simp; omega,zx9 hd⟩
   ·have key:∀l:List (Int×List D),(∀q∈l,q∈d.blocks)->r∈z97 (p++[k]) l->r.1.length<=p.length+2 * (n+1)/\T.ok pool 5 r.2.term:=by
     intro l
     induction l with
     | nil=>intro _ hr; simp[z97] at hr
     | cons q l ihl=>
      intro hl hr
      rw [z97,List.mem_append] at hr
      rcases hr with hr | hr
      ·have:=ih q.2 (p++[k]++[q.1]) 0 (zj1 hd (hl q (.head _))) r hr
       exact⟨by have:=this.1; simp at this; omega,this.2⟩
      ·exact ihl (fun z hz=>hl z (.tail _ hz)) hr
    exact key d.blocks (fun _ z=>z) hr
  ·exact zmg ih b p (k+1) (fun e he=>h e (.tail _ he)) r hr
theorem zg7:∀(n:Nat) (b:List D) (p:List Int) (k:Int),okB n b->∀r∈z27 p k b,r.1.length<=p.length+2 * n/\T.ok pool 5 r.2.term
 | 0,_,_,_,h=>h.elim
 | n+1,b,p,k,h=>zmg (zg7 n) b p k h.2
def z6q:List RD->List RT
 | []=>[]
 | r::l=>z8b (r.1++[0]) r.2.term++z6q l
theorem zeg:∀(a b:List RD),z6q (a++b)=z6q a++z6q b
 | [],b=>by simp[z6q]
 | r::a,b=>by rw [List.cons_append,z6q,z6q,zeg a b,List.append_assoc]
theorem zfp:∀(l:List RD),(∀r∈l,T.ok pool 5 r.2.term)->(z6q l).length<=l.length * 64
 | [],_=>by simp[z6q]
 | r::l,h=>by
  have h1:=zaf (p:=r.1++[0]) (zi5 (h r (.head _))) (by decide:5<=6)
  have h2:=zfp l fun z hz=>h z (.tail _ hz)
  rw [z6q,List.length_append,List.length_cons,Nat.succ_mul]
  omega
theorem zz5{n:Nat}(h:n<=200000):n<=sizeLine:=Nat.le_trans h (by decide)
def zf8(b:List D):List RD:=z27 [] 0 b
def zgc(b:List D):List RT:=z6q (zf8 b)
def q5s(H:Hp)(v:V)(ds:List RD)(ra:Addr)(us:List V)(pr:Addr)(i:Nat)(σ : St)(Hc:Hp):Prop:=∃(vs:List V) (x2 x3:Option V),σ = [some v,some (.ref pr),x2,x3]/\Same H Hc/\Hc pr=some (.lst vs)/\DtA Hc vs ((z6q (ds.take i)).map q21)/\Hc ra=some (.lst us)/\DtA Hc us (ds.map zzi)
end
section
variable{P:Program}{w:World}{K:PySem.W.Frag}{mg:Str->Option Value}{base:Heap}{f:Addr}{fd:FuncData}
def okW:Nat->List D->Prop
 | 0,_=>False
 | n+1,b=>b.length<=7/\∀d∈b,match d with
  | .set x t=>x∈pool/\t.ok pool 5
  | .ite t b c=>t.ok pool 5/\okW n b/\okW n c
  | .whl t m b=>t.ok pool 5/\okW n b
abbrev q4w(n:Nat)(d:D):Prop:=match d with
 | .set x t=>x∈pool/\t.ok pool 5
 | .ite t b c=>t.ok pool 5/\okW n b/\okW n c
 | .whl t m b=>t.ok pool 5/\okW n b
theorem zmw:∀{n:Nat} {b:List D},okB n b->okW n b
 | 0,_,h=>h.elim
 | n+1,b,h=>⟨Nat.le_trans h.1 (by decide),fun d hd=>by
  have:=h.2 d hd
  cases d with
  | set x t=>exact this
  | ite t b c=>exact⟨this.1,zmw this.2.1,zmw this.2.2⟩
  | whl t m b=>exact⟨this.1,zmw this.2.2.2⟩⟩
theorem zmv:∀{n:Nat} {b:List D},okW n b->okW (n+1) b
 | 0,_,h=>h.elim
 | n+1,b,h=>⟨h.1,fun d hd=>by
  have:=h.2 d hd
  cases d with
  | set x t=>exact this
  | ite t b c=>exact⟨this.1,zmv this.2.1,zmv this.2.2⟩
  | whl t m b=>exact⟨this.1,zmv this.2⟩⟩
def D.kind:D->Str
 | .set _ _=>"set"
 | .ite _ _ _=>"if"
 | .whl _ _ _=>"while"
end
section
variable{P:Program}{w:World}{K:PySem.W.Frag}{mg:Str->Option Value}{base:Heap}{f:Addr}{fd:FuncData}
def Fine(n:Nat)(d:Dm):Prop:=d.shut=true/\d.dat.canLay0=true/\d.dat.depth<=n
theorem Fine.mono{n m:Nat}{d:Dm}(h:Fine n d)(k:n<=m):Fine m d:=⟨h.1,h.2.1,Nat.le_trans h.2.2 k⟩
theorem q0o{n:Nat}:∀{ds:List Dm},(∀d∈ds,Fine n d)->zhw ds=true/\PyData.canLayAll0 (zh6 ds)=true/\PyData.depthAll (zh6 ds)<=n
 | [],_=>⟨by simp[zhw],by simp[zh6,PyData.canLayAll0],by simp[zh6,PyData.depthAll]⟩
 | d::ds,h=>by
  obtain⟨a,b,c⟩:=q0o (ds:=ds) fun e he=>h e (.tail _ he)
  obtain⟨x,y,z⟩:=h d (.head _)
  refine⟨by simp[zhw,x,a],by simp[zh6,PyData.canLayAll0,y,b],?_⟩
  simp only[zh6,PyData.depthAll]
  omega
theorem zf6{n:Nat}{ds:List Dm}(h:∀d∈ds,Fine n d):Fine (n+1) (.tup ds):=by
 obtain⟨a,b,c⟩:=q0o h
 exact⟨by simpa [Dm.shut] using a,by simpa [Dm.dat,PyData.canLay0] using b,by simp only[Dm.dat,PyData.depth]; omega⟩
theorem zlm(n:Nat)(i:Int):Fine n (.int i):=⟨by simp[Dm.shut],by simp[Dm.dat,PyData.canLay0],by simp[Dm.dat,PyData.depth]⟩
theorem zr3(n:Nat){x:Str}(h:PyData.strOk x=true):Fine n (.str x):=⟨by simpa [Dm.shut] using h,by simpa [Dm.dat,PyData.canLay0] using h,by simp[Dm.dat,PyData.depth]⟩
theorem Fine.eq{n:Nat}{d:Dm}(h:Fine n d)(k:n<=64):d.shut=true/\SeqAt.shaped d.dat=true:=⟨h.1,by
 unfold SeqAt.shaped
 rw [h.2.1,Bool.true_and,decide_eq_true_eq]
 exact Nat.le_trans h.2.2 k⟩
theorem z3r(p:List Int):Fine 1 (pathD p):=zf6 fun d hd=>by
 obtain⟨i,_,rfl⟩:=List.mem_map.mp hd
 exact zlm _ _
theorem zf7{d:PyData}(h:d.canLay0=true):PyData.eqv d d=true:=SeqAt.eqv_refl d h
theorem zl6:∀(l m:List Str),l.Nodup->(∀x∈l,x∈m)->l.length<=m.length
 | [],m,_,_=>by simp
 | x::l,m,h,hs=>by
  rw [List.nodup_cons] at h
  have hx:=hs x (.head _)
  have ih:=zl6 l (m.erase x) h.2 fun y hy=>by
   have hne:y≠x:=fun e=>h.1 (e ▸ hy)
   exact(List.mem_erase_of_ne hne).mpr (hs y (.tail _ hy))
  have e:=List.length_erase_of_mem hx
  have hp:=List.length_pos_of_mem hx
  rw [List.length_cons]
  omega
end
section
variable{P:Program}{w:World}{K:PySem.W.Frag}{mg:Str->Option Value}{base:Heap}{f:Addr}{fd:FuncData}
theorem za2(l:List (List Int)):zhw (l.map pathD)=true/\SeqAt.shaped (.list (zh6 (l.map pathD)))=true/\PyData.canLay0 (.list (zh6 (l.map pathD)))=true:=by
 obtain⟨a,b,c⟩:=q0o (ds:=l.map pathD) (n:=1) fun d hd=>by
  obtain⟨p,_,rfl⟩:=List.mem_map.mp hd
  exact z3r p
 have h:PyData.canLay0 (.list (zh6 (l.map pathD)))=true:=by simpa [PyData.canLay0] using b
 refine⟨a,?_,h⟩
 unfold SeqAt.shaped
 rw [h,Bool.true_and,decide_eq_true_eq]
 simp only[PyData.depth]
 omega
end
section
variable{P:Program}{w:World}{K:PySem.W.Frag}{mg:Str->Option Value}{base:Heap}{f:Addr}{fd:FuncData}
theorem ztp{n:Nat}{b:List D}{p:List Int}{k:Int}(h:okB n b)(hn:n<=3):(z6q (z27 p k b)).length<=942 * 64:=by
 have h1:=zfp (z27 p k b) fun r hr=>(zg7 n b p k h r hr).2
 have h2:=za3 n b p k h
 have h3:=zrm hn
 have h4:(z27 p k b).length * 64<=942 * 64:=Nat.mul_le_mul_right _ (by omega)
 omega
end
section
variable{P:Program}{w:World}{K:PySem.W.Frag}{mg:Str->Option Value}{base:Heap}{f:Addr}{fd:FuncData}
def T.word:T->Str
 | .num _=>"num"
 | .nm _=>"name"
 | .op w _ _=>w.str
def ten:List Str:=["num","name","add","sub","mul","quo","less","same","min","max"]
abbrev Cnt:=List (Str×Int)
def kvC(c:Cnt):List (Key×V):=c.map fun p=>((Sum.inr p.1:Key),V.int p.2)
def zgi(c:Cnt)(x:Str):Option Int:=(c.find? fun p=>decide (p.1=x)).map (·.2)
def zkv(c:Cnt)(x:Str)(i:Int):Cnt:=if(c.any fun p=>decide (p.1=x))=true then c.map (fun p=>if p.1=x then(p.1,i) else p) else c++[(x,i)]
def q3t(c:Cnt)(x:Str):Cnt:=zkv c x ((zgi c x).getD 0+1)
theorem inr_eq{x y:Str}:((Sum.inr x:Key)=Sum.inr y)↔x=y:=⟨fun h=>by injection h,fun h=>by rw [h]⟩
theorem zy5(x:Str):∀c:Cnt,zoa (kvC c) (Sum.inr x)=(zgi c x).map V.int
 | []=>rfl
 | p::c=>by
  have ih:=zy5 x c
  unfold zoa kvC zgi at ih |-
  rw [List.map_cons,List.find?_cons,List.find?_cons]
  by_cases e:p.1=x
  ·simp[e]
  ·have e':¬ (Sum.inr p.1:Key)=Sum.inr x:=fun z=>e (inr_eq.mp z)
   simp only[e,e',decide_false]
   exact ih
theorem q3r(x:Str)(c:Cnt):((kvC c).any fun kv=>decide (kv.1=Sum.inr x))=c.any fun p=>decide (p.1=x):=by
 unfold kvC
 rw [List.any_map]
 congr 1
 funext p
 show decide ((Sum.inr p.1:Key)=Sum.inr x)=decide (p.1=x)
 by_cases e:p.1=x
 ·rw [decide_eq_true e,decide_eq_true (inr_eq.mpr e)]
 ·rw [decide_eq_false e,decide_eq_false fun z=>e (inr_eq.mp z)]
theorem zu3(x:Str)(i:Int)(c:Cnt):zp3 (kvC c) (Sum.inr x) (V.int i)=kvC (zkv c x i):=by
 unfold zp3 zkv
 rw [q3r]
 split
 ·unfold kvC
  rw [List.map_map,List.map_map]
  refine List.map_congr_left fun p _=>?_
  show(if(Sum.inr p.1:Key)=Sum.inr x then _ else _)=_
  by_cases e:p.1=x
  ·simp[e]
  ·simp[e]
 ·simp[kvC]
def sumC(c:Cnt):Int:=(c.map (·.2)).sum
theorem zha(c:Cnt)(x:Str)(i:Int):(zkv c x i).map (·.1)=if x∈c.map (·.1) then c.map (·.1) else c.map (·.1)++[x]:=by
 unfold zkv
 have hany:(c.any fun p=>decide (p.1=x))=true↔x∈c.map (·.1):=by
  rw [List.any_eq_true,List.mem_map]
  constructor
  ·rintro⟨p,hp,e⟩; exact⟨p,hp,of_decide_eq_true e⟩
  ·rintro⟨p,hp,e⟩; exact⟨p,hp,decide_eq_true e⟩
 by_cases h:x∈c.map (·.1)
 ·rw [if_pos (hany.mpr h),if_pos h,List.map_map]
  refine List.map_congr_left fun p _=>?_
  show(if p.1=x then(p.1,i) else p).1=p.1
  split<;>rfl
 ·rw [if_neg fun z=>h (hany.mp z),if_neg h,List.map_append]
  rfl
theorem zzs(i:Int)(x:Str):∀c:Cnt,(c.map (·.1)).Nodup->sumC (zkv c x i)=sumC c - (zgi c x).getD 0+i:=by
 have upd_:∀c:Cnt,(c.map (·.1)).Nodup->(∀v,zgi c x=some v->sumC (c.map fun p=>if p.1=x then(p.1,i) else p)=sumC c - v+i)/\(zgi c x=none->(c.map fun p=>if p.1=x then(p.1,i) else p)=c/\(c.any fun p=>decide (p.1=x))=false)/\(∀v,zgi c x=some v->(c.any fun p=>decide (p.1=x))=true):=by
  intro c
  induction c with
  | nil=>intro _; exact⟨fun v h=>(by cases h),fun _=>⟨rfl,rfl⟩,fun v h=>(by cases h)⟩
  | cons p c ih=>
   intro hn
   rw [List.map_cons,List.nodup_cons] at hn
   obtain⟨i1,i2,i3⟩:=ih hn.2
   by_cases e:p.1=x
   ·have hno:zgi c x=none:=by
     unfold zgi
     cases hf:c.find? fun p=>decide (p.1=x) with
     | none=>rfl
     | some q=>
      have h1:=List.mem_of_find?_eq_some hf
      have h2:=of_decide_eq_true (List.find?_some (p:=fun p:Str×Int=>decide (p.1=x)) hf)
      exact absurd (List.mem_map.mpr ⟨q,h1,h2.trans e.symm⟩) hn.1
    have hg:zgi (p::c) x=some p.2:=by unfold zgi; rw [List.find?_cons]; simp[e]
    refine⟨fun v h=>?_,fun h=>(by rw [hg] at h; cases h),fun v h=>(by simp[e])⟩
    rw [hg] at h
    have:p.2=v:=Option.some.inj h
    subst this
    rw [List.map_cons,if_pos e,(i2 hno).1]
    simp[sumC]
    omega
   ·have hg:zgi (p::c) x=zgi c x:=by unfold zgi; rw [List.find?_cons]; simp[e]
    rw [hg]
    refine⟨fun v h=>?_,fun h=>?_,fun v h=>?_⟩
    ·have:=i1 v h
     rw [List.map_cons,if_neg e]
     simp only[sumC,List.map_cons,List.sum_cons] at this |-
     omega
    ·obtain⟨j1,j2⟩:=i2 h
     exact⟨by rw [List.map_cons,if_neg e,j1],by rw [List.any_cons,j2]; simp[e]⟩
    ·rw [List.any_cons,i3 v h]; simp
 intro c hn
 obtain⟨h1,h2,h3⟩:=upd_ c hn
 unfold zkv
 cases hg:zgi c x with
 | none=>
  rw [if_neg (by rw [(h2 hg).2]; decide)]
  simp[sumC]
 | some v=>
  rw [if_pos (h3 v hg),h1 v hg]
  rfl
structure CntOk(c:Cnt)(n:Nat):Prop where
 nd:(c.map (·.1)).Nodup
 sub:∀p∈c,p.1∈ten
 tot:sumC c=n
theorem CntOk.nil:CntOk [] 0:=⟨.nil,fun p h=>by simp at h,rfl⟩
theorem CntOk.add{c:Cnt}{n:Nat}(h:CntOk c n){x:Str}(hx:x∈ten):CntOk (q3t c x) (n+1):=by
 refine⟨?_,fun p hp=>?_,?_⟩
 ·unfold q3t
  rw [zha]
  split
  ·exact h.nd
  ·rename_i hn
   exact List.nodup_append.mpr ⟨h.nd,by simp,fun a ha b hb e=>hn (by rw [List.mem_singleton] at hb; rw [<- hb,<- e]; exact ha)⟩
 ·have hm:p.1∈(q3t c x).map (·.1):=List.mem_map.mpr ⟨p,hp,rfl⟩
  unfold q3t at hm
  rw [zha] at hm
  split at hm
  ·obtain⟨q,hq,e⟩:=List.mem_map.mp hm
   rw [<- e]; exact h.sub q hq
  ·rcases List.mem_append.mp hm with hm | hm
   ·obtain⟨q,hq,e⟩:=List.mem_map.mp hm
    rw [<- e]; exact h.sub q hq
   ·rw [List.mem_singleton] at hm
    rw [hm]; exact hx
 ·unfold q3t
  rw [zzs _ _ _ h.nd,h.tot]
  omega
theorem CntOk.len{c:Cnt}{n:Nat}(h:CntOk c n):c.length<=10:=by
 have:=zl6 (c.map (·.1)) ten h.nd fun x hx=>by
  obtain⟨q,hq,e⟩:=List.mem_map.mp hx
  rw [<- e]; exact h.sub q hq
 rw [List.length_map] at this
 exact this
theorem zwp{H:Hp}{v:V}{t:T}(h:Dt H v t.enc):∃a y xs,v=.ref a/\H a=some (.tup (.str t.word::y::xs)):=by
 cases t with
 | num i=>
  rw [T.enc] at h
  obtain⟨a,x0,x1,rfl,ha,t0,t1⟩:=zob h
  cases t0
  exact⟨_,_,_,rfl,ha⟩
 | nm x=>
  rw [T.enc] at h
  obtain⟨a,x0,x1,rfl,ha,t0,t1⟩:=zob h
  cases t0
  exact⟨_,_,_,rfl,ha⟩
 | op w a b=>
  rw [T.enc] at h
  obtain⟨a,x0,x1,x2,rfl,ha,t0,t1,t2⟩:=ztb h
  cases t0
  exact⟨_,_,_,rfl,ha⟩
theorem zvo{H:Hp}{v:V}{d:D}(h:Dt H v d.enc):∃a xs,v=.ref a/\H a=some (.tup (.str d.kind::xs)):=by
 cases d with
 | set x t=>
  rw [D.enc] at h
  obtain⟨a,x0,x1,x2,rfl,ha,t0,t1,t2⟩:=ztb h
  cases t0
  exact⟨_,_,rfl,ha⟩
 | ite t b c=>
  rw [D.enc] at h
  obtain⟨a,x0,x1,x2,x3,rfl,ha,t0,t1,t2,t3⟩:=zy7 h
  cases t0
  exact⟨_,_,rfl,ha⟩
 | whl t m b=>
  rw [D.enc] at h
  obtain⟨a,x0,x1,x2,x3,rfl,ha,t0,t1,t2,t3⟩:=zy7 h
  cases t0
  exact⟨_,_,rfl,ha⟩
theorem z1w{x:V}{xs:List V}:atI (x::xs) 0=some x:=z1i (j:=0) rfl
theorem q0b{H:Hp}{p:Addr}{c e:List (Key×V)}(h:H p=some (.dK c)):Kp H (upd H p (.dK e)):=
 ⟨fun b zs q=>by rw [z0a (z86 q h (by intro z; cases z))]; exact q,fun b zs q=>⟨zs,by rw [z0a (z86 q h (by intro z; cases z))]; exact q⟩⟩
end
section
variable{P:Program}{w:World}{K:PySem.W.Frag}{mg:Str->Option Value}{base:Heap}{f:Addr}{fd:FuncData}
end
section
variable{P:Program}{w:World}{K:PySem.W.Frag}{mg:Str->Option Value}{base:Heap}{f:Addr}{fd:FuncData}
theorem q50{K:PySem.W.Frag}{H:Hp}{Q:VK}{x y:V}{ds es:List Dm}(dx:Dt H x (.tup ds))(dy:Dt H y (.tup es))(hz:ds.length+es.length<=1000)(h:∀z H',Same H H'->Dt H' z (.tup (ds++es))->Q z H'):zqk K x y H Q:=by
 obtain⟨a,xs,rfl,ha,da⟩:=dx.tupI
 obtain⟨b,ys,rfl,hb,db⟩:=dy.tupI
 have la:=da.length
 have lb:=db.length
 refine⟨a,b,_,_,rfl,rfl,SqT.of ha,SqT.of hb,?_,fun e=>?_,fun _ e=>?_,fun _ _ r hr=>?_⟩
 ·exact Nat.le_of_lt (z3e (by omega))
 ·subst e
  have:ds=[]:=List.length_eq_zero_iff.mp la.symm
  subst this
  exact h _ _ (Same.refl _) dy
 ·subst e
  have:es=[]:=List.length_eq_zero_iff.mp lb.symm
  subst this
  rw [List.append_nil] at h
  exact h _ _ (Same.refl _) dx
 ·have s:=z04 hr (HO.tup (xs++ys))
  exact h _ _ s (.tup z01 ((da.kp s.kp).append (db.kp s.kp)))
theorem zhf:∀(p q:List Int),PyData.eqvAll (zh6 (p.map Dm.int)) (zh6 (q.map Dm.int))=decide (p=q)
 | [],[]=>by simp[zh6,PyData.eqvAll]
 | [],_::_=>by simp[zh6,PyData.eqvAll]
 | _::_,[]=>by simp[zh6,PyData.eqvAll]
 | a::p,b::q=>by
  simp only[List.map_cons,zh6,PyData.eqvAll,zhf p q,Dm.dat,PyData.eqv]
  by_cases e:a=b
  ·subst e; simp
  ·simp[e]
theorem zv7:∀(x y:List Int),x.map (Sum.inl:Int->Key)=y.map Sum.inl->x=y
 | [],[],_=>rfl
 | [],_::_,h=>by cases h
 | _::_,[],h=>by cases h
 | a::x,b::y,h=>by
  rw [List.map_cons,List.map_cons] at h
  injection h with h1 h2
  injection h1 with h1
  rw [h1,zv7 x y h2]
end
section
variable{P:Program}{w:World}{K:PySem.W.Frag}{mg:Str->Option Value}{base:Heap}{f:Addr}{fd:FuncData}
end
section
variable{P:Program}{w:World}{K:PySem.W.Frag}{mg:Str->Option Value}{base:Heap}{f:Addr}{fd:FuncData}
abbrev RI:=List Int×Int
inductive Rs where
 | had (i:Int)
 | ref (w:Str) (p:List Int)
def Rs.enc:Rs->Dm
 | .had i=>.tup [.str "had",.int i]
 | .ref w p=>.tup [.str "refused",.str w,pathD p]
def rowI(r:RI):Dm:=.tup [pathD r.1,.int r.2]
def zs0(i:Int)(p:List Int):Rs:=if i < -32768 then .ref "over" p else if i > 32767 then .ref "over" p else .had i
def SameB(l:Addr)(H H':Hp):Prop:=∀a o,a≠l->H a=some o->H' a=some o
theorem SameB.of{l:Addr}{H H':Hp}(h:Same H H'):SameB l H H':=fun a o _ e=>h a o e
theorem SameB.trans{l:Addr}{H H1 H2:Hp}(a:SameB l H H1)(b:SameB l H1 H2):SameB l H H2:=fun x o n e=>b x o n (a x o n e)
theorem SameB.kp{l:Addr}{H H':Hp}{xs ys:List V}(h:SameB l H H')(hl:H l=some (.lst xs))(hl':H' l=some (.lst ys)):Kp H H':=
 ⟨fun b zs q=>h b _ (fun z=>by rw [z,hl] at q; cases q) q,fun b zs q=>by
  by_cases hb:b=l
  ·subst hb; exact⟨ys,hl'⟩
  ·exact⟨zs,h b _ hb q⟩⟩
def z63:Sp:=fun vs H Q _=>∃(wv pv:V) (p:List Int) (l:Addr) (xs:List V),vs=[wv,pv,.ref l]/\Dt H pv (pathD p)/\H l=some (.lst xs)/\xs.length < sizeLine/\
 ((wv=.non/\∀r H',Same H H'->Dt H' r (Rs.ref "zero" p).enc->Q r H')\/∃i,wv=.int i/\∀(r y:V) (H':Hp),SameB l H H'->H' l=some (.lst (xs++[y]))->Dt H' y (rowI (p,i))->Dt H' r (zs0 i p).enc->Q r H')
end
section
variable{P:Program}{w:World}{K:PySem.W.Frag}{mg:Str->Option Value}{base:Heap}{f:Addr}{fd:FuncData}
theorem zsl(F:Fun K "settled" "settled" z57 f fd) {ai:Addr} (g_WIDE:GC mg "WIDE" (.ref ai)) (hI:∀H,SqT K H ai [.int (-32768),.int 32767]):FnOk P w K mg base CX0 1 f fd ["worth","path","rows"] z63:=by
 refine F.ok zs2 (fun vs H Q E h=>?_) (fun cdv A outer s H vs Q E hr h=>?_)
 ·obtain⟨wv,pv,p,l,xs,rfl,_⟩:=h
  rfl
 obtain⟨wv,pv,p,l,xs,rfl,hp,hl,hx,h⟩:=h
 refine⟨_,(z03 (z2g (z0f q5n (z00 (i:=0) rfl z3y z64 z66) zdi (z0m _)) (z07 (z0h (z11 (z06 z0i (z06 z0i (z06 (z00 (i:=1) rfl z70 z1o z1p) pa_nil)))))) z0l)
 (z03 (z7p (zi3 PySem.F.plainAttrs_list PySem.F.slot_list_append PySem.F.type_list_append z7r (z00 (i:=2) rfl zgq zau zaz) (z06 (z11 (z06 (z00 (i:=1) rfl z70 z1o z1p) (z06 (z00 (i:=0) rfl z3y z64 z66) pa_nil))) pa_nil)) (z05 rfl))
 (z03 (z2g (PW.pt (zgu (z0f zpe (z00 (i:=0) rfl z3y z64 z66) (z0z z0p (q28 g_WIDE zc6 zvx) z02 (fun _ _=>rfl)) (z0m _)) (zgf (z0f q2d (z00 (i:=0) rfl z3y z64 z66) (z0z z0p (q28 g_WIDE zc6 zvx) z02 (fun _ _=>rfl)) (z0m _))))) (z07 (z0h (z11 (z06 z0i (z06 z0i (z06 (z00 (i:=1) rfl z70 z1o z1p) pa_nil)))))) z0l)
 (z07 (z0h (z11 (z06 z0i (z06 (z00 (i:=0) rfl z3y z64 z66) pa_nil)))))))),z0g fun N1 e1=>?_⟩
 walk_at "rd7"
 rcases h with⟨rfl,q⟩ | ⟨i,rfl,q⟩
 ·rw [if_pos rfl]
  refine⟨by decide,fun r hr'=>?_⟩
  have s1:=z04 hr' (HO.tup [V.str "refused",V.str "zero",pv])
  exact q _ _ s1 (.tup z01 (.cons (.str _) (.cons (.str _) (.cons (hp.kp s1.kp) .nil))))
 ·rw [if_neg (by intro z; cases z),e1]
  refine z0g fun N2 e2=>?_
  walk_at "rd7"
  refine⟨.inl ⟨rfl,_,SqL.of hl⟩,by decide,fun y hy=>?_⟩
  have s1:=z04 hy (HO.tup [pv,V.int i])
  have hly:=s1 _ _ hl
  refine⟨xs,hly,hx,?_⟩
  have nyl:y≠l:=fun z=>by rw [z,hl] at hy; cases hy
  have k2:Kp (upd H y (HO.tup [pv,V.int i])) (upd (upd H y (HO.tup [pv,V.int i])) l (HO.lst (xs++[V.ref y]))):=Kp.set hly
  have sB:SameB l H (upd (upd H y (HO.tup [pv,V.int i])) l (HO.lst (xs++[V.ref y]))):=fun a o n e=>by rw [z0a n]; exact s1 _ _ e
  have hU:(upd (upd H y (HO.tup [pv,V.int i])) l (HO.lst (xs++[V.ref y]))) l=some (.lst (xs++[V.ref y])):=z01
  have dy:Dt (upd (upd H y (HO.tup [pv,V.int i])) l (HO.lst (xs++[V.ref y]))) (.ref y) (rowI (p,i)):=.tup (by rw [z0a nyl]; exact z01) (.cons (hp.kp (s1.kp.trans k2)) (.cons (.int _) .nil))
  have dp:=hp.kp (s1.kp.trans k2)
  generalize upd (upd H y (HO.tup [pv,V.int i])) l (HO.lst (xs++[V.ref y]))=U at k2 sB hU dy dp |-
  rw [e2]
  walk_at "rd7"
  have fin:∀(r:Addr) (o:List V),U r=none->Dt (upd U r (HO.tup o)) (.ref r) (zs0 i p).enc->Q (.ref r) (upd U r (HO.tup o)):=fun r o h1 h2=>by
   have s3:=z04 h1 (HO.tup o)
   exact q _ _ _ (sB.trans (SameB.of s3)) (s3 _ _ hU) (dy.kp s3.kp) h2
  refine⟨_,hI U,_,z1i (j:=0) rfl,_,rfl,?_⟩
  split
  ·rename_i hlt
   refine⟨by decide,fun r hr'=>fin r _ hr' ?_⟩
   rw [zs0,if_pos hlt]
   exact .tup z01 (.cons (.str _) (.cons (.str _) (.cons (dp.kp (z04 hr' _).kp) .nil)))
  ·rename_i hlt
   refine⟨_,hI U,_,z1i (j:=1) rfl,_,rfl,?_⟩
   split
   ·rename_i hgt
    refine⟨by decide,fun r hr'=>fin r _ hr' ?_⟩
    rw [zs0,if_neg hlt,if_pos hgt]
    exact .tup z01 (.cons (.str _) (.cons (.str _) (.cons (dp.kp (z04 hr' _).kp) .nil)))
   ·rename_i hgt
    refine⟨by decide,fun r hr'=>fin r _ hr' ?_⟩
    rw [zs0,if_neg hlt,if_neg hgt]
    exact .tup z01 (.cons (.str _) (.cons (.int _) .nil))
end
section
variable{P:Program}{w:World}{K:PySem.W.Frag}{mg:Str->Option Value}{base:Heap}{f:Addr}{fd:FuncData}
def q43(st:Stmt):Expr:=match defBody st with
 | [.Return (some (.Call _ [_,_,e] _ _)) _]=>e
 | [_,.Expr (.Call _ [_,_,e] _ _) _,_]=>e
 | _=>.Name "" ⟨0,0,0,0⟩
def q4y(q:Str)(e:Expr):LamD:=match e with
 | .Lambda ps b sc _=>⟨q,ps,b,sc⟩
 | _=>⟨q,{posonlyargs:=[],args:=[],vararg:=none,kwonlyargs:=[],kw_defaults:=[],kwarg:=none,defaults:=[]},.Name "" ⟨0,0,0,0⟩,{kind:=.function,names:=[],isGenerator:=false,isCoroutine:=false}⟩
def zys(e:Expr):Pos:=match e with
 | .Lambda _ _ _ p=>p
 | _=>⟨0,0,0,0⟩
abbrev dR:LamD:=q4y ("run" ++ ".<locals>." ++ "<lambda>") (q43 zfw)
abbrev dT:LamD:=q4y ("traced" ++ ".<locals>." ++ "<lambda>") (q43 z33)
theorem q5c:∀y∈dR.scope.names,y.2≠.free:=by decide+kernel
theorem q5e:LamScope ["worth","path"] [] [] dR.scope:=⟨rfl,rfl,rfl,by decide+kernel,by decide+kernel,by simp,by decide+kernel,fun y hy e=>absurd e (q5c y hy),by simp,by simp⟩
theorem q5b:∀y∈dT.scope.names,y.2=.free->y.1 = "rows":=by decide+kernel
theorem q5d(c:Addr):LamScope ["worth","path"] ["rows"] [("rows",c)] dT.scope:=by
 refine⟨rfl,rfl,rfl,by decide+kernel,by decide+kernel,by decide+kernel,by decide+kernel,fun y hy e=>⟨c,?_⟩,fun x y c' h1 h2=>?_,fun x c' h=>?_⟩
 ·rw [q5b y hy e]
  rfl
 ·have key:∀z:Str,([("rows",c)]:List (Str×Addr)).lookup z=some c'->z = "rows":=fun z h=>by
   by_cases e:z = "rows"
   ·exact e
   ·have:(z == ("rows" : Str))=false:=by simpa using e
    rw [List.lookup,this] at h
    cases h
  rw [key x h1,key y h2]
 ·rw [List.mem_singleton] at h
  cases h
  rfl
def SetOk(f:Addr)(lo:Option Addr)(H:Hp):Prop:=match lo with
 | none=>∃c',H f=some (zoc dR [] f c')/\H c'=some (zax c' dR.qual)
 | some l=>∃c' c o,H f=some (zoc dT [("rows",c)] f c')/\H c'=some (zax c' dT.qual)/\H c=some (z3w c o)/\o.data=.cell (some (.ref l))
theorem SetOk.lam{f:Addr}{lo:Option Addr}{H:Hp}(h:SetOk f lo H):IsLam H f:=by
 cases lo with
 | none=>obtain⟨c',e,_⟩:=h; exact⟨_,_,_,e⟩
 | some l=>obtain⟨c',c,o,e,_⟩:=h; exact⟨_,_,_,e⟩
def KpE(H H':Hp):Prop:=∀a φ,H a=some (.ext φ)->H' a=some (.ext φ)
theorem KpE.refl(H:Hp):KpE H H:=fun _ _ h=>h
theorem KpE.trans{H H1 H2:Hp}(a:KpE H H1)(b:KpE H1 H2):KpE H H2:=fun x φ h=>b x φ (a x φ h)
theorem Same.kpE{H H':Hp}(s:Same H H'):KpE H H':=fun a φ h=>s _ _ h
theorem KpE.set{H:Hp}{p:Addr}{o u:HO}(h:H p=some o)(n:∀ φ,o≠.ext φ):KpE H (upd H p u):=fun a φ e=>by
 rw [z0a (z86 e h fun z=>n φ z.symm)]
 exact e
theorem SetOk.kp{f:Addr}{lo:Option Addr}{H H':Hp}(h:SetOk f lo H)(k:KpE H H'):SetOk f lo H':=by
 cases lo with
 | none=>obtain⟨c',e,e2⟩:=h; exact⟨c',k _ _ e,k _ _ e2⟩
 | some l=>obtain⟨c',c,o,e,e2,e3,e4⟩:=h; exact⟨c',c,o,k _ _ e,k _ _ e2,k _ _ e3,e4⟩
end
section
variable{P:Program}{w:World}{K:PySem.W.Frag}{mg:Str->Option Value}{base:Heap}{f:Addr}{fd:FuncData}
def Gr(lo:Option Addr)(H H':Hp)(rs:List RI):Prop:=(∀a o,some a≠lo->H a=some o->H' a=some o)/\∀l,lo=some l->∃xs ys,H l=some (.lst xs)/\H' l=some (.lst (xs++ys))/\DtA H' ys (rs.map rowI)
def HasL(lo:Option Addr)(H:Hp)(n:Nat):Prop:=∀l,lo=some l->∃xs,H l=some (.lst xs)/\xs.length+n < sizeLine
theorem Gr.kp{lo:Option Addr}{H H':Hp}{rs:List RI}(h:Gr lo H H' rs):Kp H H':=by
 cases lo with
 | none=>exact⟨fun b xs e=>h.1 b _ (by simp) e,fun b xs e=>⟨xs,h.1 b _ (by simp) e⟩⟩
 | some l=>
  obtain⟨xs,ys,e1,e2,_⟩:=h.2 l rfl
  exact SameB.kp (fun a o n e=>h.1 a o (by simpa using n) e) e1 e2
theorem Gr.kpE{lo:Option Addr}{H H':Hp}{rs:List RI}(h:Gr lo H H' rs):KpE H H':=fun a φ e=>by
 refine h.1 a _ (fun z=>?_) e
 obtain⟨xs,ys,e1,_⟩:=h.2 a z.symm
 rw [e1] at e
 cases e
theorem Gr.keep{lo:Option Addr}{H H':Hp}{rs:List RI}(h:Gr lo H H' rs){a:Addr}{o:HO}(e:H a=some o)(n:∀xs,o≠.lst xs):H' a=some o:=h.1 a o (fun z=>by
 obtain⟨xs,ys,e1,_⟩:=h.2 a z.symm
 rw [e1] at e
 cases e
 exact n _ rfl) e
theorem Gr.trans{lo:Option Addr}{H H1 H2:Hp}{r1 r2:List RI}(a:Gr lo H H1 r1)(b:Gr lo H1 H2 r2):Gr lo H H2 (r1++r2):=by
 refine⟨fun x o n e=>b.1 x o n (a.1 x o n e),fun l hl=>?_⟩
 obtain⟨xs,ys,e1,e2,d1⟩:=a.2 l hl
 obtain⟨xs',zs,f1,f2,d2⟩:=b.2 l hl
 rw [e2] at f1
 cases f1
 exact⟨xs,ys++zs,e1,by rw [f2,List.append_assoc],by rw [List.map_append]; exact(d1.kp b.kp).append d2⟩
theorem Gr.same{lo:Option Addr}{H H':Hp}{n:Nat}(s:Same H H')(h:HasL lo H n):Gr lo H H' []:=by
 refine⟨fun a o _ e=>s a o e,fun l hl=>?_⟩
 obtain⟨xs,e,_⟩:=h l hl
 exact⟨xs,[],e,by rw [List.append_nil]; exact s _ _ e,.nil⟩
theorem HasL.on{lo:Option Addr}{H H':Hp}{rs:List RI}{n m:Nat}(h:HasL lo H n)(g:Gr lo H H' rs)(k:rs.length+m<=n):HasL lo H' m:=fun l hl=>by
 obtain⟨xs,e,z⟩:=h l hl
 obtain⟨xs',ys,e1,e2,d⟩:=g.2 l hl
 rw [e] at e1
 cases e1
 have:=d.length
 rw [List.length_map] at this
 exact⟨_,e2,by rw [List.length_append]; omega⟩
theorem HasL.same{lo:Option Addr}{H H':Hp}{n:Nat}(h:HasL lo H n)(s:Same H H'):HasL lo H' n:=fun l hl=>by
 obtain⟨xs,e,z⟩:=h l hl
 exact⟨xs,s _ _ e,z⟩
theorem HasL.mono{lo:Option Addr}{H:Hp}{n m:Nat}(h:HasL lo H n)(k:m<=n):HasL lo H m:=fun l hl=>by
 obtain⟨xs,e,z⟩:=h l hl
 exact⟨xs,e,by omega⟩
theorem zxo(H:Hp):zeu [] H=H:=by funext b; exact z1d (by simp)
theorem zy4(H H':Hp):zcq [] H H'=H':=by funext b; exact z5o (by simp)
theorem q5m:dR.scope.names.lookup ("settled" : Str)=some NameKind.globalImplicit:=by decide+kernel
theorem q5l:dT.scope.names.lookup ("settled" : Str)=some NameKind.globalImplicit:=by decide+kernel
theorem q56:Vis dR.scope "worth":=Or.inl (by decide+kernel)
theorem q59:Vis dR.scope "path":=Or.inl (by decide+kernel)
theorem q55:Vis dT.scope "worth":=Or.inl (by decide+kernel)
theorem q58:Vis dT.scope "path":=Or.inl (by decide+kernel)
theorem q57:Vis dT.scope "rows":=Or.inr (Or.inr (by decide+kernel))
theorem q3p{us:List Value}(hl:us.length=2):∀fd:FuncData,fd.params=dR.params->fd.defaults=.none->fd.kwdefaults=.none->fd.scope=dR.scope->bindArgs fd ⟨us,[]⟩=pure ((["worth","path"]:List Str).zip us):=by
 intro fd h1 h2 h3 h4
 obtain⟨name,qual,params,body,scope,globals,closure,defaults,kwdefaults,doc,pm,an,code,ct,bu⟩:=fd
 cases h1
 cases h2
 cases h3
 cases h4
 match us,hl with
 | [_,_],_=>rfl
theorem q3o{us:List Value}(hl:us.length=2):∀fd:FuncData,fd.params=dT.params->fd.defaults=.none->fd.kwdefaults=.none->fd.scope=dT.scope->bindArgs fd ⟨us,[]⟩=pure ((["worth","path"]:List Str).zip us):=by
 intro fd h1 h2 h3 h4
 obtain⟨name,qual,params,body,scope,globals,closure,defaults,kwdefaults,doc,pm,an,code,ct,bu⟩:=fd
 cases h1
 cases h2
 cases h3
 cases h4
 match us,hl with
 | [_,_],_=>rfl
theorem zk8:DBF "settled":=by decide+kernel
end
section
variable{P:Program}{w:World}{K:PySem.W.Frag}{mg:Str->Option Value}{base:Heap}{f:Addr}{fd:FuncData}
theorem q2q(c_settled:Callee P w K mg base "settled" ["worth","path","rows"] 1 z63) {H:Hp} {x pv:V} {p:List Int} {Q:VK} {c':Addr} (hf:H f=some (zoc dR [] f c')) (hc:H c'=some (zax c' dR.qual)) (hp:Dt H pv (pathD p))
  (q:∀l,H l=none->z63 [x,pv,.ref l] (upd H l (.lst [])) Q E0):q1n P w K mg base 2 f H [x,pv] Q:=by
 intro A outer s us hr e0 r
 have hl:us.length=2:=r.length.symm
 refine zux (k:=1) (ps:=["worth","path"]) (fr:=[]) (ws:=[]) q5e hr e0 hf hc rfl r rfl (by simp) (by simp) (q3p hl) fun hr'=>?_
 refine⟨_,z1n c_settled hr' (by omega) (z06 (z00 (i:=0) rfl q56 z64 z66) (z06 (z00 (i:=1) rfl q59 z1o z1p) (z06 (z46 pa_nil) pa_nil))) q5m zk8,?_⟩
 rw [List.map_nil,zxo]
 simp only[zy4,List.not_mem_nil,false_implies,implies_true,true_implies]
 walk_at "rd7"
 refine⟨by decide,fun l hl=>q l hl⟩
theorem q2p(c_settled:Callee P w K mg base "settled" ["worth","path","rows"] 1 z63) {H:Hp} {x pv:V} {p:List Int} {Q:VK} {c' c l:Addr} {o:Obj} (hf:H f=some (zoc dT [("rows",c)] f c')) (hc:H c'=some (zax c' dT.qual)) (hcl:H c=some (z3w c o)) (ho:o.data=.cell (some (.ref l))) (hp:Dt H pv (pathD p))
  (q:z63 [x,pv,.ref l] (zeu [c] H) (fun v H'=>H' c=none->Q v (zcq [c] H H')) E0):q1n P w K mg base 2 f H [x,pv] Q:=by
 intro A outer s us hr e0 r
 have hl:us.length=2:=r.length.symm
 refine zux (k:=1) (ps:=["worth","path"]) (fr:=["rows"]) (ws:=[.ref l]) (q5d c) hr e0 hf hc rfl r rfl (fun c2 hc2=>?_) (fun i x v h1 h2=>?_) (q3o hl) fun hr'=>?_
 ·rw [List.map_cons,List.map_nil,List.mem_singleton] at hc2
  subst hc2
  exact⟨o,_,hcl,ho⟩
 ·match i,h1,h2 with
  | 0,h1,h2=>
   cases h1
   cases h2
   exact⟨c,o,_,rfl,hcl,ho,rfl⟩
  | i+1,h1,_=>simp at h1
 refine⟨_,z1n c_settled hr' (by omega) (z06 (z00 (i:=0) rfl q55 z64 z66) (z06 (z00 (i:=1) rfl q58 z1o z1p) (z06 (z00 (i:=2) rfl q57 zau zaz) pa_nil))) q5l zk8,?_⟩
 rw [List.map_cons,List.map_nil]
 simp only[List.mem_singleton,forall_eq]
 walk_at "rd7"
 exact q
theorem zuz{H:Hp}{c:Addr}{o:Obj}(hc:H c=some (z3w c o)):Kp H (zeu [c] H):=by
 have out:∀{b:Addr} {u:HO},H b=some u->(∀ φ,u≠.ext φ)->zeu [c] H b=some u:=fun {b u} e n=>by
  rw [z1d fun z=>by
   rw [List.mem_singleton.mp z,hc] at e
   cases e
   exact n _ rfl]
  exact e
 exact⟨fun b xs e=>out e fun φ z=>(by cases z),fun b xs e=>⟨xs,out e fun φ z=>(by cases z)⟩⟩
theorem za9{H H':Hp}{c:Addr}(hn:H' c=none){b:Addr}{u:HO}(e:H' b=some u):zcq [c] H H' b=some u:=by
 rw [z5o fun z=>by
  rw [List.mem_singleton.mp z,hn] at e
  cases e]
 exact e
theorem zpp{H H':Hp}{c:Addr}(hn:H' c=none):Kp H' (zcq [c] H H'):=⟨fun b xs e=>za9 hn e,fun b xs e=>⟨xs,za9 hn e⟩⟩
theorem zfv(c_settled:Callee P w K mg base "settled" ["worth","path","rows"] 1 z63) {H:Hp} {pv:V} {p:List Int} {i:Int} {lo:Option Addr} {Q:VK} (hS:SetOk f lo H) (hL:HasL lo H 1) (hp:Dt H pv (pathD p))
  (q:∀r H',Gr lo H H' [(p,i)]->Dt H' r (zs0 i p).enc->Q r H'):q1n P w K mg base 2 f H [.int i,pv] Q:=by
 cases lo with
 | none=>
  obtain⟨c',hf,hc⟩:=hS
  refine q2q c_settled hf hc hp fun l hl=>?_
  have s1:=z04 hl (HO.lst [])
  refine⟨_,pv,p,l,[],rfl,hp.kp s1.kp,z01,by decide,.inr ⟨i,rfl,fun r y H' sB hl' dy dr=>q r H' ⟨fun a o _ e=>sB a o (z0d e hl) (s1 _ _ e),fun l' z=>by cases z⟩ dr⟩⟩
 | some l=>
  obtain⟨c',c,o,hf,hc,hcl,ho⟩:=hS
  obtain⟨xs,hl,hz⟩:=hL l rfl
  have nlc:l≠c:=fun z=>by rw [z,hcl] at hl; unfold z3w at hl; cases hl
  refine q2p c_settled hf hc hcl ho hp ⟨_,pv,p,l,xs,rfl,hp.kp (zuz hcl),by rw [z1d (by simpa using nlc)]; exact hl,by omega,.inr ⟨i,rfl,fun r y H' sB hl' dy dr hn=>?_⟩⟩
  refine q r _ ⟨fun a u na e=>?_,fun l2 e2=>?_⟩ (dr.kp (zpp hn))
  ·by_cases hac:a=c
   ·subst hac
    rw [zj2 (by simp)]
    exact e
   ·exact za9 hn (sB a u (fun z=>na (by rw [z])) (by rw [z1d (by simpa using hac)]; exact e))
  ·cases e2
   exact⟨xs,[y],hl,za9 hn hl',.cons (dy.kp (zpp hn)) .nil⟩
theorem zor(c_settled:Callee P w K mg base "settled" ["worth","path","rows"] 1 z63) {H:Hp} {pv:V} {p:List Int} {lo:Option Addr} {Q:VK} (hS:SetOk f lo H) (hL:HasL lo H 1) (hp:Dt H pv (pathD p))
  (q:∀r H',Gr lo H H' []->Dt H' r (Rs.ref "zero" p).enc->Q r H'):q1n P w K mg base 2 f H [.non,pv] Q:=by
 cases lo with
 | none=>
  obtain⟨c',hf,hc⟩:=hS
  refine q2q c_settled hf hc hp fun l hl=>?_
  have s1:=z04 hl (HO.lst [])
  exact⟨_,pv,p,l,[],rfl,hp.kp s1.kp,z01,by decide,.inl ⟨rfl,fun r H' s2 dr=>q r H' (Gr.same (n:=0) (s1.trans s2) fun l' z=>(by cases z)) dr⟩⟩
 | some l=>
  obtain⟨c',c,o,hf,hc,hcl,ho⟩:=hS
  obtain⟨xs,hl,hz⟩:=hL l rfl
  have nlc:l≠c:=fun z=>by rw [z,hcl] at hl; unfold z3w at hl; cases hl
  have hlh:zeu [c] H l=some (.lst xs):=by rw [z1d (by simpa using nlc)]; exact hl
  refine q2p c_settled hf hc hcl ho hp ⟨_,pv,p,l,xs,rfl,hp.kp (zuz hcl),hlh,by omega,.inl ⟨rfl,fun r H' s2 dr hn=>?_⟩⟩
  refine q r _ ⟨fun a u na e=>?_,fun l2 e2=>?_⟩ (dr.kp (zpp hn))
  ·by_cases hac:a=c
   ·subst hac
    rw [zj2 (by simp)]
    exact e
   ·exact za9 hn (s2 a u (by rw [z1d (by simpa using hac)]; exact e))
  ·cases e2
   exact⟨xs,[],hl,by rw [List.append_nil]; exact za9 hn (s2 _ _ hlh),.nil⟩
end
section
variable{P:Program}{w:World}{K:PySem.W.Frag}{mg:Str->Option Value}{base:Heap}{f:Addr}{fd:FuncData}
def Wd.worth:Wd->Int->Int->Int
 | .add,a,b=>a+b
 | .sub,a,b=>a - b
 | .mul,a,b=>a * b
 | .quo,a,b=>a.fdiv b
 | .less,a,b=>if a < b then 1 else 0
 | .same,a,b=>if a=b then 1 else 0
 | .min,a,b=>if b < a then b else a
 | .max,a,b=>if b > a then b else a
def evT(c:Cnt):T->List Int->Rs×List RI
 | .num i,p=>(zs0 i p,[(p,i)])
 | .nm x,p=>(zs0 ((zgi c x).getD 0) p,[(p,(zgi c x).getD 0)])
 | .op w a b,p=>match evT c a (p++[0]) with
  | (.ref u q,r1)=>(.ref u q,r1)
  | (.had x,r1)=>match evT c b (p++[1]) with
   | (.ref u q,r2)=>(.ref u q,r1++r2)
   | (.had y,r2)=>if w=.quo/\y=0 then(.ref "zero" p,r1++r2) else(zs0 (w.worth x y) p,r1++r2++[(p,w.worth x y)])
abbrev Ref:=Str×List Int
abbrev Out:=Option Ref×Cnt×List RI
def z6h(cond:Cnt->Rs×List RI)(body:Cnt->Out)(p:List Int):Nat->Cnt->Out
 | k,c=>match cond c with
  | (.ref u q,r)=>(some (u,q),c,r)
  | (.had v,r)=>if v=0 then(none,c,r) else match k with
   | 0=>(some ("long",p),c,r)
   | k+1=>match body c with
    | (some e,c1,r1)=>(some e,c1,r++r1)
    | (none,c1,r1)=>match z6h cond body p k c1 with
     | (e,c2,r2)=>(e,c2,r++r1++r2)
mutual
def evD(p:List Int):D->Cnt->Out
 | .set x t,c=>match evT c t (p++[0]) with
  | (.ref u q,r)=>(some (u,q),c,r)
  | (.had v,r)=>(none,zkv c x v,r)
 | .ite t b b2,c=>match evT c t (p++[0]) with
  | (.ref u q,r)=>(some (u,q),c,r)
  | (.had v,r)=>if v≠0 then(match evB (p++[1]) 0 b c with | (e,c1,r1)=>(e,c1,r++r1)) else(match evB (p++[2]) 0 b2 c with | (e,c1,r1)=>(e,c1,r++r1))
 | .whl t m b,c=>z6h (fun c=>evT c t (p++[0])) (fun c=>evB (p++[1]) 0 b c) p m.toNat c
def evB(p:List Int)(k:Int):List D->Cnt->Out
 | [],c=>(none,c,[])
 | d::r,c=>match evD (p++[k]) d c with
  | (some e,c1,w)=>(some e,c1,w)
  | (none,c1,w)=>match evB p (k+1) r c1 with
   | (e,c2,w2)=>(e,c2,w++w2)
end
def T.in(g:List Str):T->Prop
 | .num _=>True
 | .nm x=>x∈g
 | .op _ a b=>a.in g/\b.in g
def Has(c:Cnt)(g:List Str):Prop:=∀x∈g,∃v,zgi c x=some v/\-32768<=v/\v<=32767
theorem zkr{i v:Int}{p:List Int}(h:zs0 i p=.had v):v=i/\-32768<=i/\i<=32767:=by
 unfold zs0 at h
 split at h
 ·cases h
 ·split at h
  ·cases h
  ·cases h
   omega
theorem zvh{c:Cnt}:∀(t:T) (p:List Int) {v:Int} {r:List RI},evT c t p=(.had v,r)->-32768<=v/\v<=32767
 | .num i,p,v,r,h=>by
  rw [evT] at h
  obtain⟨rfl,h1,h2⟩:=zkr (congrArg Prod.fst h)
  exact⟨h1,h2⟩
 | .nm x,p,v,r,h=>by
  rw [evT] at h
  obtain⟨rfl,h1,h2⟩:=zkr (congrArg Prod.fst h)
  exact⟨h1,h2⟩
 | .op w a b,p,v,r,h=>by
  rw [evT] at h
  split at h
  ·cases h
  ·split at h
   ·cases h
   ·split at h
    ·cases h
    ·obtain⟨rfl,h1,h2⟩:=zkr (congrArg Prod.fst h)
     exact⟨h1,h2⟩
theorem zyo{c:Cnt}{w:Wd}{a b:T}{p:List Int}{u:Str}{q:List Int}{r:List RI}(h:evT c a (p++[0])=(.ref u q,r)):evT c (.op w a b) p=(.ref u q,r):=by rw [evT,h]
theorem zpc{c:Cnt}{w:Wd}{a b:T}{p:List Int}{u:Str}{q:List Int}{x:Int}{r s:List RI}(h:evT c a (p++[0])=(.had x,r))(h2:evT c b (p++[1])=(.ref u q,s)):evT c (.op w a b) p=(.ref u q,r++s):=by rw [evT,h]; simp only[h2]
theorem zpb{c:Cnt}{a b:T}{p:List Int}{x:Int}{r s:List RI}(h:evT c a (p++[0])=(.had x,r))(h2:evT c b (p++[1])=(.had 0,s)):evT c (.op .quo a b) p=(.ref "zero" p,r++s):=by rw [evT,h]; simp[h2]
theorem zue{c:Cnt}{w:Wd}{a b:T}{p:List Int}{x y:Int}{r s:List RI}(h:evT c a (p++[0])=(.had x,r))(h2:evT c b (p++[1])=(.had y,s))(h3:¬ (w=.quo/\y=0)):evT c (.op w a b) p=(zs0 (w.worth x y) p,r++s++[(p,w.worth x y)]):=by rw [evT,h]; simp only[h2]; rw [if_neg h3]
theorem q02(c:Cnt)(w:Wd)(a b:T)(p:List Int):(evT c a (p++[0])).2.length<=(evT c (.op w a b) p).2.length:=by
 cases h:evT c a (p++[0]) with
 | mk r1 s1=>
  cases r1 with
  | ref u q=>rw [zyo h]; exact Nat.le_refl _
  | had x=>
   cases h2:evT c b (p++[1]) with
   | mk r2 s2=>
    cases r2 with
    | ref u q=>rw [zpc h h2]; simp
    | had y=>
     by_cases h3:w=.quo/\y=0
     ·obtain⟨rfl,rfl⟩:=h3
      rw [zpb h h2]; simp
     ·rw [zue h h2 h3]; simp only[List.length_append,List.length_cons,List.length_nil]; omega
theorem q01{c:Cnt}{w:Wd}{a b:T}{p:List Int}{x:Int}{r:List RI}(h:evT c a (p++[0])=(.had x,r)):r.length+(evT c b (p++[1])).2.length<=(evT c (.op w a b) p).2.length:=by
 cases h2:evT c b (p++[1]) with
 | mk r2 s2=>
  cases r2 with
  | ref u q=>rw [zpc h h2]; simp
  | had y=>
   by_cases h3:w=.quo/\y=0
   ·obtain⟨rfl,rfl⟩:=h3
    rw [zpb h h2]; simp
   ·rw [zue h h2 h3]; simp only[List.length_append,List.length_cons,List.length_nil]; omega
def z7a(n:Nat):Sp:=fun vs H Q _=>∃(v:V) (t:T) (pv:V) (p:List Int) (d f:Addr) (c:Cnt) (g:List Str) (lo:Option Addr),vs=[v,pv,.ref d,.ref f]/\Dt H v t.enc/\Dt H pv (pathD p)/\t.ok g n/\n<=5/\p.length+n<=100/\H d=some (.dK (kvC c))/\Has c g/\SetOk f lo H/\HasL lo H ((evT c t p).2.length+1)/\
 ∀(r:V) (H':Hp),Gr lo H H' (evT c t p).2->Dt H' r (evT c t p).1.enc->Q r H'
end
section
variable{P:Program}{w:World}{K:PySem.W.Frag}{mg:Str->Option Value}{base:Heap}{f:Addr}{fd:FuncData}
theorem eqW{H:Hp}(w v:Wd):q3w K (.str w.str) (.str v.str) H (decide (w=v)):=.inl ⟨rfl,by cases w<;>cases v<;>decide+kernel⟩
def zoo:Sp:=fun vs H Q _=>∃(w:Wd) (a b:Int),vs=[.str w.str,.int a,.int b]/\(w=.quo->b≠0)/\b.natAbs < 1073741824/\Q (.int (w.worth a b)) H
theorem zpg(F:Fun K "worth_of" "worth_of" z3m f fd) (b_min:mg "min" = none) (b_max:mg "max" = none):FnOk P w K mg base CX0 1 f fd ["word","one","other"] zoo:=by
 refine F.ok zos (fun vs H Q E h=>?_) (fun cdv A outer s H vs Q E hr h=>?_)
 ·obtain⟨w,a,b,rfl,_⟩:=h
  rfl
 obtain⟨w,a,b,rfl,hq,hb,q⟩:=h
 refine⟨_,(z03 (z2g (z0f (gEq hr.units) (z00 (i:=0) rfl z2f ze2 ze7) z0i (z0m _)) (z07 (z0h (z0o z1h (z00 (i:=1) rfl z28 zci zcm) (z00 (i:=2) rfl z1q z5m z5n)))) z0l)
 (z03 (z2g (z0f (gEq hr.units) (z00 (i:=0) rfl z2f ze2 ze7) z0i (z0m _)) (z07 (z0h (z0o z8d (z00 (i:=1) rfl z28 zci zcm) (z00 (i:=2) rfl z1q z5m z5n)))) z0l)
 (z03 (z2g (z0f (gEq hr.units) (z00 (i:=0) rfl z2f ze2 ze7) z0i (z0m _)) (z07 (z0h (z0o zc0 (z00 (i:=1) rfl z28 zci zcm) (z00 (i:=2) rfl z1q z5m z5n)))) z0l)
 (z03 (z2g (z0f (gEq hr.units) (z00 (i:=0) rfl z2f ze2 ze7) z0i (z0m _)) (z07 (z0h (z0o zhd (z00 (i:=1) rfl z28 zci zcm) (z00 (i:=2) rfl z1q z5m z5n)))) z0l)
 (z03 (z2g (z0f (gEq hr.units) (z00 (i:=0) rfl z2f ze2 ze7) z0i (z0m _)) (z07 (z0h (zqp (z0f zpe (z00 (i:=1) rfl z28 zci zcm) (z00 (i:=2) rfl z1q z5m z5n) (z0m _)) z02 z02))) z0l)
 (z03 (z2g (z0f (gEq hr.units) (z00 (i:=0) rfl z2f ze2 ze7) z0i (z0m _)) (z07 (z0h (zqp (z0f zdj (z00 (i:=1) rfl z28 zci zcm) (z00 (i:=2) rfl z1q z5m z5n) (z0m _)) z02 z02))) z0l)
 (z03 (z2g (z0f (gEq hr.units) (z00 (i:=0) rfl z2f ze2 ze7) z0i (z0m _)) (z07 (z0h (z75 (zw9 rfl) zil b_min q3k (z06 (z00 (i:=1) rfl z28 zci zcm) (z06 (z00 (i:=2) rfl z1q z5m z5n) pa_nil)) q2k q38))) z0l)
 (z07 (z0h (z75 (zwa rfl) zim b_max q3l (z06 (z00 (i:=1) rfl z28 zci zcm) (z06 (z00 (i:=2) rfl z1q z5m z5n) pa_nil)) q2l q39)))))))))),?_⟩
 walk_at "rd"
 have hm:CMul a b:=.inr ⟨by omega,by omega⟩
 refine⟨_,eqW w .add,?_⟩
 split
 ·rename_i e; cases of_decide_eq_true e; exact q
 rename_i n1
 refine⟨_,eqW w .sub,?_⟩
 split
 ·rename_i e; cases of_decide_eq_true e; exact q
 rename_i n2
 refine⟨_,eqW w .mul,?_⟩
 split
 ·rename_i e; cases of_decide_eq_true e; exact⟨hm,q⟩
 rename_i n3
 refine⟨_,eqW w .quo,?_⟩
 split
 ·rename_i e; cases of_decide_eq_true e; exact⟨⟨hq rfl,hb⟩,q⟩
 rename_i n4
 refine⟨_,eqW w .less,?_⟩
 split
 ·rename_i e; cases of_decide_eq_true e
  have q:Q (.int (if a < b then 1 else 0)) H:=q
  split
  ·rename_i c; rw [if_pos c] at q; exact q
  ·rename_i c; rw [if_neg c] at q; exact q
 rename_i n5
 refine⟨_,eqW w .same,?_⟩
 split
 ·rename_i e; cases of_decide_eq_true e
  have q:Q (.int (if a=b then 1 else 0)) H:=q
  split
  ·rename_i c; rw [if_pos c] at q; exact q
  ·rename_i c; rw [if_neg c] at q; exact q
 rename_i n6
 refine⟨_,eqW w .min,?_⟩
 split
 ·rename_i e; cases of_decide_eq_true e; exact⟨_,_,⟨rfl,rfl⟩,q⟩
 rename_i n7
 have e:w=.max:=by
  cases w<;>first | rfl | exact absurd rfl (by assumption)
 cases e
 exact⟨_,_,⟨rfl,rfl⟩,q⟩
theorem zpm{k:Nat}{n1 n2 n3 n4:Str}:FnOk P w K mg base CX0 k f fd [n1,n2,n3,n4] (z7a 0):=by
 have no:∀vs H Q E,¬ z7a 0 vs H Q E:=fun vs H Q E h=>by
  obtain⟨v,t,pv,p,d,f,c,g,lo,_,_,_,h,_⟩:=h
  exact h.elim
 exact⟨fun vs H Q E h=>absurd h (no vs H Q E),fun A outer s H args us vs Q E _ _ _ _ h=>absurd h (no vs H Q E)⟩
theorem zpv{H:Hp}{x z:Str}:q3w K (.str x) (.str z) H (decide (x=z)):=.inl ⟨rfl,by simp⟩
theorem zwm{t:T} (h:t.word = "num"):∃i,t=.num i:=by
 cases t with
 | num i=>exact⟨i,rfl⟩
 | nm x=>exact absurd h (show ¬ ("name" : Str) = "num" by decide+kernel)
 | op w a b=>exact absurd h (show ¬ w.str = "num" by cases w<;>decide+kernel)
theorem ztg{t:T} (h:t.word = "name"):∃x,t=.nm x:=by
 cases t with
 | num i=>exact absurd h (show ¬ ("num" : Str) = "name" by decide+kernel)
 | nm x=>exact⟨x,rfl⟩
 | op w a b=>exact absurd h (show ¬ w.str = "name" by cases w<;>decide+kernel)
theorem zz2{t:T} (h1:¬ t.word = "num") (h2:¬ t.word = "name"):∃w a b,t=.op w a b:=by
 cases t with
 | num i=>exact absurd rfl h1
 | nm x=>exact absurd rfl h2
 | op w a b=>exact⟨w,a,b,rfl⟩
theorem zgd{H:Hp}{v:V}{r:Rs}(h:Dt H v r.enc):∃a,v=.ref a/\((∃i,r=.had i/\H a=some (.tup [.str "had",.int i]))\/∃u q y,r=.ref u q/\H a=some (.tup [.str "refused",.str u,y])):=by
 cases r with
 | had i=>
  rw [Rs.enc] at h
  obtain⟨a,x0,x1,rfl,ha,t0,t1⟩:=zob h
  cases t0; cases t1
  exact⟨a,rfl,.inl ⟨i,rfl,ha⟩⟩
 | ref u q=>
  rw [Rs.enc] at h
  obtain⟨a,x0,x1,x2,rfl,ha,t0,t1,t2⟩:=ztb h
  cases t0; cases t1
  exact⟨a,rfl,.inr ⟨u,q,x2,rfl,ha⟩⟩
theorem z9r:¬ ("had" : Str) = "refused":=by decide+kernel
theorem zuk{n:Nat} (F:Fun K "reckon" "reckon" z3k f fd) (c_worth_of:Callee P w K mg base "worth_of" ["word","one","other"] 1 zoo) (c_settled:Callee P w K mg base "settled" ["worth","path","rows"] 1 z63) (c_reckon:Callee P w K mg base "reckon" ["term","path","names","settle"] (n+2) (z7a n)):FnOk P w K mg base CX0 (n+3) f fd ["term","path","names","settle"] (z7a (n+1)):=by
 refine F.ok sc_reckon (fun vs H Q E h=>?_) (fun cdv A outer s H vs Q E hr h=>?_)
 ·obtain⟨v,t,pv,p,d,f,c,g,lo,rfl,_⟩:=h
  rfl
 obtain⟨v,t,pv,p,d,fs,c,g,lo,rfl,hv,hp,hok,hn,hpl,hd,hh,hS,hL,q⟩:=h
 obtain⟨va,y,tx,rfl,hva⟩:=zwp hv
 refine⟨_,(z03 (z2g (z0f (gEq hr.units) (z0z z0p (z00 (i:=0) rfl z2m z65 z67) z02 (fun _ _=>rfl)) z0i (z0m _)) (z07 (z0h (zhc (i:=3) (k:=2) rfl z39 hr (by omega) (z06 (z0z z0p (z00 (i:=0) rfl z2m z65 z67) z02 (fun _ _=>rfl)) (z06 (z00 (i:=1) rfl z3z z1o z1p) pa_nil)) z2d z2e))) z0l)
 (z03 (z2g (z0f (gEq hr.units) (z0z z0p (z00 (i:=0) rfl z2m z65 z67) z02 (fun _ _=>rfl)) z0i (z0m _)) (z07 (z0h (zhc (i:=3) (k:=2) rfl z39 hr (by omega) (z06 (zzv hr.units1 (z00 (i:=2) rfl z71 z2a z2b) (z0z z0p (z00 (i:=0) rfl z2m z65 z67) z02 (fun _ _=>rfl)) (fun _ _=>rfl)) (z06 (z00 (i:=1) rfl z3z z1o z1p) pa_nil)) z2d z2e))) z0l)
 (z03 (z18 (i:=4) sc_reckon.nd rfl zji (z1n c_reckon hr (by omega) (z06 (z0z z0p (z00 (i:=0) rfl z2m z65 z67) z02 (fun _ _=>rfl)) (z06 (z0o z3x (z00 (i:=1) rfl z3z z1o z1p) (z11 (z06 z02 pa_nil))) (z06 (z00 (i:=2) rfl z71 z2a z2b) (z06 (z00 (i:=3) rfl z39 z2d z2e) pa_nil)))) zbb zch) (z05 rfl))
 (z03 (z2g (z0f (gEq hr.units) (z0z z0p (z00 (i:=4) rfl z8k zci zcm) z02 (fun _ _=>rfl)) z0i (z0m _)) (z07 (z0h (z00 (i:=4) rfl z8k zci zcm))) z0l)
 (z03 (z18 (i:=5) sc_reckon.nd rfl zgy (z1n c_reckon hr (by omega) (z06 (z0z z0p (z00 (i:=0) rfl z2m z65 z67) z02 (fun _ _=>rfl)) (z06 (z0o z3x (z00 (i:=1) rfl z3z z1o z1p) (z11 (z06 z02 pa_nil))) (z06 (z00 (i:=2) rfl z71 z2a z2b) (z06 (z00 (i:=3) rfl z39 z2d z2e) pa_nil)))) zbb zch) (z05 rfl))
 (z03 (z2g (z0f (gEq hr.units) (z0z z0p (z00 (i:=5) rfl z5l z5m z5n) z02 (fun _ _=>rfl)) z0i (z0m _)) (z07 (z0h (z00 (i:=5) rfl z5l z5m z5n))) z0l)
 (z03 (z2g (PW.pt (zu2 (z0f (gEq hr.units) (z0z z0p (z00 (i:=0) rfl z2m z65 z67) z02 (fun _ _=>rfl)) z0i (z0m _)) (zp2 (z0f zdj (z0z z0p (z00 (i:=5) rfl z5l z5m z5n) z02 (fun _ _=>rfl)) z02 (z0m _))))) (z07 (z0h (zhc (i:=3) (k:=2) rfl z39 hr (by omega) (z06 zdi (z06 (z00 (i:=1) rfl z3z z1o z1p) pa_nil)) z2d z2e))) z0l)
 (z07 (z0h (zhc (i:=3) (k:=2) rfl z39 hr (by omega) (z06 (z1n c_worth_of hr (by omega) (z06 (z0z z0p (z00 (i:=0) rfl z2m z65 z67) z02 (fun _ _=>rfl)) (z06 (z0z z0p (z00 (i:=4) rfl z8k zci zcm) z02 (fun _ _=>rfl)) (z06 (z0z z0p (z00 (i:=5) rfl z5l z5m z5n) z02 (fun _ _=>rfl)) pa_nil))) zew zpy) (z06 (z00 (i:=1) rfl z3z z1o z1p) pa_nil)) z2d z2e)))))))))),z0g fun N1 e1=>?_⟩
 walk_at "rd7"
 refine⟨_,SqT.of hva,_,z1w,_,zpv,?_⟩
 split
 ·rename_i hw
  obtain⟨i,rfl⟩:=zwm (of_decide_eq_true hw)
  rw [T.enc] at hv
  obtain⟨a2,x0,x1,ea,ha2,t0,t1⟩:=zob hv
  cases ea
  cases t1
  rw [ha2] at hva
  cases hva
  rw [evT] at hL q
  refine⟨hS.lam,_,SqT.of ha2,_,z1i (j:=1) rfl,hS.lam,?_⟩
  exact zfv c_settled hS (hL.mono (by simp)) hp q
 rename_i hw1
 rw [e1]
 refine z0g fun N2 e2=>?_
 walk_at "rd7"
 refine⟨_,SqT.of hva,_,z1w,_,zpv,?_⟩
 split
 ·rename_i hw
  obtain⟨x,rfl⟩:=ztg (of_decide_eq_true hw)
  rw [T.enc] at hv
  obtain⟨a2,x0,x1,ea,ha2,t0,t1⟩:=zob hv
  cases ea
  cases t1
  rw [ha2] at hva
  cases hva
  rw [evT] at hL q
  obtain⟨w,hw2,_⟩:=hh x hok
  rw [hw2] at hL q
  have hg:DGet H d (.str x) (some (.int w)):=by
   have:=DGet.k (k:=Sum.inr x) hd
   rw [zy5,hw2] at this
   exact this
  refine⟨hS.lam,_,SqT.of ha2,_,z1i (j:=1) rfl,_,hg,hS.lam,?_⟩
  exact zfv c_settled hS (hL.mono (by simp)) hp q
 rename_i hw2
 obtain⟨wd,ta,tb,rfl⟩:=zz2 (fun z=>hw1 (decide_eq_true z)) fun z=>hw2 (decide_eq_true z)
 rw [e2]
 refine z0g fun N3 e3=>?_
 walk_at "rd7"
 have hv0:=hv
 rw [T.enc] at hv
 obtain⟨a2,x0,xa,xb,ea,ha2,t0,da,db⟩:=ztb hv
 cases ea
 cases t0
 clear hva
 refine⟨_,SqT.of ha2,_,z1i (j:=1) rfl,by decide,fun p1 h1=>?_⟩
 have s1:=z04 h1 (HO.tup [V.int 0])
 refine zrl (hp.kp s1.kp) zem (by simp; omega) fun z H1 s2 dz=>?_
 have s12:=s1.trans s2
 have l1:=q02 c wd ta tb p
 refine⟨xa,ta,z,_,d,fs,c,g,lo,rfl,da.kp s12.kp,dz,hok.1,by omega,by simp; omega,s12 _ _ hd,hh,hS.kp (Same.kpE s12),(hL.same s12).mono (by omega),fun r1 H2 g1 dr1=>?_⟩
 have G1:Gr lo H H2 (evT c ta (p++[0])).2:=(Gr.same s12 hL).trans g1
 clear g1 s1 s2 s12
 obtain⟨b1,rfl,hb1⟩:=zgd dr1
 rcases he1:evT c ta (p++[0]) with⟨r1,w1⟩
 rw [he1] at G1 dr1 hb1
 rw [e3]
 refine z0g fun N4 e4=>?_
 walk_at "rd7"
 rcases hb1 with⟨i1,rfl,hb1⟩ | ⟨u,qq,y1,rfl,hb1⟩
 rotate_left
 ·refine⟨_,SqT.of hb1,_,z1w,_,zpv,?_⟩
  rw [if_pos (decide_eq_true rfl)]
  rw [zyo he1] at q
  exact q _ _ G1 dr1
 refine⟨_,SqT.of hb1,_,z1w,_,zpv,?_⟩
 rw [if_neg (by rw [decide_eq_true_eq]; exact z9r)]
 have ha3:=G1.keep ha2 (by intro xs z; cases z)
 have hd3:=G1.keep hd (by intro xs z; cases z)
 have hp3:=hp.kp G1.kp
 have db3:=db.kp G1.kp
 have hS3:=hS.kp G1.kpE
 have l2:=q01 (w:=wd) (b:=tb) he1
 have hL3:HasL lo H2 ((evT c tb (p++[1])).2.length+1):=hL.on G1 (by show w1.length+_<=_; omega)
 rw [e4]
 refine z0g fun N5 e5=>?_
 walk_at "rd7"
 refine⟨_,SqT.of ha3,_,z1i (j:=2) rfl,by decide,fun p2 h2=>?_⟩
 have s3:=z04 h2 (HO.tup [V.int 1])
 refine zrl (hp3.kp s3.kp) zem (by simp; omega) fun z2 H3 s4 dz2=>?_
 have s34:=s3.trans s4
 refine⟨xb,tb,z2,_,d,fs,c,g,lo,rfl,db3.kp s34.kp,dz2,hok.2,by omega,by simp; omega,s34 _ _ hd3,hh,hS3.kp (Same.kpE s34),hL3.same s34,fun r2 H4 g2 dr2=>?_⟩
 have G2:Gr lo H2 H4 (evT c tb (p++[1])).2:=(Gr.same s34 hL3).trans g2
 clear g2 s3 s4 s34
 obtain⟨b2,rfl,hb2⟩:=zgd dr2
 rcases he2:evT c tb (p++[1]) with⟨r2,w2⟩
 rw [he2] at G2 dr2 hb2 hL3
 have hb14:=G2.keep hb1 (by intro xs z; cases z)
 have ha4:=G2.keep ha3 (by intro xs z; cases z)
 have hp4:=hp3.kp G2.kp
 have hS4:=hS3.kp G2.kpE
 have G12:=G1.trans G2
 rw [e5]
 refine z0g fun N6 e6=>?_
 walk_at "rd7"
 rcases hb2 with⟨i2,rfl,hb2⟩ | ⟨u,qq,y1,rfl,hb2⟩
 rotate_left
 ·refine⟨_,SqT.of hb2,_,z1w,_,zpv,?_⟩
  rw [if_pos (decide_eq_true rfl)]
  rw [zpc he1 he2] at q
  exact q _ _ G12 dr2
 refine⟨_,SqT.of hb2,_,z1w,_,zpv,?_⟩
 rw [if_neg (by rw [decide_eq_true_eq]; exact z9r)]
 have hL4:HasL lo H4 1:=hL3.on G2 (Nat.le_refl _)
 have hw2:=zvh tb (p++[1]) he2
 rw [e6]
 refine z0g fun N7 e7=>?_
 walk_at "rd7"
 refine⟨_,SqT.of ha4,_,z1w,_,zpv,?_⟩
 have last:(wd=.quo->i2≠0)->N7 [some (V.ref va),some pv,some (V.ref d),some (V.ref fs),some (V.ref b1),some (V.ref b2)] H4:=fun hq=>by
  rw [e7]
  walk_at "rd7"
  rw [zue he1 he2 (fun z=>hq z.1 z.2)] at q
  refine⟨hS4.lam,_,SqT.of ha4,_,z1w,_,SqT.of hb14,_,z1i (j:=1) rfl,_,SqT.of hb2,_,z1i (j:=1) rfl,wd,i1,i2,rfl,hq,by omega,?_⟩
  refine⟨hS4.lam,zfv c_settled hS4 hL4 hp4 fun r H' g dr=>q r H' (G12.trans g) dr⟩
 split
 ·rename_i hq
  have hq':wd=.quo:=by
   have:=of_decide_eq_true hq
   cases wd<;>first | rfl | exact absurd this (by decide+kernel)
  subst hq'
  refine⟨_,SqT.of hb2,_,z1i (j:=1) rfl,_,rfl,?_⟩
  split
  ·rename_i hz
   subst hz
   rw [zpb he1 he2] at q
   refine⟨hS4.lam,hS4.lam,zor c_settled hS4 hL4 hp4 fun r H' g dr=>q r H' ?_ dr⟩
   have:=G12.trans g
   rw [List.append_nil] at this
   exact this
  ·rename_i hz
   exact last fun _=>hz
 ·rename_i hq
  exact last fun z=>absurd (decide_eq_true (by rw [z]; rfl)) hq
theorem zkf(d:Df K mg "reckon" z3k ["term","path","names","settle"] f fd) (c_worth_of:Callee P w K mg base "worth_of" ["word","one","other"] 1 zoo) (c_settled:Callee P w K mg base "settled" ["worth","path","rows"] 1 z63):∀n:Nat,Callee P w K mg base "reckon" ["term","path","names","settle"] (n+2) (z7a n)
 | 0=>d.callee zpm
 | n+1=>d.callee (zuk d.F c_worth_of c_settled (zkf d c_worth_of c_settled n))
end
section
variable{P:Program}{w:World}{K:PySem.W.Frag}{mg:Str->Option Value}{base:Heap}{f:Addr}{fd:FuncData}
def Gd(d:Addr)(lo:Option Addr)(H H':Hp)(rs:List RI):Prop:=(∀a o,a≠d->some a≠lo->H a=some o->H' a=some o)/\∀l,lo=some l->∃xs ys,H l=some (.lst xs)/\H' l=some (.lst (xs++ys))/\DtA H' ys (rs.map rowI)
theorem Gr.gd{d:Addr}{lo:Option Addr}{H H':Hp}{rs:List RI}(h:Gr lo H H' rs):Gd d lo H H' rs:=⟨fun a o _ n e=>h.1 a o n e,h.2⟩
theorem Gd.keep{d:Addr}{lo:Option Addr}{H H':Hp}{rs:List RI}{k:List (Key×V)}(h:Gd d lo H H' rs)(hd:H d=some (.dK k)){a:Addr}{o:HO}(e:H a=some o)(n1:∀xs,o≠.lst xs)(n2:∀k,o≠.dK k):H' a=some o:=h.1 a o (fun z=>by
 rw [z,hd] at e
 cases e
 exact n2 _ rfl) (fun z=>by
 obtain⟨xs,ys,e1,_⟩:=h.2 a z.symm
 rw [e1] at e
 cases e
 exact n1 _ rfl) e
theorem Gd.kp{d:Addr}{lo:Option Addr}{H H':Hp}{rs:List RI}{k:List (Key×V)}(h:Gd d lo H H' rs)(hd:H d=some (.dK k)):Kp H H':=by
 refine⟨fun b xs e=>h.keep hd e (fun _ z=>by cases z) (fun _ z=>by cases z),fun b xs e=>?_⟩
 by_cases hb:some b=lo
 ·obtain⟨xs',ys,e1,e2,_⟩:=h.2 b hb.symm
  exact⟨_,e2⟩
 ·exact⟨xs,h.1 b _ (fun z=>by rw [z,hd] at e; cases e) hb e⟩
theorem Gd.kpE{d:Addr}{lo:Option Addr}{H H':Hp}{rs:List RI}{k:List (Key×V)}(h:Gd d lo H H' rs)(hd:H d=some (.dK k)):KpE H H':=fun a φ e=>h.keep hd e (fun _ z=>by cases z) fun _ z=>by cases z
theorem Gd.trans{d:Addr}{lo:Option Addr}{H H1 H2:Hp}{r1 r2:List RI}{k:List (Key×V)}(a:Gd d lo H H1 r1)(b:Gd d lo H1 H2 r2)(hd:H1 d=some (.dK k)):Gd d lo H H2 (r1++r2):=by
 refine⟨fun x o n1 n2 e=>b.1 x o n1 n2 (a.1 x o n1 n2 e),fun l hl=>?_⟩
 obtain⟨xs,ys,e1,e2,d1⟩:=a.2 l hl
 obtain⟨xs',zs,f1,f2,d2⟩:=b.2 l hl
 rw [e2] at f1
 cases f1
 exact⟨xs,ys++zs,e1,by rw [f2,List.append_assoc],by rw [List.map_append]; exact(d1.kp (b.kp hd)).append d2⟩
theorem Gd.put{d:Addr}{lo:Option Addr}{H H':Hp}{rs:List RI}{k:List (Key×V)}{e:List (Key×V)}(h:Gr lo H H' rs)(hd:H' d=some (.dK k)):Gd d lo H (upd H' d (.dK e)) rs:=by
 refine⟨fun a o n1 n2 z=>by rw [z0a n1]; exact h.1 a o n2 z,fun l hl=>?_⟩
 obtain⟨xs,ys,e1,e2,d1⟩:=h.2 l hl
 exact⟨xs,ys,e1,by rw [z0a fun z=>by rw [z,hd] at e2; cases e2]; exact e2,d1.kp (q0b hd)⟩
theorem HasL.onD{d:Addr}{lo:Option Addr}{H H':Hp}{rs:List RI}{n m:Nat}(h:HasL lo H n)(g:Gd d lo H H' rs)(k:rs.length+m<=n):HasL lo H' m:=fun l hl=>by
 obtain⟨xs,e,z⟩:=h l hl
 obtain⟨xs',ys,e1,e2,d⟩:=g.2 l hl
 rw [e] at e1
 cases e1
 have:=d.length
 rw [List.length_map] at this
 exact⟨_,e2,by rw [List.length_append]; omega⟩
def KeyOk(c:Cnt):Prop:=(c.map (·.1)).Nodup/\∀p∈c,p.1∈pool
theorem KeyOk.put{c:Cnt}(h:KeyOk c){x:Str}(hx:x∈pool)(v:Int):KeyOk (zkv c x v):=by
 refine⟨?_,fun p hp=>?_⟩
 ·rw [zha]
  split
  ·exact h.1
  ·rename_i hn
   exact List.nodup_append.mpr ⟨h.1,by simp,fun a ha b hb e=>hn (by rw [List.mem_singleton] at hb; rw [<- hb,<- e]; exact ha)⟩
 ·have hm:p.1∈(zkv c x v).map (·.1):=List.mem_map.mpr ⟨p,hp,rfl⟩
  rw [zha] at hm
  split at hm
  ·obtain⟨q,hq,e⟩:=List.mem_map.mp hm
   rw [<- e]; exact h.2 q hq
  ·rcases List.mem_append.mp hm with hm | hm
   ·obtain⟨q,hq,e⟩:=List.mem_map.mp hm
    rw [<- e]; exact h.2 q hq
   ·rw [List.mem_singleton] at hm
    rw [hm]; exact hx
theorem KeyOk.len{c:Cnt}(h:KeyOk c):c.length<=4:=by
 have:=zl6 (c.map (·.1)) pool h.1 fun x hx=>by
  obtain⟨q,hq,e⟩:=List.mem_map.mp hx
  rw [<- e]; exact h.2 q hq
 rw [List.length_map] at this
 exact this
theorem zlk:∀(c:Cnt) (x:Str) (v:Int),zgi (zkv c x v) x=some v:=by
 intro c x v
 unfold zkv
 split
 ·rename_i h
  induction c with
  | nil=>simp at h
  | cons p c ih=>
   by_cases e:p.1=x
   ·simp[zgi,e]
   ·have h':(c.any fun p=>decide (p.1=x))=true:=by simpa [e] using h
    have:=ih h'
    unfold zgi at this |-
    rw [List.map_cons,if_neg e,List.find?_cons]
    simpa [e] using this
 ·rename_i h
  have hn:∀p∈c,p.1≠x:=fun p hp e=>h (List.any_eq_true.mpr ⟨p,hp,decide_eq_true e⟩)
  unfold zgi
  rw [List.find?_append,List.find?_eq_none.mpr (fun p hp=>by simpa using hn p hp)]
  simp
theorem zpt:∀(c:Cnt) {x y:Str} (v:Int),y≠x->zgi (zkv c x v) y=zgi c y:=by
 intro c x y v hne
 unfold zkv
 split
 ·rename_i hany
  clear hany
  induction c with
  | nil=>rfl
  | cons p c ih=>
   unfold zgi at ih |-
   rw [List.map_cons,List.find?_cons,List.find?_cons]
   by_cases e:p.1=x
   ·rw [if_pos e]
    have:¬ p.1=y:=fun z=>hne (z.symm.trans e)
    simpa [this] using ih
   ·rw [if_neg e]
    by_cases e2:p.1=y
    ·simp[e2]
    ·simpa [e2] using ih
 ·unfold zgi
  rw [List.find?_append]
  cases hf:c.find? fun p=>decide (p.1=y) with
  | none=>simp[Ne.symm hne]
  | some q=>simp
theorem Has.put{c:Cnt}{g:List Str}(h:Has c g){x:Str}{v:Int}(h1 : -32768<=v)(h2:v<=32767):Has (zkv c x v) (g++[x]):=fun y hy=>by
 by_cases e:y=x
 ·rw [e,zlk]
  exact⟨v,rfl,h1,h2⟩
 ·rw [zpt c v e]
  rcases List.mem_append.mp hy with hy | hy
  ·exact h y hy
  ·exact absurd (List.mem_singleton.mp hy) e
theorem Has.sub{c:Cnt}{g g':List Str}(h:Has c g)(s:Sub g' g):Has c g':=fun x hx=>h x (s x hx)
theorem zeo{g:List Str}:∀{n:Nat} {t:T},T.ok pool n t->t.knows g=true->T.ok g n t
 | 0,_,h,_=>h.elim
 | n+1,.num i,h,_=>h
 | n+1,.nm x,h,k=>show x∈g by simpa [T.knows] using k
 | n+1,.op w a b,h,k=>by
  rw [T.knows,Bool.and_eq_true] at k
  exact⟨zeo h.1 k.1,zeo h.2 k.2⟩
mutual
theorem q0d:∀(d:D) (p q:List Str),kbD p d=some q->Sub p q
 | .set x t,p,q,h=>by
  rw [kbD] at h
  split at h
  ·cases h
   exact fun y hy=>List.mem_append_left _ hy
  ·cases h
 | .ite t b c,p,q,h=>by
  rw [kbD] at h
  split at h
  ·cases hb:kbB p b with
   | none=>rw [hb] at h; cases h
   | some q1=>
    cases hc:kbB p c with
    | none=>rw [hb,hc] at h; cases h
    | some q2=>
     rw [hb,hc] at h
     cases h
     exact fun y hy=>List.mem_filter.mpr ⟨zii b p q1 hb y hy,by simpa using zii c p q2 hc y hy⟩
  ·cases h
 | .whl t m b,p,q,h=>by
  rw [kbD] at h
  split at h
  ·cases hb:kbB p b with
   | none=>rw [hb] at h; cases h
   | some q1=>
    rw [hb] at h
    cases h
    exact Sub.refl p
  ·cases h
theorem zii:∀(b:List D) (p q:List Str),kbB p b=some q->Sub p q
 | [],p,q,h=>by
  rw [kbB] at h
  cases h
  exact Sub.refl p
 | d::r,p,q,h=>by
  rw [kbB] at h
  cases hd:kbD p d with
  | none=>rw [hd] at h; cases h
  | some q1=>
   rw [hd] at h
   exact(q0d d p q1 hd).trans (zii r q1 q h)
end
end
section
variable{P:Program}{w:World}{K:PySem.W.Frag}{mg:Str->Option Value}{base:Heap}{f:Addr}{fd:FuncData}
def q4d(o:Option Ref)(H':Hp)(r:V):Prop:=match o with
 | none=>r=.non
 | some e=>Dt H' r (Rs.ref e.1 e.2).enc
def zm8(n:Nat):Sp:=fun vs H Q _=>∃(v:V) (b:List D) (pv:V) (p:List Int) (d f:Addr) (c:Cnt) (g g':List Str) (lo:Option Addr),vs=[v,pv,.ref d,.ref f]/\Dt H v (.tup (encB b))/\Dt H pv (pathD p)/\okW n b/\n<=4/\p.length+2 * n<=90/\kbB g b=some g'/\H d=some (.dK (kvC c))/\KeyOk c/\Has c g/\SetOk f lo H/\HasL lo H ((evB p 0 b c).2.2.length+1)/\
 ∀(r:V) (H':Hp),Gd d lo H H' (evB p 0 b c).2.2->H' d=some (.dK (kvC (evB p 0 b c).2.1))->q4d (evB p 0 b c).1 H' r->Q r H'
def zm7(ks:List Str)(n:Nat):Sp:=fun vs H Q _=>∃(v:V) (e:D) (pv:V) (p:List Int) (d f:Addr) (c:Cnt) (g g':List Str) (lo:Option Addr),vs=[v,pv,.ref d,.ref f]/\e.kind∈ks/\Dt H v e.enc/\Dt H pv (pathD p)/\q4w n e/\n<=3/\p.length+2 * n<=89/\kbD g e=some g'/\H d=some (.dK (kvC c))/\KeyOk c/\Has c g/\SetOk f lo H/\HasL lo H ((evD p e c).2.2.length+1)/\
 ∀(r:V) (H':Hp),Gd d lo H H' (evD p e c).2.2->H' d=some (.dK (kvC (evD p e c).2.1))->q4d (evD p e c).1 H' r->Q r H'
theorem zkp{c:Cnt}{x:Str}{t:T}{p:List Int}{u:Str}{q:List Int}{r:List RI}(h:evT c t (p++[0])=(.ref u q,r)):evD p (.set x t) c=(some (u,q),c,r):=by rw [evD,h]
theorem zkq{c:Cnt}{x:Str}{t:T}{p:List Int}{v:Int}{r:List RI}(h:evT c t (p++[0])=(.had v,r)):evD p (.set x t) c=(none,zkv c x v,r):=by rw [evD,h]
theorem zzg(c:Cnt)(x:Str)(t:T)(p:List Int):(evD p (.set x t) c).2.2=(evT c t (p++[0])).2:=by
 rcases h:evT c t (p++[0]) with⟨r,w⟩
 cases r with
 | had v=>rw [zkq h]
 | ref u q=>rw [zkp h]
theorem zle{c:Cnt}{t:T}{b b2:List D}{p:List Int}{u:Str}{q:List Int}{r:List RI}(h:evT c t (p++[0])=(.ref u q,r)):evD p (.ite t b b2) c=(some (u,q),c,r):=by rw [evD,h]
theorem zld{c:Cnt}{t:T}{b b2:List D}{p:List Int}{v:Int}{r:List RI}(h:evT c t (p++[0])=(.had v,r))(hv:v≠0):evD p (.ite t b b2) c=((evB (p++[1]) 0 b c).1,(evB (p++[1]) 0 b c).2.1,r++(evB (p++[1]) 0 b c).2.2):=by rw [evD,h]; simp[hv]
theorem zqx{c:Cnt}{t:T}{b b2:List D}{p:List Int}{r:List RI}(h:evT c t (p++[0])=(.had 0,r)):evD p (.ite t b b2) c=((evB (p++[2]) 0 b2 c).1,(evB (p++[2]) 0 b2 c).2.1,r++(evB (p++[2]) 0 b2 c).2.2):=by rw [evD,h]; simp
theorem q0f(c:Cnt)(t:T)(b b2:List D)(p:List Int):(evT c t (p++[0])).2.length<=(evD p (.ite t b b2) c).2.2.length:=by
 rcases h:evT c t (p++[0]) with⟨r,w⟩
 cases r with
 | ref u q=>rw [zle h]; exact Nat.le_refl _
 | had v=>
  by_cases hv:v=0
  ·subst hv
   rw [zqx h]
   simp
  ·rw [zld h hv]
   simp
theorem zv2{g g':List Str}{t:T}{b b2:List D}(h:kbD g (.ite t b b2)=some g'):t.knows g=true/\(∃q,kbB g b=some q)/\∃q,kbB g b2=some q:=by
 rw [kbD] at h
 split at h
 ·rename_i hk
  cases hb:kbB g b with
  | none=>rw [hb] at h; cases h
  | some q1=>
   cases hc:kbB g b2 with
   | none=>rw [hb,hc] at h; cases h
   | some q2=>exact⟨hk,⟨q1,rfl⟩,q2,rfl⟩
 ·cases h
theorem zyu{g g':List Str}{t:T}{m:Int}{b:List D}(h:kbD g (.whl t m b)=some g'):t.knows g=true/\g'=g/\∃q,kbB g b=some q:=by
 rw [kbD] at h
 split at h
 ·rename_i hk
  cases hb:kbB g b with
  | none=>rw [hb] at h; cases h
  | some q1=>
   rw [hb] at h
   cases h
   exact⟨hk,rfl,q1,rfl⟩
 ·cases h
theorem zxf{cond:Cnt->Rs×List RI}{body:Cnt->Out}{p:List Int}(Pv:Cnt->Prop)(hb:∀c,Pv c->Pv (body c).2.1):∀(k:Nat) (c:Cnt),Pv c->Pv (z6h cond body p k c).2.1:=by
 intro k
 induction k with
 | zero=>
  intro c h
  rw [z6h]
  rcases cond c with⟨r,w⟩
  cases r with
  | ref u q=>exact h
  | had v=>by_cases hv:v=0<;>simp[hv,h]
 | succ k ih=>
  intro c h
  rw [z6h]
  rcases cond c with⟨r,w⟩
  cases r with
  | ref u q=>exact h
  | had v=>
   by_cases hv:v=0
   ·simp[hv,h]
   ·have h1:=hb c h
    rcases hbc:body c with⟨e,c1,r1⟩
    rw [hbc] at h1
    cases e with
    | some e=>simp[hv,hbc,h1]
    | none=>
     have h2:=ih c1 h1
     simp only[hv,if_false,hbc]
     exact h2
theorem zur{cond:Cnt->Rs×List RI}{body:Cnt->Out}{p:List Int}(Pv:Cnt->Prop)(hb:∀c,Pv c->(body c).1=none->Pv (body c).2.1):∀(k:Nat) (c:Cnt),Pv c->(z6h cond body p k c).1=none->Pv (z6h cond body p k c).2.1:=by
 intro k
 induction k with
 | zero=>
  intro c h
  rw [z6h]
  rcases cond c with⟨r,w⟩
  cases r with
  | ref u q=>exact fun _=>h
  | had v=>by_cases hv:v=0<;>simp[hv,h]
 | succ k ih=>
  intro c h
  rw [z6h]
  rcases cond c with⟨r,w⟩
  cases r with
  | ref u q=>exact fun _=>h
  | had v=>
   by_cases hv:v=0
   ·simp[hv,h]
   ·have h1:=hb c h
    rcases hbc:body c with⟨e,c1,r1⟩
    rw [hbc] at h1
    cases e with
    | some e=>simp[hv,hbc]
    | none=>
     have h2:=ih c1 (h1 rfl)
     simp only[hv,if_false,hbc]
     exact h2
mutual
theorem zvi:∀(e:D) (n:Nat) (p:List Int) (c:Cnt),q4w n e->KeyOk c->KeyOk (evD p e c).2.1
 | .set x t,n,p,c,h,k=>by
  rcases he:evT c t (p++[0]) with⟨r,w⟩
  cases r with
  | ref u q=>rw [zkp he]; exact k
  | had v=>rw [zkq he]; exact k.put h.1 v
 | .ite t b b2,n,p,c,h,k=>by
  rcases he:evT c t (p++[0]) with⟨r,w⟩
  cases r with
  | ref u q=>rw [zle he]; exact k
  | had v=>
   by_cases hv:v=0
   ·subst hv
    rw [zqx he]
    exact zg5 b2 n (p++[2]) 0 c h.2.2 k
   ·rw [zld he hv]
    exact zg5 b n (p++[1]) 0 c h.2.1 k
 | .whl t m b,n,p,c,h,k=>by
  rw [evD]
  exact zxf KeyOk (fun c1 k1=>zg5 b n (p++[1]) 0 c1 h.2 k1) _ c k
theorem zg5:∀(b:List D) (n:Nat) (p:List Int) (i:Int) (c:Cnt),okW n b->KeyOk c->KeyOk (evB p i b c).2.1
 | [],n,p,i,c,h,k=>by rw [evB]; exact k
 | e::r,0,p,i,c,h,k=>h.elim
 | e::r,n+1,p,i,c,h,k=>by
  have h1:=zvi e n (p++[i]) c (h.2 e (.head _)) k
  rw [evB]
  rcases he:evD (p++[i]) e c with⟨o,c1,w⟩
  rw [he] at h1
  cases o with
  | some u=>exact h1
  | none=>exact zg5 r (n+1) p (i+1) c1 ⟨by have:=h.1; rw [List.length_cons] at this; omega,fun d hd=>h.2 d (.tail _ hd)⟩ h1
end
mutual
theorem zvj:∀(e:D) (p:List Int) (c:Cnt) (g g':List Str),kbD g e=some g'->Has c g->(evD p e c).1=none->Has (evD p e c).2.1 g'
 | .set x t,p,c,g,g',hk,h=>by
  rcases he:evT c t (p++[0]) with⟨r,w⟩
  cases r with
  | ref u q=>rw [zkp he]; exact fun z=>by cases z
  | had v=>
   rw [zkq he]
   intro _
   rw [kbD] at hk
   split at hk
   ·cases hk
    have:=zvh t (p++[0]) he
    exact h.put this.1 this.2
   ·cases hk
 | .ite t b b2,p,c,g,g',hk,h=>by
  rcases he:evT c t (p++[0]) with⟨r,w⟩
  cases r with
  | ref u q=>rw [zle he]; exact fun z=>by cases z
  | had v=>
   obtain⟨_,⟨q1,h1⟩,q2,h2⟩:=zv2 hk
   have sub:Sub g' q1/\Sub g' q2:=by
    have hkt:=(zv2 hk).1
    rw [kbD,if_pos hkt,h1,h2] at hk
    cases hk
    exact⟨fun x hx=>(List.mem_filter.mp hx).1,fun x hx=>by simpa using(List.mem_filter.mp hx).2⟩
   by_cases hv:v=0
   ·subst hv
    rw [zqx he]
    exact fun z=>(zis b2 (p++[2]) 0 c g q2 h2 h z).sub sub.2
   ·rw [zld he hv]
    exact fun z=>(zis b (p++[1]) 0 c g q1 h1 h z).sub sub.1
 | .whl t m b,p,c,g,g',hk,h=>by
  obtain⟨_,rfl,q1,h1⟩:=zyu hk
  rw [evD]
  exact zur (fun c=>Has c g') (fun c1 k1 z=>(zis b (p++[1]) 0 c1 g' q1 h1 k1 z).sub (zii b g' q1 h1)) _ c h
theorem zis:∀(b:List D) (p:List Int) (i:Int) (c:Cnt) (g g':List Str),kbB g b=some g'->Has c g->(evB p i b c).1=none->Has (evB p i b c).2.1 g'
 | [],p,i,c,g,g',hk,h=>by
  rw [kbB] at hk
  cases hk
  rw [evB]
  exact fun _=>h
 | e::r,p,i,c,g,g',hk,h=>by
  rw [kbB] at hk
  cases hd:kbD g e with
  | none=>rw [hd] at hk; cases hk
  | some q1=>
   rw [hd] at hk
   have h1:=zvj e (p++[i]) c g q1 hd h
   rw [evB]
   rcases he:evD (p++[i]) e c with⟨o,c1,w⟩
   rw [he] at h1
   cases o with
   | some u=>exact fun z=>by cases z
   | none=>exact zis r p (i+1) c1 q1 g' hk (h1 rfl)
end
def zrn(rs:List RI)(o:Out):Out:=(o.1,o.2.1,rs++o.2.2)
theorem zqu{cond:Cnt->Rs×List RI}{body:Cnt->Out}{p:List Int}{k:Nat}{c:Cnt}{u:Str}{q:List Int}{r:List RI}(h:cond c=(.ref u q,r)):z6h cond body p k c=(some (u,q),c,r):=by
 cases k<;>rw [z6h,h]
theorem zmz{cond:Cnt->Rs×List RI}{body:Cnt->Out}{p:List Int}{k:Nat}{c:Cnt}{r:List RI}(h:cond c=(.had 0,r)):z6h cond body p k c=(none,c,r):=by
 cases k<;>rw [z6h,h]<;>simp
theorem zn0{cond:Cnt->Rs×List RI}{body:Cnt->Out}{p:List Int}{c:Cnt}{v:Int}{r:List RI}(h:cond c=(.had v,r))(hv:v≠0):z6h cond body p 0 c=((some (("long" : Str),p),c,r):Out):=by
 rw [z6h,h]
 simp[hv]
theorem zi9{cond:Cnt->Rs×List RI}{body:Cnt->Out}{p:List Int}{k:Nat}{c c1:Cnt}{v:Int}{r r1:List RI}{e:Ref}(h:cond c=(.had v,r))(hv:v≠0)(hb:body c=(some e,c1,r1)):z6h cond body p (k+1) c=(some e,c1,r++r1):=by
 rw [z6h,h]
 simp[hv,hb]
theorem zia{cond:Cnt->Rs×List RI}{body:Cnt->Out}{p:List Int}{k:Nat}{c c1:Cnt}{v:Int}{r r1:List RI}(h:cond c=(.had v,r))(hv:v≠0)(hb:body c=(none,c1,r1)):z6h cond body p (k+1) c=zrn (r++r1) (z6h cond body p k c1):=by
 rw [z6h,h]
 simp[hv,hb,zrn]
def WhI(H:Hp)(va:Addr)(pv:V)(d fs:Addr)(lo:Option Addr)(g:List Str)(t:T)(b:List D)(p:List Int)(M:Nat)(out:Out)(k:Nat)(σ : St)(Hc:Hp):Prop:=∃(j:Nat) (cj:Cnt) (rs:List RI) (x5 x6:Option V),σ = [some (.ref va),some pv,some (.ref d),some (.ref fs),some (.int j),x5,x6]/\j+k=M/\Gd d lo H Hc rs/\Hc d=some (.dK (kvC cj))/\KeyOk cj/\Has cj g/\out=zrn rs (z6h (fun c=>evT c t (p++[0])) (fun c=>evB (p++[1]) 0 b c) p k cj)
theorem zut(cond:Cnt->Rs×List RI)(body:Cnt->Out)(p:List Int)(k:Nat)(c:Cnt):(cond c).2.length<=(z6h cond body p k c).2.2.length:=by
 rcases h:cond c with⟨r,w⟩
 cases r with
 | ref u q=>rw [zqu h]; exact Nat.le_refl _
 | had v=>
  by_cases hv:v=0
  ·subst hv
   rw [zmz h]; exact Nat.le_refl _
  ·cases k with
   | zero=>rw [zn0 h hv]; exact Nat.le_refl _
   | succ k=>
    rcases hb:body c with⟨e,c1,r1⟩
    cases e with
    | some e=>rw [zi9 h hv hb]; simp
    | none=>rw [zia h hv hb]; simp only[zrn,List.length_append]; omega
theorem zus{cond:Cnt->Rs×List RI}{body:Cnt->Out}{p:List Int}{k:Nat}{c:Cnt}{v:Int}{r:List RI}(h:cond c=(.had v,r))(hv:v≠0):r.length+(body c).2.2.length<=(z6h cond body p (k+1) c).2.2.length:=by
 rcases hb:body c with⟨e,c1,r1⟩
 cases e with
 | some e=>rw [zi9 h hv hb]; simp
 | none=>rw [zia h hv hb]; simp only[zrn,List.length_append]; omega
theorem zr5{p:List Int}{k:Int}{e:D}{r:List D}{c c1:Cnt}{u:Ref}{w:List RI}(h:evD (p++[k]) e c=(some u,c1,w)):evB p k (e::r) c=(some u,c1,w):=by rw [evB,h]
theorem zr6{p:List Int}{k:Int}{e:D}{r:List D}{c c1:Cnt}{w:List RI}(h:evD (p++[k]) e c=(none,c1,w)):evB p k (e::r) c=zrn w (evB p (k+1) r c1):=by rw [evB,h]; rfl
theorem q0p(p:List Int)(k:Int)(e:D)(r:List D)(c:Cnt):(evD (p++[k]) e c).2.2.length<=(evB p k (e::r) c).2.2.length:=by
 rcases h:evD (p++[k]) e c with⟨o,c1,w⟩
 cases o with
 | some u=>rw [zr5 h]; exact Nat.le_refl _
 | none=>rw [zr6 h]; simp[zrn]
theorem zxk{g g':List Str}{e:D}{r:List D}(h:kbB g (e::r)=some g'):∃q,kbD g e=some q/\kbB q r=some g':=by
 rw [kbB] at h
 cases hd:kbD g e with
 | none=>rw [hd] at h; cases h
 | some q=>rw [hd] at h; exact⟨q,rfl,h⟩
theorem zvm{α : Type}:∀{l:List α} {i:Nat} {x : α},l[i]?=some x->l.drop i=x::l.drop (i+1)
 | [],_,_,h=>by simp at h
 | a::l,0,x,h=>by simp at h; simp[h]
 | a::l,i+1,x,h=>by
  have:l[i]?=some x:=by simpa using h
  simpa using zvm this
def BkI(H:Hp)(ab:Addr)(pv:V)(d fs:Addr)(lo:Option Addr)(g':List Str)(b:List D)(p:List Int)(out:Out)(i:Nat)(σ : St)(Hc:Hp):Prop:=∃(ci:Cnt) (gi:List Str) (rs:List RI) (x4 x5 x6:Option V),σ = [some (.ref ab),some pv,some (.ref d),some (.ref fs),x4,x5,x6]/\Gd d lo H Hc rs/\Hc d=some (.dK (kvC ci))/\KeyOk ci/\Has ci gi/\kbB gi (b.drop i)=some g'/\out=zrn rs (evB p i (b.drop i) ci)
end
section
variable{P:Program}{w:World}{K:PySem.W.Frag}{mg:Str->Option Value}{base:Heap}{f:Addr}{fd:FuncData}
theorem zul{n:Nat} (F:Fun K "do_set" "do_set" z4l f fd) (c_reckon:Callee P w K mg base "reckon" ["term","path","names","settle"] 7 (z7a 5)):FnOk P w K mg base CX0 8 f fd ["deed","path","names","settle"] (zm7 ["set"] n):=by
 refine F.ok sc_do_set (fun vs H Q E h=>?_) (fun cdv A outer s H vs Q E hr h=>?_)
 ·obtain⟨v,e,pv,p,d,f,c,g,g',lo,rfl,_⟩:=h
  rfl
 obtain⟨v,e,pv,p,d,fs,c,g,g',lo,rfl,hk,hv,hp,hok,hn,hpl,hkb,hd,hky,hh,hS,hL,q⟩:=h
 obtain⟨x,t,rfl⟩:∃x t,e=.set x t:=by
  cases e with
  | set x t=>exact⟨x,t,rfl⟩
  | ite t b c=>exact absurd (List.mem_singleton.mp hk) (show ¬ ("if" : Str) = "set" by decide+kernel)
  | whl t m b=>exact absurd (List.mem_singleton.mp hk) (show ¬ ("while" : Str) = "set" by decide+kernel)
 rw [D.enc] at hv
 obtain⟨va,x0,x1,xt,rfl,hva,t0,t1,dt⟩:=ztb hv
 cases t0
 cases t1
 rw [kbD] at hkb
 have hkt:t.knows g=true:=by
  cases hz:t.knows g with
  | true=>rfl
  | false=>rw [hz] at hkb; cases hkb
 have hlen:=zzg c x t p
 refine⟨_,(z03 (z18 (i:=4) sc_do_set.nd rfl zjk (z1n c_reckon hr (by omega) (z06 (z0z z0p (z00 (i:=0) rfl zbt z2u z2w) z02 (fun _ _=>rfl)) (z06 (z0o z3x (z00 (i:=1) rfl zhi z1o z1p) (z11 (z06 z02 pa_nil))) (z06 (z00 (i:=2) rfl zb5 z2a z2b) (z06 (z00 (i:=3) rfl zfj z2d z2e) pa_nil)))) zh4 zch) (z05 rfl))
 (z03 (z2g (z0f (gEq hr.units) (z0z z0p (z00 (i:=4) rfl z8p zfa zff) z02 (fun _ _=>rfl)) z0i (z0m _)) (z07 (z0h (z00 (i:=4) rfl z8p zfa zff))) z0l)
 (z03 (zp4 hr.units1 (z00 (i:=2) rfl zb5 z2a z2b) (z0z z0p (z00 (i:=0) rfl zbt z2u z2w) z02 (fun _ _=>rfl)) (z0z z0p (z00 (i:=4) rfl z8p zfa zff) z02 (fun _ _=>rfl)) (z05 rfl))
 (z07 (z0h zdi))))),z0g fun N1 e1=>?_⟩
 walk_at "rd7"
 refine⟨_,SqT.of hva,_,z1i (j:=2) rfl,by decide,fun p1 h1=>?_⟩
 have s1:=z04 h1 (HO.tup [V.int 0])
 refine zrl (hp.kp s1.kp) zem (by simp; omega) fun z H1 s2 dz=>?_
 have s12:=s1.trans s2
 refine⟨xt,t,z,_,d,fs,c,g,lo,rfl,dt.kp s12.kp,dz,zeo hok.2 hkt,by decide,by simp; omega,s12 _ _ hd,hh,hS.kp (Same.kpE s12),by rw [<- hlen]; exact hL.same s12,fun r1 H2 g1 dr1=>?_⟩
 have G1:Gr lo H H2 (evT c t (p++[0])).2:=(Gr.same s12 hL).trans g1
 clear g1 s1 s2 s12
 have hd2:=G1.keep hd (by intro xs z; cases z)
 have hva2:=G1.keep hva (by intro xs z; cases z)
 obtain⟨b1,rfl,hb1⟩:=zgd dr1
 rcases he1:evT c t (p++[0]) with⟨r1,w1⟩
 rw [he1] at G1 dr1 hb1
 rw [e1]
 refine z0g fun N2 e2=>?_
 walk_at "rd7"
 rcases hb1 with⟨i1,rfl,hb1⟩ | ⟨u,qq,y1,rfl,hb1⟩
 rotate_left
 ·refine⟨_,SqT.of hb1,_,z1w,_,zpv,?_⟩
  rw [if_pos (decide_eq_true rfl)]
  rw [zkp he1] at q
  exact q _ _ G1.gd hd2 dr1
 refine⟨_,SqT.of hb1,_,z1w,_,zpv,?_⟩
 rw [if_neg (by rw [decide_eq_true_eq]; exact z9r)]
 rw [e2]
 walk_at "rd7"
 rw [zkq he1] at q
 refine⟨_,SqT.of hb1,_,z1i (j:=1) rfl,_,SqT.of hva2,_,z1i (j:=1) rfl,_,DPut.k (k:=Sum.inr x) hd2 ?_,?_⟩
 ·unfold kvC
  rw [List.length_map]
  exact Nat.lt_of_le_of_lt hky.len (by decide)
 ·exact q _ _ (Gd.put G1 hd2) (by rw [z01,zu3]) rfl
theorem zx7{n:Nat} (F:Fun K "do_if" "do_if" z5h f fd) (c_reckon:Callee P w K mg base "reckon" ["term","path","names","settle"] 7 (z7a 5)) (c_do_block:Callee P w K mg base "do_block" ["block","path","names","settle"] (3 * n+8) (zm8 n)):FnOk P w K mg base CX0 (3 * n+9) f fd ["deed","path","names","settle"] (zm7 ["if"] n):=by
 refine F.ok sc_do_if (fun vs H Q E h=>?_) (fun cdv A outer s H vs Q E hr h=>?_)
 ·obtain⟨v,e,pv,p,d,f,c,g,g',lo,rfl,_⟩:=h
  rfl
 obtain⟨v,e,pv,p,d,fs,c,g,g',lo,rfl,hk,hv,hp,hok,hn,hpl,hkb,hd,hky,hh,hS,hL,q⟩:=h
 obtain⟨t,b,b2,rfl⟩:∃t b b2,e=.ite t b b2:=by
  cases e with
  | set x t=>exact absurd (List.mem_singleton.mp hk) (show ¬ ("set" : Str) = "if" by decide+kernel)
  | ite t b c=>exact⟨t,b,c,rfl⟩
  | whl t m b=>exact absurd (List.mem_singleton.mp hk) (show ¬ ("while" : Str) = "if" by decide+kernel)
 rw [D.enc] at hv
 obtain⟨va,x0,xt,xb,xc,rfl,hva,t0,dt,db,dc⟩:=zy7 hv
 cases t0
 obtain⟨hkt,⟨q1,hq1⟩,q2,hq2⟩:=zv2 hkb
 have hlen:=q0f c t b b2 p
 refine⟨_,(z03 (z18 (i:=4) sc_do_if.nd rfl zla (z1n c_reckon hr (by omega) (z06 (z0z z0p (z00 (i:=0) rfl z8r z2u z2w) z02 (fun _ _=>rfl)) (z06 (z0o z3x (z00 (i:=1) rfl z8q z1o z1p) (z11 (z06 z02 pa_nil))) (z06 (z00 (i:=2) rfl z7m z2a z2b) (z06 (z00 (i:=3) rfl z73 z2d z2e) pa_nil)))) zio zch) (z05 rfl))
 (z03 (z2g (z0f (gEq hr.units) (z0z z0p (z00 (i:=4) rfl zad zfa zff) z02 (fun _ _=>rfl)) z0i (z0m _)) (z07 (z0h (z00 (i:=4) rfl zad zfa zff))) z0l)
 (z03 (z2g (z0f zmp (z0z z0p (z00 (i:=4) rfl zad zfa zff) z02 (fun _ _=>rfl)) z02 (z0m _)) (z07 (z0h (z1n c_do_block hr (by omega) (z06 (z0z z0p (z00 (i:=0) rfl z8r z2u z2w) z02 (fun _ _=>rfl)) (z06 (z0o z3x (z00 (i:=1) rfl z8q z1o z1p) (z11 (z06 z02 pa_nil))) (z06 (z00 (i:=2) rfl z7m z2a z2b) (z06 (z00 (i:=3) rfl z73 z2d z2e) pa_nil)))) za0 z81))) z0l)
 (z07 (z0h (z1n c_do_block hr (by omega) (z06 (z0z z0p (z00 (i:=0) rfl z8r z2u z2w) z02 (fun _ _=>rfl)) (z06 (z0o z3x (z00 (i:=1) rfl z8q z1o z1p) (z11 (z06 z02 pa_nil))) (z06 (z00 (i:=2) rfl z7m z2a z2b) (z06 (z00 (i:=3) rfl z73 z2d z2e) pa_nil)))) za0 z81)))))),z0g fun N1 e1=>?_⟩
 walk_at "rd7"
 refine⟨_,SqT.of hva,_,z1i (j:=1) rfl,by decide,fun p1 h1=>?_⟩
 have s1:=z04 h1 (HO.tup [V.int 0])
 refine zrl (hp.kp s1.kp) zem (by simp; omega) fun z H1 s2 dz=>?_
 have s12:=s1.trans s2
 refine⟨xt,t,z,_,d,fs,c,g,lo,rfl,dt.kp s12.kp,dz,zeo hok.1 hkt,by decide,by simp; omega,s12 _ _ hd,hh,hS.kp (Same.kpE s12),(hL.same s12).mono (by omega),fun r1 H2 g1 dr1=>?_⟩
 have G1:Gr lo H H2 (evT c t (p++[0])).2:=(Gr.same s12 hL).trans g1
 clear g1 s1 s2 s12
 have hd2:=G1.keep hd (by intro xs z; cases z)
 have hva2:=G1.keep hva (by intro xs z; cases z)
 have hp2:=hp.kp G1.kp
 have db2:=db.kp G1.kp
 have dc2:=dc.kp G1.kp
 have hS2:=hS.kp G1.kpE
 obtain⟨b1,rfl,hb1⟩:=zgd dr1
 rcases he1:evT c t (p++[0]) with⟨r1,w1⟩
 rw [he1] at G1 dr1 hb1
 rw [e1]
 refine z0g fun N2 e2=>?_
 walk_at "rd7"
 rcases hb1 with⟨i1,rfl,hb1⟩ | ⟨u,qq,y1,rfl,hb1⟩
 rotate_left
 ·refine⟨_,SqT.of hb1,_,z1w,_,zpv,?_⟩
  rw [if_pos (decide_eq_true rfl)]
  rw [zle he1] at q
  exact q _ _ G1.gd hd2 dr1
 refine⟨_,SqT.of hb1,_,z1w,_,zpv,?_⟩
 rw [if_neg (by rw [decide_eq_true_eq]; exact z9r)]
 rw [e2]
 refine z0g fun N3 e3=>?_
 walk_at "rd7"
 refine⟨_,SqT.of hb1,_,z1i (j:=1) rfl,_,rfl,?_⟩
 by_cases hz:i1=0
 ·subst hz
  rw [zqx he1] at q hL
  simp only[if_true,if_false,not_true,ne_eq,not_false_eq_true]
  rw [e3]
  walk_at "rd7"
  refine⟨_,SqT.of hva2,_,z1i (j:=3) rfl,by decide,fun p2 h2=>?_⟩
  have s3:=z04 h2 (HO.tup [V.int 2])
  refine zrl (hp2.kp s3.kp) zem (by simp; omega) fun z2 H3 s4 dz2=>?_
  have s34:=s3.trans s4
  have hL2:HasL lo H2 ((evB (p++[2]) 0 b2 c).2.2.length+1):=hL.on G1 (by show w1.length+_<=_; rw [List.length_append]; omega)
  refine⟨xc,b2,z2,_,d,fs,c,g,q2,lo,rfl,dc2.kp s34.kp,dz2,hok.2.2,by omega,by simp; omega,hq2,s34 _ _ hd2,hky,hh,hS2.kp (Same.kpE s34),hL2.same s34,fun r2 H4 g2 hd4 ho=>?_⟩
  exact q _ _ (G1.gd.trans (((Gr.same s34 hL2).gd).trans g2 (s34 _ _ hd2)) hd2) hd4 ho
 ·rw [zld he1 hz] at q hL
  rw [if_pos (decide_eq_false hz)]
  refine⟨_,SqT.of hva2,_,z1i (j:=2) rfl,by decide,fun p2 h2=>?_⟩
  have s3:=z04 h2 (HO.tup [V.int 1])
  refine zrl (hp2.kp s3.kp) zem (by simp; omega) fun z2 H3 s4 dz2=>?_
  have s34:=s3.trans s4
  have hL2:HasL lo H2 ((evB (p++[1]) 0 b c).2.2.length+1):=hL.on G1 (by show w1.length+_<=_; rw [List.length_append]; omega)
  refine⟨xb,b,z2,_,d,fs,c,g,q1,lo,rfl,db2.kp s34.kp,dz2,hok.2.1,by omega,by simp; omega,hq1,s34 _ _ hd2,hky,hh,hS2.kp (Same.kpE s34),hL2.same s34,fun r2 H4 g2 hd4 ho=>?_⟩
  exact q _ _ (G1.gd.trans (((Gr.same s34 hL2).gd).trans g2 (s34 _ _ hd2)) hd2) hd4 ho
theorem zpj{n:Nat} (F:Fun K "do_while" "do_while" z19 f fd) (c_reckon:Callee P w K mg base "reckon" ["term","path","names","settle"] 7 (z7a 5)) (c_do_block:Callee P w K mg base "do_block" ["block","path","names","settle"] (3 * n+8) (zm8 n)):FnOk P w K mg base CX0 (3 * n+9) f fd ["deed","path","names","settle"] (zm7 ["while"] n):=by
 refine F.ok sc_do_while (fun vs H Q E h=>?_) (fun cdv A outer s H vs Q E hr h=>?_)
 ·obtain⟨v,e,pv,p,d,f,c,g,g',lo,rfl,_⟩:=h
  rfl
 obtain⟨v,e,pv,p,d,fs,c,g,g',lo,rfl,hk,hv,hp,hok,hn,hpl,hkb,hd,hky,hh,hS,hL,q⟩:=h
 obtain⟨t,m,b,rfl⟩:∃t m b,e=.whl t m b:=by
  cases e with
  | set x t=>exact absurd (List.mem_singleton.mp hk) (show ¬ ("set" : Str) = "while" by decide+kernel)
  | ite t b c=>exact absurd (List.mem_singleton.mp hk) (show ¬ ("if" : Str) = "while" by decide+kernel)
  | whl t m b=>exact⟨t,m,b,rfl⟩
 rw [D.enc] at hv
 obtain⟨va,x0,xt,xm,xb,rfl,hva,t0,dt,dm,db⟩:=zy7 hv
 cases t0
 cases dm
 obtain⟨hkt,rfl,q1,hq1⟩:=zyu hkb
 refine⟨_,(z03 (z18 (i:=4) sc_do_while.nd rfl z9y z02 (z05 rfl))
 (z07 (zwy PassesOwn.never (zk0 zjb)
 (z03 (z18 (i:=5) sc_do_while.nd rfl zh1 (z1n c_reckon hr (by omega) (z06 (z0z z0p (z00 (i:=0) rfl z6f z2u z2w) z02 (fun _ _=>rfl)) (z06 (z0o z3x (z00 (i:=1) rfl z6e z1o z1p) (z11 (z06 z02 pa_nil))) (z06 (z00 (i:=2) rfl z8a z2a z2b) (z06 (z00 (i:=3) rfl z7l z2d z2e) pa_nil)))) zf2 zch) (z05 rfl))
 (z03 (z2g (z0f (gEq hr.units) (z0z z0p (z00 (i:=5) rfl z72 zfa zff) z02 (fun _ _=>rfl)) z0i (z0m _)) (z07 (z0h (z00 (i:=5) rfl z72 zfa zff))) z0l)
 (z03 (z2g (z0f zdj (z0z z0p (z00 (i:=5) rfl z72 zfa zff) z02 (fun _ _=>rfl)) z02 (z0m _)) (z07 (z0h zdi)) z0l)
 (z03 (z2g (z0f q4e (z00 (i:=4) rfl z9e zvu zw7) (z0z z0p (z00 (i:=0) rfl z6f z2u z2w) z02 (fun _ _=>rfl)) (z0m _)) (z07 (z0h (z11 (z06 z0i (z06 z0i (z06 (z00 (i:=1) rfl z6e z1o z1p) pa_nil)))))) z0l)
 (z03 (z18 (i:=6) sc_do_while.nd rfl zd6 (z1n c_do_block hr (by omega) (z06 (z0z z0p (z00 (i:=0) rfl z6f z2u z2w) z02 (fun _ _=>rfl)) (z06 (z0o z3x (z00 (i:=1) rfl z6e z1o z1p) (z11 (z06 z02 pa_nil))) (z06 (z00 (i:=2) rfl z8a z2a z2b) (z06 (z00 (i:=3) rfl z7l z2d z2e) pa_nil)))) zdc z81) (z05 rfl))
 (z03 (z2g (z0f zvc (z00 (i:=6) rfl z77 z5x z5y) zdi (z0m _)) (z07 (z0h (z00 (i:=6) rfl z77 z5x z5y))) z0l)
 (z07 (z18 (i:=4) sc_do_while.nd rfl z9y (z0o z1h (z00 (i:=4) rfl z9e zvu zw7) z02) (z05 rfl)))))))))))),z0g fun N1 e1=>?_⟩
 walk_at "rd7"
 rw [e1]
 have hout:evD p (.whl t m b) c=zrn [] (z6h (fun c=>evT c t (p++[0])) (fun c=>evB (p++[1]) 0 b c) p m.toNat c):=by rw [evD]; rfl
 generalize evD p (.whl t m b) c=out at hL q hout
 refine⟨WhI H va pv d fs lo g' t b p m.toNat out,⟨m.toNat,0,c,[],none,none,rfl,by omega,(Gr.same (Same.refl H) hL).gd,hd,hky,hh,hout⟩,?_⟩
 rintro k σ Hc ⟨j,cj,rs,x5,x6,rfl,hjk,gd,hdc,hkc,hhc,ho⟩
 refine⟨true,rfl,?_⟩
 show if(true:Bool)=true then _ else _
 rw [if_pos rfl]
 refine⟨fun σ' H'=>∃k',k' < k/\WhI H va pv d fs lo g' t b p m.toNat out k' σ' H',fun _ _ h=>h,z0g fun N2 e2=>?_⟩
 walk_at "rd7"
 have hvac:=gd.keep hd hva (by intro xs z; cases z) (by intro xs z; cases z)
 have kpc:=gd.kp hd
 have hSc:=hS.kp (gd.kpE hd)
 have hpc:=hp.kp kpc
 have dtc:=dt.kp kpc
 have dbc:=db.kp kpc
 have l1:=zut (fun c=>evT c t (p++[0])) (fun c=>evB (p++[1]) 0 b c) p k cj
 have lo1:out.2.2.length=rs.length+(z6h (fun c=>evT c t (p++[0])) (fun c=>evB (p++[1]) 0 b c) p k cj).2.2.length:=by rw [ho,zrn,List.length_append]
 have hLc:HasL lo Hc ((z6h (fun c=>evT c t (p++[0])) (fun c=>evB (p++[1]) 0 b c) p k cj).2.2.length+1):=hL.onD gd (by omega)
 refine⟨_,SqT.of hvac,_,z1i (j:=1) rfl,by decide,fun p1 h1=>?_⟩
 have s1:=z04 h1 (HO.tup [V.int 0])
 refine zrl (hpc.kp s1.kp) zem (by simp; omega) fun z H1 s2 dz=>?_
 have s12:=s1.trans s2
 refine⟨xt,t,z,_,d,fs,cj,g',lo,rfl,dtc.kp s12.kp,dz,zeo hok.1 hkt,by decide,by simp; omega,s12 _ _ hdc,hhc,hSc.kp (Same.kpE s12),(hLc.same s12).mono (by omega),fun r1 H2 g1 dr1=>?_⟩
 have G1:Gr lo Hc H2 (evT cj t (p++[0])).2:=(Gr.same s12 hLc).trans g1
 clear g1 s1 s2 s12
 have hd2:=G1.keep hdc (by intro xs z; cases z)
 have hva2:=G1.keep hvac (by intro xs z; cases z)
 have hp2:=hpc.kp G1.kp
 have db2:=dbc.kp G1.kp
 have hS2:=hSc.kp G1.kpE
 obtain⟨b1,rfl,hb1⟩:=zgd dr1
 rcases he1:evT cj t (p++[0]) with⟨r1,w1⟩
 rw [he1] at G1 dr1 hb1
 have GD:=gd.trans G1.gd hdc
 have l1w:w1.length<=(z6h (fun c=>evT c t (p++[0])) (fun c=>evB (p++[1]) 0 b c) p k cj).2.2.length:=by
  have z:=l1
  simp only[he1] at z
  exact z
 rw [e2]
 refine z0g fun N3 e3=>?_
 walk_at "rd7"
 rcases hb1 with⟨i1,rfl,hb1⟩ | ⟨u,qq,y1,rfl,hb1⟩
 rotate_left
 ·refine⟨_,SqT.of hb1,_,z1w,_,zpv,?_⟩
  rw [if_pos (decide_eq_true rfl)]
  rw [zqu (cond:=fun c=>evT c t (p++[0])) he1] at ho
  subst ho
  exact q _ _ GD hd2 dr1
 refine⟨_,SqT.of hb1,_,z1w,_,zpv,?_⟩
 rw [if_neg (by rw [decide_eq_true_eq]; exact z9r)]
 rw [e3]
 refine z0g fun N4 e4=>?_
 walk_at "rd7"
 refine⟨_,SqT.of hb1,_,z1i (j:=1) rfl,_,rfl,?_⟩
 by_cases hz:i1=0
 ·subst hz
  rw [zmz (cond:=fun c=>evT c t (p++[0])) he1] at ho
  subst ho
  rw [if_pos (by decide)]
  exact q _ _ GD hd2 rfl
 rw [if_neg (by simpa using hz)]
 rw [e4]
 refine z0g fun N5 e5=>?_
 walk_at "rd7"
 refine⟨_,SqT.of hva2,_,z1i (j:=2) rfl,_,rfl,?_⟩
 cases k with
 | zero=>
  rw [zn0 (cond:=fun c=>evT c t (p++[0])) he1 hz] at ho
  subst ho
  rw [if_pos (by omega)]
  refine⟨by decide,fun r hr'=>?_⟩
  have s3:=z04 hr' (HO.tup [V.str "refused",V.str "long",pv])
  refine q _ _ ?_ (s3 _ _ hd2) (.tup z01 (.cons (.str _) (.cons (.str _) (.cons (hp2.kp s3.kp) .nil))))
  have hL2:HasL lo H2 0:=hLc.on G1 (by show w1.length+_<=_; omega)
  have:=GD.trans (Gr.same s3 hL2).gd hd2
  rw [List.append_nil] at this
  exact this
 | succ k=>
  rw [if_neg (by omega)]
  have l2:=zus (cond:=fun c=>evT c t (p++[0])) (body:=fun c=>evB (p++[1]) 0 b c) (p:=p) (k:=k) he1 hz
  have hL2:HasL lo H2 ((evB (p++[1]) 0 b cj).2.2.length+1):=hLc.on G1 (by show w1.length+_<=_; omega)
  rw [e5]
  refine z0g fun N6 e6=>?_
  walk_at "rd7"
  refine⟨_,SqT.of hva2,_,z1i (j:=3) rfl,by decide,fun p2 h2=>?_⟩
  have s3:=z04 h2 (HO.tup [V.int 1])
  refine zrl (hp2.kp s3.kp) zem (by simp; omega) fun z2 H3 s4 dz2=>?_
  have s34:=s3.trans s4
  refine⟨xb,b,z2,_,d,fs,cj,g',q1,lo,rfl,db2.kp s34.kp,dz2,hok.2,by omega,by simp; omega,hq1,s34 _ _ hd2,hkc,hhc,hS2.kp (Same.kpE s34),hL2.same s34,fun r2 H4 g2 hd4 ho4=>?_⟩
  have GB:=GD.trans (((Gr.same s34 hL2).gd).trans g2 (s34 _ _ hd2)) hd2
  have hk4:=zg5 b n (p++[1]) 0 cj hok.2 hkc
  have hh4:=zis b (p++[1]) 0 cj g' q1 hq1 hhc
  rcases hb:evB (p++[1]) 0 b cj with⟨ee,c4,w4⟩
  rw [hb] at hd4 ho4 GB hk4 hh4
  rw [e6]
  refine z0g fun N7 e7=>?_
  walk_at "rd7"
  cases ee with
  | some er=>
   rw [zi9 (cond:=fun c=>evT c t (p++[0])) (body:=fun c=>evB (p++[1]) 0 b c) he1 hz hb] at ho
   subst ho
   have hne:r2≠.non:=by
    obtain⟨a4,rfl,_⟩:=zgd (r:=Rs.ref er.1 er.2) ho4
    intro z
    cases z
   rw [if_pos (decide_eq_false hne)]
   refine q _ _ ?_ hd4 ho4
   show Gd d lo H H4 (rs++(w1++w4))
   rw [<- List.append_assoc]
   exact GB
  | none=>
   rw [zia (cond:=fun c=>evT c t (p++[0])) (body:=fun c=>evB (p++[1]) 0 b c) he1 hz hb] at ho
   cases ho4
   rw [if_neg (by simp),e7]
   walk_at "rd7"
   refine⟨k,by omega,j+1,c4,rs++(w1++w4),_,_,rfl,by omega,?_,hd4,hk4,(hh4 rfl).sub (zii b g' q1 hq1),?_⟩
   ·rw [<- List.append_assoc]
    exact GB
   ·rw [ho]
    simp only[zrn,List.append_assoc]
end
section
variable{P:Program}{w:World}{K:PySem.W.Frag}{mg:Str->Option Value}{base:Heap}{f:Addr}{fd:FuncData}
theorem zso{n:Nat} (F:Fun K "do_deed" "do_deed" z3f f fd) (c_do_set:Callee P w K mg base "do_set" ["deed","path","names","settle"] 8 (zm7 ["set"] n)) (c_do_if:Callee P w K mg base "do_if" ["deed","path","names","settle"] (3 * n+9) (zm7 ["if"] n)) (c_do_while:Callee P w K mg base "do_while" ["deed","path","names","settle"] (3 * n+9) (zm7 ["while"] n)):FnOk P w K mg base CX0 (3 * n+10) f fd ["deed","path","names","settle"] (zm7 ["set","if","while"] n):=by
 refine F.ok zs3 (fun vs H Q E h=>?_) (fun cdv A outer s H vs Q E hr h=>?_)
 ·obtain⟨v,e,pv,p,d,f,c,g,g',lo,rfl,_⟩:=h
  rfl
 obtain⟨v,e,pv,p,d,fs,c,g,g',lo,rfl,hk,hv,h⟩:=h
 obtain⟨va,xs,rfl,hva⟩:=zvo hv
 refine⟨_,(z03 (z2g (z0f (gEq hr.units) (z0z z0p (z00 (i:=0) rfl z4r z2u z2w) z02 (fun _ _=>rfl)) z0i (z0m _)) (z07 (z0h (z1n c_do_set hr (by omega) (z06 (z00 (i:=0) rfl z4r z2u z2w) (z06 (z00 (i:=1) rfl z74 z1o z1p) (z06 (z00 (i:=2) rfl z6g z2a z2b) (z06 (z00 (i:=3) rfl z60 z2d z2e) pa_nil)))) zg3 zvv))) z0l)
 (z03 (z2g (z0f (gEq hr.units) (z0z z0p (z00 (i:=0) rfl z4r z2u z2w) z02 (fun _ _=>rfl)) z0i (z0m _)) (z07 (z0h (z1n c_do_if hr (by omega) (z06 (z00 (i:=0) rfl z4r z2u z2w) (z06 (z00 (i:=1) rfl z74 z1o z1p) (z06 (z00 (i:=2) rfl z6g z2a z2b) (z06 (z00 (i:=3) rfl z60 z2d z2e) pa_nil)))) zh5 zxy))) z0l)
 (z07 (z0h (z1n c_do_while hr (by omega) (z06 (z00 (i:=0) rfl z4r z2u z2w) (z06 (z00 (i:=1) rfl z74 z1o z1p) (z06 (z00 (i:=2) rfl z6g z2a z2b) (z06 (z00 (i:=3) rfl z60 z2d z2e) pa_nil)))) zdx zq0))))),z0g fun N1 e1=>?_⟩
 walk_at "rd7"
 refine⟨_,SqT.of hva,_,z1w,_,zpv,?_⟩
 split
 ·rename_i z
  exact⟨_,e,pv,p,d,fs,c,g,g',lo,rfl,by rw [of_decide_eq_true z]; simp,hv,h⟩
 rename_i z1
 rw [e1]
 refine z0g fun N2 e2=>?_
 walk_at "rd7"
 refine⟨_,SqT.of hva,_,z1w,_,zpv,?_⟩
 split
 ·rename_i z
  exact⟨_,e,pv,p,d,fs,c,g,g',lo,rfl,by rw [of_decide_eq_true z]; simp,hv,h⟩
 rename_i z2
 rw [e2]
 walk_at "rd7"
 refine⟨_,e,pv,p,d,fs,c,g,g',lo,rfl,?_,hv,h⟩
 simp only[List.mem_cons,List.not_mem_nil,or_false] at hk |-
 rcases hk with hk | hk | hk
 ·exact absurd (decide_eq_true hk) z1
 ·exact absurd (decide_eq_true hk) z2
 ·exact hk
theorem zpk{n:Nat} (F:Fun K "do_block" "do_block" z1a f fd) (b_enumerate:mg "enumerate" = none) (c_do_deed:Callee P w K mg base "do_deed" ["deed","path","names","settle"] (3 * n+10) (zm7 ["set","if","while"] n)):FnOk P w K mg base CX0 (3 * n+11) f fd ["block","path","names","settle"] (zm8 (n+1)):=by
 refine F.ok sc_do_block (fun vs H Q E h=>?_) (fun cdv A outer s H vs Q E hr h=>?_)
 ·obtain⟨v,b,pv,p,d,f,c,g,g',lo,rfl,_⟩:=h
  rfl
 obtain⟨v,b,pv,p,d,fs,c,g,g',lo,rfl,hv,hp,hok,hn,hpl,hkb,hd,hky,hh,hS,hL,q⟩:=h
 obtain⟨ab,xs,rfl,hab,hda⟩:=hv.tupI
 have hxl:xs.length=b.length:=by rw [hda.length,z7z]
 have hout:evB p 0 b c=zrn [] (evB p ((0:Nat):Int) (b.drop 0) c):=by rw [List.drop_zero]; rfl
 generalize evB p 0 b c=out at hL q hout
 refine⟨_,(z03 (zbz PassesOwn.never rfl (zkx zcd b_enumerate (z06 (z00 (i:=0) rfl zef zrc zrk) pa_nil)) (zel (n:=2) rfl (z24 (z1u (i:=4) sc_do_block.nd rfl zic) (z24 (z1u (i:=5) sc_do_block.nd rfl zg2) z7q)))
 (z03 (z18 (i:=6) sc_do_block.nd rfl zd7 (z1n c_do_deed hr (by omega) (z06 (z00 (i:=5) rfl zfl z2u z2w) (z06 (z0o z3x (z00 (i:=1) rfl zfk z1o z1p) (z11 (z06 (z00 (i:=4) rfl zhj znj znu) pa_nil))) (z06 (z00 (i:=2) rfl zee z2a z2b) (z06 (z00 (i:=3) rfl zdl z2d z2e) pa_nil)))) zdy zt1) (z05 rfl))
 (z07 (z2g (z0f zvc (z00 (i:=6) rfl z78 z5x z5y) zdi (z0m _)) (z07 (z0h (z00 (i:=6) rfl z78 z5x z5y))) z0l))))
 (z07 (z0h zdi))),z0g fun N1 e1=>?_⟩
 walk_at "rd7"
 refine⟨⟨_,SqT.of hab⟩,?_⟩
 refine zna (xs:=xs) (BkI H ab pv d fs lo g' b p out) ?start ?lst ?step ?done
 case start=>exact⟨c,g,[],_,_,_,rfl,(Gr.same (Same.refl H) hL).gd,hd,hky,hh,by rw [List.drop_zero]; exact hkb,hout⟩
 case lst=>
  rintro i σ Hc _ ⟨ci,gi,rs,_,_,_,rfl,gd,_⟩
  exact SqT.of (gd.keep hd hab (by intro xs z; cases z) (by intro xs z; cases z))
 case done=>
  rintro σ Hc ⟨ci,gi,rs,_,_,_,rfl,gd,hdc,hkc,hhc,hkb2,ho⟩
  show N1 _ _
  rw [e1]
  walk_at "rd7"
  rw [hxl,List.drop_length,evB] at ho
  subst ho
  refine q _ _ ?_ hdc rfl
  show Gd d lo H Hc (rs++[])
  rw [List.append_nil]
  exact gd
 case step=>
  rintro i x σ Hc Tu hx ⟨ci,gi,rs,_,_,_,rfl,gd,hdc,hkc,hhc,hkb2,ho⟩ hT
  obtain⟨e,hbi,dx⟩:=zvp hda hx
  have hdo:=hok.2 e (List.mem_of_getElem? hbi)
  rw [zvm hbi] at ho hkb2
  obtain⟨q1,hq1,hkr⟩:=zxk hkb2
  have s2:=z04 hT (HO.tup [V.int i,x])
  walk_at "rd7"
  refine⟨_,SqT.of z01,rfl,_,_,rfl,_,_,rfl,rfl,by decide,fun p1 h1=>?_⟩
  have s3:=z04 h1 (HO.tup [V.int i])
  have s23:=s2.trans s3
  have kpc:=gd.kp hd
  refine zrl ((hp.kp kpc).kp s23.kp) zem (by simp; omega) fun z H1 s4 dz=>?_
  have s24:=s23.trans s4
  have l1:=q0p p i e (b.drop (i+1)) ci
  have lo1:out.2.2.length=rs.length+(evB p i (e::b.drop (i+1)) ci).2.2.length:=by rw [ho,zrn,List.length_append]
  have hLc:HasL lo Hc ((evB p i (e::b.drop (i+1)) ci).2.2.length+1):=hL.onD gd (by omega)
  refine⟨x,e,z,_,d,fs,ci,gi,q1,lo,rfl,by cases e<;>simp[D.kind],(dx.kp kpc).kp s24.kp,dz,hdo,by omega,by simp; omega,hq1,s24 _ _ hdc,hkc,hhc,(hS.kp (gd.kpE hd)).kp (Same.kpE s24),(hLc.same s24).mono (by omega),fun r2 H4 g2 hd4 ho4=>?_⟩
  have GB:=gd.trans (((Gr.same s24 hLc).gd).trans g2 (s24 _ _ hdc)) hdc
  have hk4:=zvi e n (p++[(i:Int)]) ci hdo hkc
  have hh4:=zvj e (p++[(i:Int)]) ci gi q1 hq1 hhc
  rcases hb:evD (p++[(i:Int)]) e ci with⟨ee,c4,w4⟩
  rw [hb] at hd4 ho4 GB hk4 hh4
  cases ee with
  | some er=>
   rw [zr5 hb] at ho
   subst ho
   have hne:r2≠.non:=by
    obtain⟨a4,rfl,_⟩:=zgd (r:=Rs.ref er.1 er.2) ho4
    intro z
    cases z
   show if decide (r2=V.non)=false then Q r2 H4 else _
   rw [if_pos (decide_eq_false hne)]
   exact q _ _ GB hd4 ho4
  | none=>
   rw [zr6 hb] at ho
   cases ho4
   show if decide (V.non=V.non)=false then Q V.non H4 else _
   rw [if_neg (by simp)]
   refine⟨c4,q1,rs++w4,_,_,_,rfl,GB,hd4,hk4,hh4 rfl,hkr,?_⟩
   rw [ho]
   simp only[zrn,List.append_assoc]
   rfl
theorem q07{k:Nat}{n1 n2 n3 n4:Str}:FnOk P w K mg base CX0 k f fd [n1,n2,n3,n4] (zm8 0):=by
 have no:∀vs H Q E,¬ zm8 0 vs H Q E:=fun vs H Q E h=>by
  obtain⟨v,b,pv,p,d,f,c,g,g',lo,_,_,_,h,_⟩:=h
  exact h.elim
 exact⟨fun vs H Q E h=>absurd h (no vs H Q E),fun A outer s H args us vs Q E _ _ _ _ h=>absurd h (no vs H Q E)⟩
theorem zwh{f2 f3 f4 f5:Addr}{fd2 fd3 fd4 fd5:FuncData} (d:Df K mg "do_block" z1a ["block","path","names","settle"] f fd) (d2:Df K mg "do_deed" z3f ["deed","path","names","settle"] f2 fd2) (d3:Df K mg "do_set" z4l ["deed","path","names","settle"] f3 fd3) (d4:Df K mg "do_if" z5h ["deed","path","names","settle"] f4 fd4) (d5:Df K mg "do_while" z19 ["deed","path","names","settle"] f5 fd5) (b_enumerate:mg "enumerate" = none) (c_reckon:Callee P w K mg base "reckon" ["term","path","names","settle"] 7 (z7a 5)):∀n:Nat,Callee P w K mg base "do_block" ["block","path","names","settle"] (3 * n+8) (zm8 n)
 | 0=>d.callee q07
 | n+1=>d.callee (zpk d.F b_enumerate (d2.callee (zso d2.F (d3.callee (zul d3.F c_reckon)) (d4.callee (zx7 d4.F c_reckon (zwh d d2 d3 d4 d5 b_enumerate c_reckon n))) (d5.callee (zpj d5.F c_reckon (zwh d d2 d3 d4 d5 b_enumerate c_reckon n))))))
end
section
variable{P:Program}{w:World}{K:PySem.W.Frag}{mg:Str->Option Value}{base:Heap}{f:Addr}{fd:FuncData}
def stB:Cnt->List Rw->List Int->Cnt
 | c,r::rs,w::ws=>stB (zkv c r.1 w) rs ws
 | c,_,_=>c
def Fits:List Rw->List Int->Prop
 | [],[]=>True
 | r::rs,w::ws=>r.2.1<=w/\w<=r.2.2/\Fits rs ws
 | _,_=>False
theorem Fits.len:∀{rows:List Rw} {ws:List Int},Fits rows ws->rows.length=ws.length
 | [],[],_=>rfl
 | _::rs,_::ws,h=>by rw [List.length_cons,List.length_cons,Fits.len h.2.2]
 | [],_::_,h=>h.elim
 | _::_,[],h=>h.elim
theorem Fits.at:∀{rows:List Rw} {ws:List Int} {i:Nat} {r:Rw} {w:Int},Fits rows ws->rows[i]?=some r->ws[i]?=some w->r.2.1<=w/\w<=r.2.2
 | r::rs,w::ws,0,_,_,h,e1,e2=>by
  simp at e1 e2
  subst e1; subst e2
  exact⟨h.1,h.2.1⟩
 | r::rs,w::ws,i+1,_,_,h,e1,e2=>Fits.at h.2.2 (by simpa using e1) (by simpa using e2)
 | [],[],_,_,_,_,e1,_=>by simp at e1
 | [],_::_,_,_,_,h,_,_=>h.elim
 | _::_,[],_,_,_,h,_,_=>h.elim
theorem zkj:∀{rows:List Rw} {ws:List Int} {i:Nat} {r:Rw} {w:Int} (c:Cnt),rows[i]?=some r->ws[i]?=some w->stB c (rows.take (i+1)) (ws.take (i+1))=zkv (stB c (rows.take i) (ws.take i)) r.1 w
 | r::rs,w::ws,0,_,_,c,e1,e2=>by
  simp at e1 e2
  subst e1; subst e2
  simp[stB]
 | r::rs,w::ws,i+1,_,_,c,e1,e2=>by
  have:=zkj (i:=i) (zkv c r.1 w) (show rs[i]?=some _ by simpa using e1) (show ws[i]?=some _ by simpa using e2)
  simpa [stB] using this
 | [],_,_,_,_,_,e1,_=>by simp at e1
 | _::_,[],_,_,_,_,_,e2=>by simp at e2
theorem zkk:∀(rows:List Rw) (ws:List Int) (c:Cnt),(∀r∈rows,r.1∈pool)->KeyOk c->KeyOk (stB c rows ws)
 | [],_,c,_,h=>by simpa [stB] using h
 | _::_,[],c,_,h=>by simpa [stB] using h
 | r::rs,w::ws,c,hr,h=>by
  rw [stB]
  exact zkk rs ws _ (fun x hx=>hr x (.tail _ hx)) (h.put (hr r (.head _)) w)
theorem zto:∀(rows:List Rw) (ws:List Int) (c:Cnt) (g:List Str),Fits rows ws->(∀r∈rows,-6<=r.2.1/\r.2.2<=8)->Has c g->Has (stB c rows ws) (g++rows.map (·.1))
 | [],[],c,g,_,_,h=>by simpa [stB] using h
 | r::rs,w::ws,c,g,hf,hr,h=>by
  rw [stB,List.map_cons,show g++r.1::rs.map (·.1)=(g++[r.1])++rs.map (·.1) by simp]
  have h1:=hr r (.head _)
  exact zto rs ws _ _ hf.2.2 (fun x hx=>hr x (.tail _ hx)) (h.put (by have:=hf.1; omega) (by have:=hf.2.1; omega))
 | [],_::_,_,_,h,_,_=>h.elim
 | _::_,[],_,_,h,_,_=>h.elim
theorem zhy{rows:List Rw}(h:okRows rows):∀r∈rows,r.1∈pool:=fun r hr=>by
 have h1:r.1∈rows.map (·.1):=List.mem_map.mpr ⟨r,hr,rfl⟩
 rw [h.nm] at h1
 have h2:=List.mem_of_mem_take h1
 simp only[pair,List.mem_cons,List.not_mem_nil,or_false] at h2
 rcases h2 with h2 | h2<;>rw [h2]<;>decide+kernel
theorem KeyOk.nil:KeyOk []:=⟨.nil,fun p h=>by simp at h⟩
def ztt:Sp:=fun vs H Q _=>∃(iv wv:V) (rows:List Rw) (ws:List Int),vs=[iv,wv]/\Dt H iv (.tup (rows.map rowEnc))/\Dt H wv (pathD ws)/\okRows rows/\Fits rows ws/\∀(d:Addr) (H':Hp),Same H H'->H d=none->H' d=some (.dK (kvC (stB [] rows ws)))->Q (.ref d) H'
def FsI(H:Hp)(ia wa d:Addr)(rows:List Rw)(ws:List Int)(i:Nat)(σ : St)(Hc:Hp):Prop:=∃(x3 x4:Option V),σ = [some (.ref ia),some (.ref wa),some (.ref d),x3,x4]/\Same H Hc/\Hc d=some (.dK (kvC (stB [] (rows.take i) (ws.take i))))
end
section
variable{P:Program}{w:World}{K:PySem.W.Frag}{mg:Str->Option Value}{base:Heap}{f:Addr}{fd:FuncData}
theorem zxm{H:Hp}{v:V}{d:Dm}(h:Dt H v d):∃t,TyOf K H v t/\PySem.W.kitOne K t (.type "int")=some (isI d):=⟨_,q45 h,by cases d<;>rfl⟩
theorem zn6{H:Hp}{v:V}{d:Dm}(h:Dt H v d):∃t,TyOf K H v t/\PySem.W.kitOne K t (.type "bool")=some (isB d):=⟨_,q45 h,by cases d<;>rfl⟩
def zpr:Dm->Bool
 | .int _=>true
 | _=>false
def zqy(d:Dm)(lo hi:Int):Bool:=match d with
 | .int i=>decide (lo<=i) && decide (i<=hi)
 | _=>false
def zxl(d:Dm)(n:Int):Bool:=match d with
 | .tup ds=>decide ((ds.length:Int)=n)
 | _=>false
def q4q(g:Dm->Bool):Sp:=fun vs H Q _=>∃v d,vs=[v]/\Dt H v d/\∀H',Same H H'->Q (.bl (g d)) H'
theorem zpi(F:Fun K "is_whole" "is_whole" z45 f fd) (b_isinstance:mg "isinstance" = none) (b_int:mg "int" = none) (b_bool:mg "bool" = none):FnOk P w K mg base CX0 1 f fd ["thing"] (q4q zpr):=by
 refine F.ok zou (fun vs H Q E h=>?_) (fun cdv A outer s H vs Q E hr h=>?_)
 ·obtain⟨v,d,rfl,_⟩:=h
  rfl
 obtain⟨v,d,rfl,hd,q⟩:=h
 refine⟨_,(z07 (z0h (zqr (z75 q0m z6d b_isinstance z2l (z06 (z00 (i:=0) rfl z89 zat zay) (z06 (zl1 (v:=V.ty "int") zin b_int q3m rfl q2m q3b) pa_nil)) z2j z2k) (zu7 (q26 (z75 q0m z6d b_isinstance z2l (z06 (z00 (i:=0) rfl z89 zat zay) (z06 (zl1 (v:=V.ty "bool") zh3 b_bool q13 rfl q08 q0u) pa_nil)) z2j z2k)))))),?_⟩
 walk_at "rd"
 refine⟨_,_,⟨rfl,rfl⟩,_,zxm hd,?_⟩
 have q':=q H (Same.refl _)
 cases d with
 | int i=>exact⟨_,_,⟨rfl,rfl⟩,_,zn6 hd,q'⟩
 | bl b=>exact⟨_,_,⟨rfl,rfl⟩,_,zn6 hd,q'⟩
 | non=>exact q'
 | str x=>exact q'
 | tup ds=>exact q'
 | lst=>exact q'
def zts:Sp:=fun vs H Q _=>∃v d lo hi,vs=[v,.int lo,.int hi]/\Dt H v d/\∀H',Same H H'->Q (.bl (zqy d lo hi)) H'
theorem zgw(F:Fun K "is_whole_from" "is_whole_from" z1g f fd) (c_is_whole:Callee P w K mg base "is_whole" ["thing"] 1 (q4q zpr)):FnOk P w K mg base CX0 2 f fd ["thing","low","high"] zts:=by
 refine F.ok zgs (fun vs H Q E h=>?_) (fun cdv A outer s H vs Q E hr h=>?_)
 ·obtain⟨v,d,lo,hi,rfl,_⟩:=h
  rfl
 obtain⟨v,d,lo,hi,rfl,hd,q⟩:=h
 refine⟨_,(z07 (z0h (zqr (z1n c_is_whole hr (by omega) (z06 (z00 (i:=0) rfl z4i zat zay) pa_nil) z95 zpz) (zqr (zkz q2b (z00 (i:=1) rfl zbs q3a q3h) (z00 (i:=0) rfl z4i zat zay) (z0m _)) (zu7 (zkz q2b (z00 (i:=0) rfl z4i zat zay) (z00 (i:=2) rfl zbj q0t q11) (z0m _))))))),?_⟩
 walk_at "rd"
 refine⟨v,d,rfl,hd,fun H1 s1=>?_⟩
 have q':=q H1 s1
 cases hd with
 | int i=>
  walk_at "rd"
  simp only[zpr,if_true]
  replace q':Q (.bl (decide (lo<=i) && decide (i<=hi))) H1:=q'
  split
  ·rename_i hlo
   rw [decide_eq_true hlo,Bool.true_and] at q'
   exact q'
  ·rename_i hlo
   rw [decide_eq_false hlo,Bool.false_and] at q'
   exact q'
 | _=>exact⟨_,rfl,q'⟩
def zop:Sp:=fun vs H Q _=>∃v d n,vs=[v,.int n]/\Dt H v d/\∀H',Same H H'->Q (.bl (zxl d n)) H'
theorem zjc(F:Fun K "is_tuple_of" "is_tuple_of" z1v f fd) (b_isinstance:mg "isinstance" = none) (b_len:mg "len" = none) (b_tuple:mg "tuple" = none):FnOk P w K mg base CX0 1 f fd ["thing","many"] zop:=by
 refine F.ok zja (fun vs H Q E h=>?_) (fun cdv A outer s H vs Q E hr h=>?_)
 ·obtain⟨v,d,n,rfl,_⟩:=h
  rfl
 obtain⟨v,d,n,rfl,hd,q⟩:=h
 refine⟨_,(z07 (z0h (zqr (z75 q0m z96 b_isinstance z2l (z06 (z00 (i:=0) rfl z6o zat zay) (z06 (zl1 (v:=V.ty "tuple") zdb b_tuple z8j rfl z8e z8i) pa_nil)) z2j z2k) (zu7 (zkz zdj (z75 zvd zf1 b_len zcp (z06 (z00 (i:=0) rfl z6o zat zay) pa_nil) zc1 zcj) (z00 (i:=1) rfl zd1 q0s q0z) (z0m _)))))),?_⟩
 walk_at "rd"
 refine⟨_,_,⟨rfl,rfl⟩,_,zsw hd,?_⟩
 have q':=q H (Same.refl _)
 cases hd with
 | tup e r=>
  refine⟨_,q5f (SqT.of e),?_⟩
  rw [r.length]
  exact q'
 | _=>exact q'
theorem zfy(F:Fun K "names_at_first" "names_at_first" z0e f fd) (b_len:mg "len" = none) (b_zip:mg "zip" = none) (c_is_tuple_of:Callee P w K mg base "is_tuple_of" ["thing","many"] 1 zop) (c_is_whole_from:Callee P w K mg base "is_whole_from" ["thing","low","high"] 2 zts):FnOk P w K mg base CX0 3 f fd ["ins","worths"] ztt:=by
 refine F.ok sc_names_at_first (fun vs H Q E h=>?_) (fun cdv A outer s H vs Q E hr h=>?_)
 ·obtain⟨iv,wv,rows,ws,rfl,_⟩:=h
  rfl
 obtain⟨iv,wv,rows,ws,rfl,hi,hw,hrow,hfit,q⟩:=h
 obtain⟨ia,is,rfl,hia,dia⟩:=hi.tupI
 obtain⟨wa,us,rfl,hwa,dwa⟩:=hw.tupI
 have lis:is.length=rows.length:=by rw [dia.length,List.length_map]
 have lus:us.length=ws.length:=by rw [dwa.length,List.length_map]
 have hlen:=hfit.len
 refine⟨_,(z03 (z2g (zmh (zk0 (z1n c_is_tuple_of hr (by omega) (z06 (z00 (i:=1) rfl z2i z49 z4a) (z06 (z75 zvd z6t b_len zcp (z06 (z00 (i:=0) rfl z3i zrb zrj) pa_nil) zc1 zcj) pa_nil)) z4s zdk))) (z07 zhb) z0l)
 (z03 (z18 (i:=2) sc_names_at_first.nd rfl z5t zqq (z05 rfl))
 (z03 (zbz PassesOwn.never rfl (zu6 z6s b_zip (z06 (z00 (i:=0) rfl z3i zrb zrj) (z06 (z00 (i:=1) rfl z2i z49 z4a) pa_nil))) (zel (n:=2) rfl (z24 (z1u (i:=3) sc_names_at_first.nd rfl z6c) (z24 (z1u (i:=4) sc_names_at_first.nd rfl z5s) z7q)))
 (z03 (z2g (zmh (zk0 (z1n c_is_whole_from hr (by omega) (z06 (z00 (i:=4) rfl z2q z64 z66) (z06 (z0z z0p (z00 (i:=3) rfl z1s zk9 zkd) z02 (fun _ _=>rfl)) (z06 (z0z z0p (z00 (i:=3) rfl z1s zk9 zkd) z02 (fun _ _=>rfl)) pa_nil))) z47 zbd))) (z07 zhb) z0l)
 (z07 (zp4 hr.units1 (z00 (i:=2) rfl z2r z2a z2b) (z0z z0p (z00 (i:=3) rfl z1s zk9 zkd) z02 (fun _ _=>rfl)) (z00 (i:=4) rfl z2q z64 z66) (z05 rfl)))))
 (z07 (z0h (z00 (i:=2) rfl z2r z2a z2b)))))),z0g fun N1 e1=>?_⟩
 walk_at "rd7"
 refine⟨_,.inl ⟨ia,is,rfl,.inr (SqT.of hia),rfl⟩,?_⟩
 refine⟨_,_,_,rfl,hw,fun H1 s1=>⟨_,rfl,?_⟩⟩
 have hy:zxl (pathD ws) (is.length:Int)=true:=by
  show decide _=true
  rw [decide_eq_true_eq,List.length_map,lis,hlen]
 rw [if_neg (by rw [hy]; decide)]
 rw [e1]
 refine z0g fun N2 e2=>?_
 walk_at "rd7"
 intro d hdn
 have s2:=z04 hdn (HO.dK [])
 have s12:=s1.trans s2
 have hdf:H d=none:=s1.free hdn
 rw [e2]
 refine z0g fun N3 e3=>?_
 walk_at "rd7"
 refine⟨_,_,⟨rfl,rfl⟩,⟨_,SqT.of (s12 _ _ hia)⟩,⟨_,SqT.of (s12 _ _ hwa)⟩,?_⟩
 refine zr0 (xs:=is) (ys:=us) (by omega) (FsI H ia wa d rows ws) ?start ?lst ?step ?done
 case start=>exact⟨_,_,rfl,s12,z01⟩
 case lst=>
  rintro i σ Hc _ ⟨_,_,rfl,sc,_⟩
  exact⟨SqT.of (sc _ _ hia),SqT.of (sc _ _ hwa)⟩
 case done=>
  rintro σ Hc ⟨_,_,rfl,sc,hc⟩
  show N3 _ _
  rw [e3]
  walk_at "rd7"
  rw [lis,List.take_length,hlen,List.take_length] at hc
  exact q d Hc sc hdf hc
 case step=>
  rintro i x y σ Hc T hx hy ⟨_,_,rfl,sc,hc⟩ hT
  obtain⟨r,hri,dr⟩:=zb7 dia hx
  obtain⟨wd,hwi,dw⟩:=zb7 dwa hy
  cases dw
  obtain⟨ra,r0,r1,r2,rfl,hra,t0,t1,t2⟩:=ztb dr
  cases t0; cases t1; cases t2
  have s3:=z04 hT (HO.tup [V.ref ra,V.int wd])
  have hra3:=s3 _ _ (sc _ _ hra)
  have hf:=hfit.at hri hwi
  have hk:=zkk (rows.take i) (ws.take i) [] (fun r hr=>zhy hrow r (List.mem_of_mem_take hr)) KeyOk.nil
  walk_at "rd7"
  refine⟨_,SqT.of z01,rfl,_,_,rfl,_,_,rfl,rfl,_,rfl,_,SqT.of hra3,_,z1i (j:=1) rfl,_,rfl,_,SqT.of hra3,_,z1i (j:=2) rfl,?_⟩
  refine⟨_,_,_,_,rfl,.int wd,fun H2 s4=>⟨_,rfl,?_⟩⟩
  have hy:zqy (.int wd) r.2.1 r.2.2=true:=by
   show(decide (r.2.1<=wd) && decide (wd<=r.2.2))=true
   simp[hf.1,hf.2]
  rw [if_neg (by rw [hy]; decide)]
  have hc4:=s4 _ _ (s3 _ _ hc)
  refine⟨_,rfl,_,SqT.of (s4 _ _ hra3),_,z1w,_,DPut.k (k:=Sum.inr r.1) hc4 ?_,?_⟩
  ·unfold kvC
   rw [List.length_map]
   exact Nat.lt_of_le_of_lt hk.len (by decide)
  ·refine⟨_,_,rfl,z6m (sc.trans (s3.trans s4)) hdf,?_⟩
   rw [z01,zu3,zkj [] hri hwi]
end
section
variable{P:Program}{w:World}{K:PySem.W.Frag}{mg:Str->Option Value}{base:Heap}{f:Addr}{fd:FuncData}
def z8t(x:Str):Nat:=if x = "a" then 0 else if x = "b" then 1 else if x = "c" then 2 else 3
theorem zu0:(pool.all fun x=>pool.all fun y=>(decide (x.cps.toList < y.cps.toList) == decide (z8t x < z8t y)) && (!(decide (z8t x=z8t y)) || decide (x=y)))=true:=by decide+kernel
theorem zww{x y:Str}(hx:x∈pool)(hy:y∈pool):decide (x.cps.toList < y.cps.toList)=decide (z8t x < z8t y)/\(z8t x=z8t y->x=y):=by
 have h:=zu0
 rw [List.all_eq_true] at h
 have h1:=h x hx
 rw [List.all_eq_true] at h1
 have h2:=h1 y hy
 rw [Bool.and_eq_true,Bool.or_eq_true] at h2
 refine⟨beq_iff_eq.mp h2.1,fun e=>?_⟩
 rcases h2.2 with z | z
 ·rw [decide_eq_true e] at z; cases z
 ·exact of_decide_eq_true z
def q4c(o:Out)(H':Hp)(r:V):Prop:=match o.1 with
 | some e=>Dt H' r (Rs.ref e.1 e.2).enc
 | none=>∃ms:Cnt,ms.Perm o.2.1/\ms.Pairwise (fun p q=>z8t p.1 < z8t q.1)/\Dt H' r (.tup [.str "told",.tup (ms.map zsh)])
abbrev evP(rows:List Rw)(b:List D)(ws:List Int):Out:=evB [] 0 b (stB [] rows ws)
def zhr:Sp:=fun vs H Q _=>∃(gv wv:V) (rows:List Rw) (b:List D) (ws:List Int) (f:Addr) (g':List Str) (lo:Option Addr),vs=[gv,wv,.ref f]/\Dt H gv (.tup [.tup (rows.map rowEnc),.tup (encB b)])/\Dt H wv (pathD ws)/\okRows rows/\Fits rows ws/\okW 4 b/\kbB (rows.map (·.1)) b=some g'/\SetOk f lo H/\HasL lo H ((evP rows b ws).2.2.length+1)/\
 ∀(r:V) (H':Hp),Gr lo H H' (evP rows b ws).2.2->q4c (evP rows b ws) H' r->Q r H'
theorem Gd.gr{d:Addr}{lo:Option Addr}{H H1 H':Hp}{rs:List RI}(h:Gd d lo H1 H' rs)(s:Same H H1)(hd:H d=none)(hl:∀l,lo=some l->∃xs,H l=some (.lst xs)):Gr lo H H' rs:=by
 refine⟨fun a o n e=>h.1 a o (z0d e hd) n (s _ _ e),fun l e=>?_⟩
 obtain⟨xs,hx⟩:=hl l e
 obtain⟨xs',ys,e1,e2,d2⟩:=h.2 l e
 rw [s _ _ hx] at e1
 cases e1
 exact⟨xs,ys,hx,e2,d2⟩
theorem HasL.has{lo:Option Addr}{H:Hp}{n:Nat}(h:HasL lo H n):∀l,lo=some l->∃xs,H l=some (.lst xs):=fun l e=>by
 obtain⟨xs,hx,_⟩:=h l e
 exact⟨xs,hx⟩
end
section
variable{P:Program}{w:World}{K:PySem.W.Frag}{mg:Str->Option Value}{base:Heap}{f:Addr}{fd:FuncData}
theorem zuj(F:Fun K "run_by" "run_by" z34 f fd) (b_sorted:mg "sorted" = none) (b_tuple:mg "tuple" = none) (c_names_at_first:Callee P w K mg base "names_at_first" ["ins","worths"] 3 ztt) (c_do_block:Callee P w K mg base "do_block" ["block","path","names","settle"] 20 (zm8 4)):FnOk P w K mg base CX0 21 f fd ["program","worths","settle"] zhr:=by
 refine F.ok sc_run_by (fun vs H Q E h=>?_) (fun cdv A outer s H vs Q E hr h=>?_)
 ·obtain⟨gv,wv,rows,b,ws,f,g',lo,rfl,_⟩:=h
  rfl
 obtain⟨gv,wv,rows,b,ws,fs,g',lo,rfl,hg,hw,hrow,hfit,hok,hkb,hS,hL,q⟩:=h
 obtain⟨ga,iv,bv,rfl,hga,di,db⟩:=zob hg
 refine⟨_,(z03 (z18 (i:=3) sc_run_by.nd rfl zb8 (z1n c_names_at_first hr (by omega) (z06 (z0z z0p (z00 (i:=0) rfl z51 z3c z3d) z02 (fun _ _=>rfl)) (z06 (z00 (i:=1) rfl z9a z49 z4a) pa_nil)) z5w za4) (z05 rfl))
 (z03 (z18 (i:=4) sc_run_by.nd rfl z8f (z1n c_do_block hr (by omega) (z06 (z0z z0p (z00 (i:=0) rfl z51 z3c z3d) z02 (fun _ _=>rfl)) (z06 (z11 pa_nil) (z06 (z00 (i:=3) rfl z5k z2a z2b) (z06 (z00 (i:=2) rfl z9b z2d z2e) pa_nil)))) z8g z81) (z05 rfl))
 (z03 (z2g (z0f zvc (z00 (i:=4) rfl z50 z5x z5y) zdi (z0m _)) (z07 (z0h (z00 (i:=4) rfl z50 z5x z5y))) z0l)
 (z07 (z0h (z11 (z06 z0i (z06 (zl0 z4q zc7 b_tuple z8j (z06 (z75 (zbf rfl) zba b_sorted zo3 (z06 (zqo (z00 (i:=3) rfl z5k z2a z2b)) pa_nil) zmx znh) pa_nil) z8e z8i) pa_nil)))))))),z0g fun N1 e1=>?_⟩
 walk_at "rd7"
 refine⟨_,SqT.of hga,_,z1w,iv,wv,rows,ws,rfl,di,hw,hrow,hfit,fun d H1 s1 hdn hd=>?_⟩
 rw [e1]
 refine z0g fun N2 e2=>?_
 walk_at "rd7"
 refine⟨_,SqT.of (s1 _ _ hga),_,z1i (j:=1) rfl,Nat.zero_le _,fun p0 hp0=>?_⟩
 have s2:=z04 hp0 (HO.tup [])
 have s12:=s1.trans s2
 have hky:=zkk rows ws [] (zhy hrow) KeyOk.nil
 have hh:=zto rows ws [] [] hfit (fun r hr=>⟨(hrow.lo r hr).1,(hrow.lo r hr).2.2⟩) (fun x hx=>by simp at hx)
 rw [List.nil_append] at hh
 refine⟨bv,b,.ref p0,[],d,fs,stB [] rows ws,_,g',lo,rfl,db.kp s12.kp,.tup z01 .nil,hok,by decide,by decide,hkb,s2 _ _ hd,hky,hh,hS.kp (Same.kpE s12),hL.same s12,fun r H3 gd hd3 ho=>?_⟩
 have G:Gr lo H H3 (evP rows b ws).2.2:=gd.gr s12 hdn hL.has
 have hk3:=zg5 b 4 [] 0 _ hok hky
 rw [e2]
 refine z0g fun N3 e3=>?_
 walk_at "rd7"
 change q4d (evP rows b ws).1 H3 r at ho
 change H3 d=some (.dK (kvC (evP rows b ws).2.1)) at hd3
 change KeyOk (evP rows b ws).2.1 at hk3
 rcases hout:evP rows b ws with⟨oo,cc,rr⟩
 rw [hout] at ho hd3 hk3 G q
 cases oo with
 | some er=>
  have hne:r≠.non:=by
   obtain⟨a4,rfl,_⟩:=zgd (r:=Rs.ref er.1 er.2) ho
   intro z
   cases z
  rw [if_pos (decide_eq_false hne)]
  exact q _ _ G ho
 | none=>
  cases ho
  rw [if_neg (by simp),e3]
  walk_at "rd7"
  refine⟨_,hd3,fun p hp=>?_⟩
  have s6:=z04 hp (zn4 p d)
  refine⟨p,d,cc,z8t,rfl,z01,s6 _ _ hd3,Nat.lt_of_le_of_lt hk3.len (by decide),fun x hx y hy=>zww (hk3.2 x hx) (hk3.2 y hy),fun l7 H7 wt mt s7 f7 h7 d7 pm7 pw7=>?_⟩
  refine⟨_,rfl,_,.inl ⟨SqL.of h7,fun l8 h8=>⟨by decide,fun p9 h9=>?_⟩⟩⟩
  have s8:=z04 h8 (HO.tup wt)
  have s9:=z04 h9 (HO.tup [V.str "told",V.ref l8])
  have s69:=s6.trans (s7.trans (s8.trans s9))
  have hL3:HasL lo H3 0:=by
   have:=hL.on G (m:=0) (by rw [hout]; show rr.length+0<=rr.length+1; omega)
   exact this
  have GG:=G.trans (Gr.same s69 hL3)
  rw [List.append_nil] at GG
  exact q _ _ GG ⟨mt,pm7,pw7,.tup z01 (.cons (.str _) (.cons (.tup (s9 _ _ z01) (d7.kp (s8.trans s9).kp)) .nil))⟩
end
section
variable{P:Program}{w:World}{K:PySem.W.Frag}{mg:Str->Option Value}{base:Heap}{f:Addr}{fd:FuncData}
structure FunC(K:PySem.W.Frag)(x qual:Str)(st:Stmt)(f:Addr)(fd:FuncData)(c:Addr):Prop where
 ex:∃(oc:Value) (od:Option Addr) (kV doc pm:Value) (an:Option Addr) (ct:Value) (osl:Array (Option Value)),
  fd=PySem.W.fnOf x qual (defArgs st) (defBody st) (defScope st) .none kV doc pm an (.ref c) ct/\K.lookup f=some ⟨oc,od,.func fd,osl⟩/\PySem.W.codeIn K (.ref c) qual=true
 kp:PySem.W.keepIn K (.ref f)=true
theorem FunC.ok{P:Program}{w:World}{K:PySem.W.Frag}{mg:Str->Option Value}{base:Heap}{x qual:Str}{st:Stmt}{f c:Addr}{fd:FuncData}{N ps:List Str}{k:Nat}{sp:Sp}(F:FunC K x qual st f fd c)(S:FnScope N ps (defScope st))(len:∀vs H Q E,sp vs H Q E->vs.length=ps.length)
  (hbody:∀(A:Around) (outer:List PySem.Env) (s:Shared) (H:Hp) (vs:List V) (Q:VK) (E:XK),Room k (A.deeper (PyProof.Rows.envOfC qual (defScope st) s.heap.objs.size f (.ref c)))->sp vs H Q E->
   ∃t,PSs (z85 CX0 P w K mg base N qual (defScope st) f (.ref c) A outer s H E).nox (defBody st) t/\t {nx:=fun _ H'=>Q .non H',rt:=Q} (L2.start N vs) H):FnOk P w K mg base CX0 (k+1) f fd ps sp:=by
 obtain⟨oc,od,kV,doc,pm,an,ct,osl,rfl,lk,hcd⟩:=F.ex
 refine zxq lk hcd S len fun A outer s H vs Q E hr hsp=>?_
 obtain⟨t,h,q⟩:=hbody A outer s H vs Q E hr hsp
 exact⟨t,h.nox,q⟩
def TabAt(pt:Addr)(pos:Pos)(q:Str)(H:Hp):Prop:=H pt=some (.tbl #[])\/∃c',H pt=some (.tbl (#[] ++ #[rawInt pos.line,rawInt pos.col,.ref c']))/\H c'=some (zax c' q)
theorem SameB.kpT{pt:Addr}{ps:Array Value}{H H':Hp}(h:SameB pt H H')(hp:H pt=some (.tbl ps)):Kp H H':=
 ⟨fun b xs e=>h b _ (z86 e hp (by intro z; cases z)) e,fun b xs e=>⟨xs,h b _ (z86 e hp (by intro z; cases z)) e⟩⟩
abbrev posR:Pos:=zys (q43 zfw)
abbrev posT:Pos:=zys (q43 z33)
def zzd(pt:Addr):Sp:=fun vs H Q _=>∃(gv wv:V) (rows:List Rw) (b:List D) (ws:List Int) (g':List Str),vs=[gv,wv]/\Dt H gv (.tup [.tup (rows.map rowEnc),.tup (encB b)])/\Dt H wv (pathD ws)/\okRows rows/\Fits rows ws/\okW 4 b/\kbB (rows.map (·.1)) b=some g'/\TabAt pt posR dR.qual H/\
 ∀(r:V) (H':Hp),SameB pt H H'->TabAt pt posR dR.qual H'->q4c (evP rows b ws) H' r->Q r H'
def zqa(pt:Addr):Sp:=fun vs H Q _=>∃(gv wv:V) (rows:List Rw) (b:List D) (ws:List Int) (g':List Str),vs=[gv,wv]/\Dt H gv (.tup [.tup (rows.map rowEnc),.tup (encB b)])/\Dt H wv (pathD ws)/\okRows rows/\Fits rows ws/\okW 4 b/\kbB (rows.map (·.1)) b=some g'/\(evP rows b ws).2.2.length+1 < sizeLine/\TabAt pt posT dT.qual H/\
 ∀(l:Addr) (ys:List V) (H':Hp),SameB pt H H'->H l=none->TabAt pt posT dT.qual H'->H' l=some (.lst ys)->DtA H' ys ((evP rows b ws).2.2.map rowI)->Q (.ref l) H'
theorem zpf(pos:Pos)(c':Addr):TriplesOk (#[] ++ #[rawInt pos.line,rawInt pos.col,Value.ref c']).toList:=by simp[TriplesOk,rawInt]
theorem zuh(pos:Pos)(c':Addr):codeAmong pos (#[] ++ #[rawInt pos.line,rawInt pos.col,Value.ref c']).toList=some (.ref c'):=by simp[codeAmong,rawInt]
theorem zlb{pt:Addr}{pos:Pos}{D:LamD}{cl:List (Str×Addr)}{σ : St}{H:Hp}{Q:VK}(hT:TabAt pt pos D.qual H)(q:∀(fa c':Addr) (H2:Hp),SameB pt H H2->Kp H H2->H fa=none->H2 fa=some (zoc D cl fa c')->H2 c'=some (zax c' D.qual)->TabAt pt pos D.qual H2->Q (.ref fa) H2):q1e pt pos D cl σ H Q:=by
 rcases hT with hT | ⟨c',hT,hc'⟩
 ·refine⟨#[],hT,trivial,.inl ⟨rfl,fun c' fa h1 h2 hne=>?_⟩⟩
  have n1:pt≠c':=z0d hT h1
  have n2:pt≠fa:=z0d hT h2
  have sB:SameB pt H (upd (upd (upd H pt (.tbl (#[] ++ #[rawInt pos.line,rawInt pos.col,.ref c']))) c' (zax c' D.qual)) fa (zoc D cl fa c')):=fun a o n e=>by rw [z0a (z0d e h2),z0a (z0d e h1),z0a n]; exact e
  exact q fa c' _ sB (sB.kpT hT) h2 z01 (by rw [z0a hne,z01]) (.inr ⟨c',by rw [z0a n2,z0a n1,z01],by rw [z0a hne,z01]⟩)
 ·refine⟨_,hT,zpf pos c',.inr ⟨c',zuh pos c',hc',fun fa h1=>?_⟩⟩
  have s1:=z04 h1 (zoc D cl fa c')
  exact q fa c' _ (SameB.of s1) s1.kp h1 z01 (s1 _ _ hc') (.inr ⟨c',s1 _ _ hT,s1 _ _ hc'⟩)
theorem TabAt.kp{pt:Addr}{pos:Pos}{q:Str}{H H':Hp}(h:TabAt pt pos q H)(k:∀a o,(∀xs,o≠.lst xs)->H a=some o->H' a=some o):TabAt pt pos q H':=by
 rcases h with h | ⟨c',h1,h2⟩
 ·exact .inl (k _ _ (by intro xs z; cases z) h)
 ·exact .inr ⟨c',k _ _ (by intro xs z; cases z) h1,k _ _ (by intro xs z; cases z) h2⟩
end
section
variable{P:Program}{w:World}{K:PySem.W.Frag}{mg:Str->Option Value}{base:Heap}{f:Addr}{fd:FuncData}
theorem q2h{c pt:Addr} (F:FunC K "run" "run" zfw f fd c) (hC:PySem.W.CodeHd base c pt) (hB:base.BuiltinsAt mg pt) (hgP:mainGlobals≠pt) (c_run_by:Callee P w K mg base "run_by" ["program","worths","settle"] 21 zhr):FnOk P w K mg base CX0 22 f fd ["program","worths"] (zzd pt):=by
 refine F.ok q1z (fun vs H Q E h=>?_) (fun A outer s H vs Q E hr h=>?_)
 ·obtain⟨gv,wv,rows,b,ws,g',rfl,_⟩:=h
  rfl
 obtain⟨gv,wv,rows,b,ws,g',rfl,hg,hw,hrow,hfit,hok,hkb,hT,q⟩:=h
 refine⟨_,(z07 (z0h (z1n c_run_by hr (by omega) (z06 (z00 (i:=0) rfl zhh z3c z3d) (z06 (z00 (i:=1) rfl zj8 z49 z4a) (z06 (zqn (c:=c) (P:=pt) rfl rfl rfl hC hB hgP) pa_nil))) zli ziu))),?_⟩
 walk_at "rd7"
 show q1e pt posR dR [] [some gv,some wv] H fun x H1=>zhr [gv,wv,x] H1 Q E0
 refine zlb hT fun fa c' H2 sB kp hfa hf hc hT2=>?_
 refine⟨gv,wv,rows,b,ws,fa,g',none,rfl,hg.kp kp,hw.kp kp,hrow,hfit,hok,hkb,⟨c',hf,hc⟩,fun l z=>(by cases z),fun r H' G ho=>q r H' (fun a o n e=>G.1 a o (by simp) (sB a o n e)) (hT2.kp fun a o _ e=>G.1 a o (by simp) e) ho⟩
theorem zui{c pt:Addr} (F:FunC K "traced" "traced" z33 f fd c) (hC:PySem.W.CodeHd base c pt) (hB:base.BuiltinsAt mg pt) (hgP:mainGlobals≠pt) (c_run_by:Callee P w K mg base "run_by" ["program","worths","settle"] 21 zhr):FnOk P w K mg base CX0 22 f fd ["program","worths"] (zqa pt):=by
 refine F.ok sc_traced (fun vs H Q E h=>?_) (fun A outer s H vs Q E hr h=>?_)
 ·obtain⟨gv,wv,rows,b,ws,g',rfl,_⟩:=h
  rfl
 obtain⟨gv,wv,rows,b,ws,g',rfl,hg,hw,hrow,hfit,hok,hkb,hz,hT,q⟩:=h
 have hcl_rows:(z85 CX0 P w K mg base ["program","worths","rows"] "traced" (defScope z33) f (.ref c) A outer s H E).nox.env.cells.lookup ("rows" : Str)=some (s.heap.objs.size+1):=rfl
 refine⟨_,(z03 (z18 (i:=2) sc_traced.nd rfl zc2 (z46 pa_nil) (z05 rfl))
 (z03 (z7p (zub (i:=2) c_run_by hr (by omega) (z06 (z00 (i:=0) rfl z88 z3c z3d) (z06 (z00 (i:=1) rfl z99 z49 z4a) (z06 (zqn (c:=c) (P:=pt) rfl rfl rfl hC hB hgP) pa_nil))) rfl hcl_rows zbe rfl zb9 ziu) (z05 rfl))
 (z07 (z0h (z00 (i:=2) rfl zbr zau zaz))))),z0g fun N1 e1=>?_⟩
 walk_at "rd7"
 refine⟨Nat.zero_le _,fun l hl=>?_⟩
 have s1:=z04 hl (HO.lst [])
 have hll:(upd H l (HO.lst [])) l=some (.lst []):=z01
 generalize upd H l (HO.lst [])=H1 at s1 hll |-
 rw [e1]
 refine z0g fun N2 e2=>?_
 walk_at "rd7"
 show zhp zhr (s.heap.objs.size+1) 2 (zd2 (zq6 0) (zd2 (zq6 1) (zd2 (q1e pt posT dT [("rows",s.heap.objs.size+1)]) zq8))) [some gv,some wv,some (V.ref l)] H1 fun x H1=>N2 [some gv,some wv,some (V.ref l)] H1
 clear hcl_rows
 generalize s.heap.objs.size+1=cc
 simp only[zhp]
 walk_at "rd7"
 have hT1:TabAt pt posT dT.qual H1:=hT.kp fun a o _ e=>s1 _ _ e
 have nlp:l≠pt:=fun z=>by
  rcases hT with h | ⟨_,h,_⟩<;>(rw [<- z,hl] at h; cases h)
 refine zlb hT1 fun fa c' H2 sB kp hfa hf hc hT2=>?_
 refine fun o u hd ru hcn=>?_
 cases ru
 have s3:=z04 hcn (z3w cc o)
 have hcc:(upd H2 cc (z3w cc o)) cc=some (z3w cc o):=z01
 have hl2:=sB l _ nlp hll
 have nlc:l≠cc:=z0d hl2 hcn
 have kpA:=s1.kp.trans (kp.trans s3.kp)
 refine⟨gv,wv,rows,b,ws,fa,g',some l,rfl,hg.kp kpA,hw.kp kpA,hrow,hfit,hok,hkb,⟨c',cc,o,s3 _ _ hf,s3 _ _ hc,hcc,hd⟩,fun l' z=>?_,fun r H4 G ho=>?_⟩
 ·cases z
  exact⟨[],s3 _ _ hl2,by simpa using hz⟩
 have hcc4:=G.keep hcc (by intro xs z; unfold z3w at z; cases z)
 refine⟨hcc4,?_⟩
 obtain⟨xs,ys,e3,e4,d4⟩:=G.2 l rfl
 rw [s3 _ _ hl2] at e3
 cases e3
 have out:∀{a:Addr} {o':HO},H4 a=some o'->H2 a≠none->zeu [cc] H4 a=some o':=fun {a o'} e n=>by
  rw [z1d (fun z=>n (by rw [List.mem_singleton.mp z]; exact hcn))]
  exact e
 rw [e2]
 walk_at "rd7"
 refine q l ys _ (fun a o' n e=>?_) hl (hT2.kp fun a o' n e=>out (G.keep (s3 _ _ e) n) (by rw [e]; simp)) ?_ (d4.kp (zuz hcc4))
 ·have h2:=sB a o' n (s1 _ _ e)
  exact out (G.1 a o' (fun z=>by cases z; rw [hl] at e; cases e) (s3 _ _ h2)) (by rw [h2]; simp)
 ·exact out (by simpa using e4) (by rw [hl2]; simp)
end
section
variable{P:Program}{w:World}{K:PySem.W.Frag}{mg:Str->Option Value}{base:Heap}{f:Addr}{fd:FuncData}
structure TrC(K:PySem.W.Frag)(C:Addr):Prop where
 c:Cls K C
 np:NoAttr K C "program"
 nw:NoAttr K C "worths"
 nr:NoAttr K C "rows"
 nd:NoAttr K C "done"
abbrev trF(gv wv:V)(l:Addr)(k:Int):List (Str×V):=[("program",gv),("worths",wv),("rows",.ref l),("done",.int k)]
def zyc(p2 C:Addr):Sp:=fun vs H Q _=>∃(x dx:Addr) (gv wv:V) (rows:List Rw) (b:List D) (ws:List Int) (g':List Str),vs=[.ref x,gv,wv]/\H x=some (.ins C dx [])/\Dt H gv (.tup [.tup (rows.map rowEnc),.tup (encB b)])/\Dt H wv (pathD ws)/\okRows rows/\Fits rows ws/\okW 4 b/\kbB (rows.map (·.1)) b=some g'/\(evP rows b ws).2.2.length+1 < sizeLine/\TabAt p2 posT dT.qual H/\
 ∀(l:Addr) (ys:List V) (H':Hp),(∀a o,a≠p2->a≠x->H a=some o->H' a=some o)->TabAt p2 posT dT.qual H'->H' x=some (.ins C dx (trF gv wv l 0))->H l=none->H' l=some (.lst ys)->DtA H' ys ((evP rows b ws).2.2.map rowI)->Q .non H'
def zqd(C:Addr):Sp:=fun vs H Q _=>∃(x dx l:Addr) (gv wv:V) (ys:List V) (k:Int),vs=[.ref x]/\H x=some (.ins C dx (trF gv wv l k))/\H l=some (.lst ys)/\∀p,H p=none->Q (.ref p) (upd H p (.tup [.int k,.int (ys.length - k)]))
theorem ne_fields:(("done" : Str) == "program")=false/\(("done" : Str) == "worths")=false/\(("done" : Str) == "rows")=false/\(("rows" : Str) == "program")=false/\(("rows" : Str) == "worths")=false/\(("worths" : Str) == "program")=false:=by decide+kernel
theorem z7s{gv wv:V}{l:Addr}{k:Int}:(trF gv wv l k).lookup ("done" : Str)=some (V.int k):=by
 simp only[trF,List.lookup,ne_fields.1,ne_fields.2.1,ne_fields.2.2.1,beq_self_eq_true]
theorem z91{gv wv:V}{l:Addr}{k:Int}:(trF gv wv l k).lookup ("rows" : Str)=some (V.ref l):=by
 simp only[trF,List.lookup,ne_fields.2.2.2.1,ne_fields.2.2.2.2.1,beq_self_eq_true]
theorem zuv{gv wv:V}{l:Addr}{k:Int}:(trF gv wv l k).lookup ("worths" : Str)=some wv:=by
 simp only[trF,List.lookup,ne_fields.2.2.2.2.2,beq_self_eq_true]
theorem zk3{gv wv:V}{l:Addr}{k:Int}:(trF gv wv l k).lookup ("program" : Str)=some gv:=by
 simp only[trF,List.lookup,beq_self_eq_true]
theorem ne_fields2:(("program" : Str)≠"done"/\("worths" : Str)≠"done"/\("rows" : Str)≠"done")/\("program" : Str)≠"rows"/\("worths" : Str)≠"rows"/\("program" : Str)≠"worths":=by decide+kernel
theorem zql{gv wv:V}{l:Addr}{k j:Int}:z5d ("done" : Str) (.int j) (trF gv wv l k)=trF gv wv l j:=by
 simp only[trF,z5d,ne_fields2.1.1,ne_fields2.1.2.1,ne_fields2.1.2.2,if_false,if_true]
theorem zzt{gv wv:V}{l:Addr}:z5d ("done" : Str) (.int 0) (z5d ("rows" : Str) (.ref l) (z5d ("worths" : Str) wv (z5d ("program" : Str) gv [])))=trF gv wv l 0:=by
 simp only[trF,z5d,ne_fields2.1.1,ne_fields2.1.2.1,ne_fields2.1.2.2,ne_fields2.2.1,ne_fields2.2.2.1,ne_fields2.2.2.2,if_false]
theorem TabAt.ins{pt x C dx:Addr}{pos:Pos}{q:Str}{H:Hp}{fs:List (Str×V)}{o:HO}(h:TabAt pt pos q H)(hx:H x=some (.ins C dx fs)):TabAt pt pos q (upd H x o):=by
 rcases h with h | ⟨c',h,hc⟩
 ·exact .inl (by rw [z0a (z86 h hx (by intro z; cases z))]; exact h)
 ·refine .inr ⟨c',by rw [z0a (z86 h hx (by intro z; cases z))]; exact h,by rw [z0a (z86 hc hx (by intro z; unfold zax at z; cases z))]; exact hc⟩
theorem zgg{x C dx:Addr}{H:Hp}{fs:List (Str×V)}{o:HO}(hx:H x=some (.ins C dx fs)):Kp H (upd H x o):=
 ⟨fun b xs e=>by rw [z0a (z86 e hx (by intro z; cases z))]; exact e,fun b xs e=>⟨xs,by rw [z0a (z86 e hx (by intro z; cases z))]; exact e⟩⟩
theorem zku(f:Str)(v:V):∀fs:List (Str×V),(z5d f v fs).length<=fs.length+1
 | []=>by simp[z5d]
 | (g,x)::r=>by
  unfold z5d
  split
  ·simp
  ·have:=zku f v r
   simp only[List.length_cons]
   omega
theorem TabAt.tb{pt:Addr}{pos:Pos}{q:Str}{H:Hp}(h:TabAt pt pos q H):∃ps,H pt=some (.tbl ps):=by
 rcases h with h | ⟨c',h,_⟩
 ·exact⟨_,h⟩
 ·exact⟨_,h⟩
end
local macro_rules | `(tactic| walk_at "rd11")=>`(tactic| simp only[q3z,q41,zkh,zrt,zjs,zbw,ztk,ztl,zjq,zhz,q24,zi0,zm0,z7o,zq7,ztc,zoh,tOp,zq6,tC,zya,zll,zyw,zpu,q0l,zz8,zrs,zol,zok,tCB,zd2,zq8,zm2,tUn,rU,rI0,rI,zzb,tOr,zz9,tB,zon,q1d,zoj,tIf,q1f,zru,zjr,zom,zho,zow,zhn,zrv,zgb,zrw,tSl,zdn,zoi,zzk,zfn,zjy,zsa,zp0,z9m,z9l,zcr,z9i,z9p,za6,zka,z5e,z7i,zg8,za7,z6j,z5f,z6k,zcw,za8,z6l,z7g,zjt,zzl,tDX,zwi,zz6,zza,tBM,
 qEq,qNe,qIn,zge,zzq,zoz,q1k,zs7,zzp,zp1,zzr,zzo,zs8,zs9,zjz,rIx,zyi,zu1,zzm,zzn,q1h,zs5,q1j,q1i,zdp,zdo,zhm,zjv,zy9,
 zcs,z9k,z9j,z9n,z7h,z9o,L2.start,zkb,z7j,zcx,List.map_cons,List.map_nil,List.length_cons,List.length_nil,List.replicate_succ,List.replicate_zero,Nat.reduceAdd,Nat.reduceSub,Nat.zero_add,Nat.add_zero,Nat.sub_zero,Nat.sub_self,Nat.add_sub_cancel,
 List.getElem?_cons_zero,List.getElem?_cons_succ,List.set_cons_zero,List.set_cons_succ,List.cons_append,List.nil_append,List.append_nil,List.cons.injEq,Option.some.injEq,V.int.injEq,V.ref.injEq,V.str.injEq,V.bl.injEq,V.ty.injEq,
 reduceCtorEq,false_and,and_false,and_true,true_and,exists_false,exists_const,false_or,or_false,exists_eq_left,exists_eq_left',exists_eq_right,exists_eq_right',exists_and_left,decide_eq_true_eq,Bool.not_eq_true',Bool.decide_eq_true,exists_eq,true_or,or_true,Bool.false_eq_true,if_true,if_false,Bool.true_eq_false,Bool.not_true,Bool.not_false,decide_true,decide_false,List.isEmpty_cons,List.isEmpty_nil,Bool.true_and,Bool.false_and,bne_self_eq_false,beq_self_eq_true])
section
variable{P:Program}{w:World}{K:PySem.W.Frag}{mg:Str->Option Value}{base:Heap}{f:Addr}{fd:FuncData}
theorem zi7{C:Addr} (F:Fun K "passed" "Trace.passed" z36 f fd) (b_len:mg "len" = none) (t:TrC K C):FnOk P w K mg base CX0 1 f fd ["self"] (zqd C):=by
 refine F.ok zhx (fun vs H Q E h=>?_) (fun cdv A outer s H vs Q E hr h=>?_)
 ·obtain⟨x,dx,l,gv,wv,ys,k,rfl,_⟩:=h
  rfl
 obtain⟨x,dx,l,gv,wv,ys,k,rfl,hx,hl,q⟩:=h
 refine⟨_,(z07 (z0h (z11 (z06 (z3g (z00 (i:=0) rfl z55 z0v z0x) rfl) (z06 (z0o z8d (z75 zvd zdz b_len zcp (z06 (z3g (z00 (i:=0) rfl z55 z0v z0x) rfl) pa_nil) zc1 zcj) (z3g (z00 (i:=0) rfl z55 z0v z0x) rfl)) pa_nil))))),?_⟩
 walk_at "rd11"
 exact⟨_,_,_,hx,t.c,t.nd,_,z7s,_,_,_,hx,t.c,t.nr,_,z91,_,zyr (SqL.of hl),_,_,_,hx,t.c,t.nd,_,z7s,_,rfl,by decide,q⟩
theorem zl4{p2 C:Addr} (F:Fun K "__init__" "Trace.__init__" z2o f fd) (t:TrC K C) (c_traced:Callee P w K mg base "traced" ["program","worths"] 22 (zqa p2)):FnOk P w K mg base CX0 23 f fd ["self","program","worths"] (zyc p2 C):=by
 refine F.ok zeh (fun vs H Q E h=>?_) (fun cdv A outer s H vs Q E hr h=>?_)
 ·obtain⟨x,dx,gv,wv,rows,b,ws,g',rfl,_⟩:=h
  rfl
 obtain⟨x,dx,gv,wv,rows,b,ws,g',rfl,hx,hg,hw,hrow,hfit,hok,hkb,hz,hT,q⟩:=h
 refine⟨_,(z03 (z9q (f:="program") (z00 (i:=0) rfl z1e z0v z0x) (z00 (i:=1) rfl z3j z3c z3d) (z05 rfl))
 (z03 (z9q (f:="worths") (z00 (i:=0) rfl z1e z0v z0x) (z00 (i:=2) rfl z3o z49 z4a) (z05 rfl))
 (z03 (z9q (f:="rows") (z00 (i:=0) rfl z1e z0v z0x) (z1n c_traced hr (by omega) (z06 (z00 (i:=1) rfl z3j z3c z3d) (z06 (z00 (i:=2) rfl z3o z49 z4a) pa_nil)) z79 zng) (z05 rfl))
 (z07 (z9q (f:="done") (z00 (i:=0) rfl z1e z0v z0x) z02 (z05 rfl)))))),z0g fun N1 e1=>?_⟩
 walk_at "rd11"
 refine⟨_,_,_,hx,t.c,t.np,by decide,?_⟩
 rw [e1]
 refine z0g fun N2 e2=>?_
 walk_at "rd11"
 have hx1:(upd H x (HO.ins C dx (z5d ("program" : Str) gv []))) x=some (.ins C dx (z5d ("program" : Str) gv [])):=z01
 have k1:Kp H (upd H x (HO.ins C dx (z5d ("program" : Str) gv []))):=zgg hx
 have hT1:TabAt p2 posT dT.qual (upd H x (HO.ins C dx (z5d ("program" : Str) gv []))):=hT.ins hx
 have m1:∀a o,a≠x->H a=some o->(upd H x (HO.ins C dx (z5d ("program" : Str) gv []))) a=some o:=fun a o n e=>by rw [z0a n]; exact e
 generalize upd H x (HO.ins C dx (z5d ("program" : Str) gv []))=H1 at hx1 k1 hT1 m1 |-
 refine⟨_,_,_,hx1,t.c,t.nw,by simp[z5d],?_⟩
 have hx2:(upd H1 x (HO.ins C dx (z5d ("worths" : Str) wv (z5d ("program" : Str) gv [])))) x=some (.ins C dx (z5d ("worths" : Str) wv (z5d ("program" : Str) gv []))):=z01
 have k2:Kp H1 (upd H1 x (HO.ins C dx (z5d ("worths" : Str) wv (z5d ("program" : Str) gv [])))):=zgg hx1
 have hT2:TabAt p2 posT dT.qual (upd H1 x (HO.ins C dx (z5d ("worths" : Str) wv (z5d ("program" : Str) gv [])))):=hT1.ins hx1
 have m2:∀a o,a≠x->H1 a=some o->(upd H1 x (HO.ins C dx (z5d ("worths" : Str) wv (z5d ("program" : Str) gv [])))) a=some o:=fun a o n e=>by rw [z0a n]; exact e
 generalize upd H1 x (HO.ins C dx (z5d ("worths" : Str) wv (z5d ("program" : Str) gv [])))=H2 at hx2 k2 hT2 m2 |-
 rw [e2]
 refine z0g fun N3 e3=>?_
 walk_at "rd11"
 refine⟨gv,wv,rows,b,ws,g',rfl,(hg.kp k1).kp k2,(hw.kp k1).kp k2,hrow,hfit,hok,hkb,hz,hT2,fun l ys H3 sB hln hT3 hl dys=>?_⟩
 obtain⟨ps,hps⟩:=hT2.tb
 have hx3:=sB _ _ (z86 hx2 hps (by intro z; cases z)) hx2
 have l1:=zku "program" gv []
 have l2:=zku "worths" wv (z5d ("program" : Str) gv [])
 have l3:=zku "rows" (V.ref l) (z5d ("worths" : Str) wv (z5d ("program" : Str) gv []))
 simp only[List.length_nil] at l1
 have nlx:l≠x:=z86 hl hx3 (by intro z; cases z)
 refine⟨_,_,_,hx3,t.c,t.nr,by omega,?_⟩
 rw [e3]
 walk_at "rd11"
 refine⟨_,_,_,z01,t.c,t.nd,by omega,?_⟩
 rw [zzt]
 have hx4:(upd H3 x (HO.ins C dx (z5d ("rows" : Str) (V.ref l) (z5d ("worths" : Str) wv (z5d ("program" : Str) gv []))))) x=some (.ins C dx (z5d ("rows" : Str) (V.ref l) (z5d ("worths" : Str) wv (z5d ("program" : Str) gv [])))):=z01
 refine q l ys _ (fun a o n1 n2 e=>?_) ((hT3.ins hx3).ins hx4) z01 ?_ ?_ ((dys.kp (zgg hx3)).kp (zgg hx4))
 ·rw [z0a n2,z0a n2]
  exact sB _ _ n1 (m2 _ _ n2 (m1 _ _ n2 e))
 ·cases hHl:H l with
  | none=>rfl
  | some o=>
   have:=m2 _ _ nlx (m1 _ _ nlx hHl)
   rw [hln] at this
   cases this
 ·rw [z0a nlx,z0a nlx]
  exact hl
end
section
variable{P:Program}{w:World}{K:PySem.W.Frag}{mg:Str->Option Value}{base:Heap}{f:Addr}{fd:FuncData}
def zye(C:Addr):Sp:=fun vs H Q _=>∃(x dx l:Addr) (gv wv:V) (ys:List V) (k:Nat) (y:V),vs=[.ref x]/\H x=some (.ins C dx (trF gv wv l (k+1)))/\H l=some (.lst ys)/\ys[k]?=some y/\Q y (upd H x (.ins C dx (trF gv wv l k)))
def zm6(p1 C:Addr):Sp:=fun vs H Q _=>∃(x dx l:Addr) (gv wv:V) (k:Int),vs=[.ref x]/\H x=some (.ins C dx (trF gv wv l k))/\zzd p1 [gv,wv] H Q E0
def q1x(C N:Addr):Sp:=fun vs H _ E=>∃(x dx l:Addr) (gv wv:V) (ys:List V),vs=[.ref x]/\H x=some (.ins C dx (trF gv wv l ys.length))/\H l=some (.lst ys)/\E (.ref N) none H
def ztu(C N:Addr):Sp:=fun vs H _ E=>∃(x dx l:Addr) (gv wv:V),vs=[.ref x]/\H x=some (.ins C dx (trF gv wv l 0))/\E (.ref N) none H
abbrev q1m:List Value:=[.type "ValueError",.type "Exception",.type "BaseException",.type "object"]
end
section
variable{P:Program}{w:World}{K:PySem.W.Frag}{mg:Str->Option Value}{base:Heap}{f:Addr}{fd:FuncData}
theorem zl5{C:Addr} (F:Fun K "back" "Trace.back" z3q f fd) (t:TrC K C):FnOk P w K mg base CX0 1 f fd ["self"] (zye C):=by
 refine F.ok zei (fun vs H Q E h=>?_) (fun cdv A outer s H vs Q E hr h=>?_)
 ·obtain⟨x,dx,l,gv,wv,ys,k,y,rfl,_⟩:=h
  rfl
 obtain⟨x,dx,l,gv,wv,ys,k,y,rfl,hx,hl,hy,q⟩:=h
 refine⟨_,(z03 (z2g (z0f zdj (z3g (z00 (i:=0) rfl z0y z0v z0x) rfl) z02 (z0m _)) (z07 zhb) z0l)
 (z03 (z9q (f:="done") (z00 (i:=0) rfl z0y z0v z0x) (z0o z8d (z3g (z00 (i:=0) rfl z0y z0v z0x) rfl) z02) (z05 rfl))
 (z07 (z0h (z0z z4n (z3g (z00 (i:=0) rfl z0y z0v z0x) rfl) (z3g (z00 (i:=0) rfl z0y z0v z0x) rfl) (fun _ _=>rfl)))))),z0g fun N1 e1=>?_⟩
 walk_at "rd11"
 refine⟨_,_,_,hx,t.c,t.nd,_,z7s,_,rfl,?_⟩
 rw [if_neg (by omega),e1]
 refine z0g fun N2 e2=>?_
 walk_at "rd11"
 refine⟨_,_,_,hx,t.c,t.nd,_,z7s,_,rfl,_,_,_,hx,t.c,t.nd,by simp,?_⟩
 rw [zql,e2,show((k:Int)+1 - 1)=(k:Int) by omega]
 have nl:l≠x:=z86 hl hx (by intro z; cases z)
 have hl2:(upd H x (HO.ins C dx (trF gv wv l k))) l=some (.lst ys):=by rw [z0a nl]; exact hl
 walk_at "rd11"
 exact⟨_,_,_,z01,t.c,t.nr,_,z91,_,_,_,z01,t.c,t.nd,_,z7s,l,rfl,_,_,rfl,SqL.of hl2,y,z1i hy,q⟩
theorem zgx{p1 C:Addr} (F:Fun K "outcome" "Trace.outcome" z2n f fd) (t:TrC K C) (c_run:Callee P w K mg base "run" ["program","worths"] 22 (zzd p1)):FnOk P w K mg base CX0 23 f fd ["self"] (zm6 p1 C):=by
 refine F.ok zgt (fun vs H Q E h=>?_) (fun cdv A outer s H vs Q E hr h=>?_)
 ·obtain⟨x,dx,l,gv,wv,k,rfl,_⟩:=h
  rfl
 obtain⟨x,dx,l,gv,wv,k,rfl,hx,q⟩:=h
 refine⟨_,(z07 (z0h (z1n c_run hr (by omega) (z06 (z3g (z00 (i:=0) rfl z6b z0v z0x) rfl) (z06 (z3g (z00 (i:=0) rfl z6b z0v z0x) rfl) pa_nil)) zde q37))),?_⟩
 walk_at "rd11"
 exact⟨_,_,_,hx,t.c,t.np,_,zk3,_,_,_,hx,t.c,t.nw,_,zuv,q⟩
theorem zmu{C a_NoStep:Addr} (F:Fun K "go" "Trace.go" z5c f fd) (b_len:mg "len" = none) (x_NoStep:PySem.W.nsIn K mainGlobals "NoStep" = some (some (.ref a_NoStep))) (q_NoStep:PySem.W.excIn K a_NoStep q1m "ValueError.__new__" = true) (t:TrC K C):FnOk P w K mg base (CX1 P w) 1 f fd ["self"] (q1x C a_NoStep):=by
 refine F.okx zov (fun vs H Q E h=>?_) (fun cdv A outer s H vs Q E hr h=>?_)
 ·obtain⟨x,dx,l,gv,wv,ys,rfl,_⟩:=h
  rfl
 obtain⟨x,dx,l,gv,wv,ys,rfl,hx,hl,q⟩:=h
 refine⟨_,(z03 (z2g (z0f zdj (z3g (z00 (i:=0) rfl z3a z0v z0x) rfl) (z75 zvd ziq b_len zcp (z06 (z3g (z00 (i:=0) rfl z3a z0v z0x) rfl) pa_nil) zc1 zcj) (z0m _)) (z07 (zby x_NoStep q_NoStep PySem.F.excBase_ValueError (by decide+kernel) PySem.F.excBase_ValueError (z06 z0i pa_nil) zf5 zfc)) z0l)
 (z03 (z9q (f:="done") (z00 (i:=0) rfl z3a z0v z0x) (z0o z1h (z3g (z00 (i:=0) rfl z3a z0v z0x) rfl) z02) (z05 rfl))
 (z07 (z0h (z0z z4n (z3g (z00 (i:=0) rfl z3a z0v z0x) rfl) (z0o z8d (z3g (z00 (i:=0) rfl z3a z0v z0x) rfl) z02) (fun _ _=>rfl)))))),z0g fun N1 e1=>?_⟩
 walk_at "rd11"
 refine⟨_,_,_,hx,t.c,t.nd,_,z7s,_,_,_,hx,t.c,t.nr,_,z91,_,zyr (SqL.of hl),_,rfl,?_⟩
 rw [if_pos rfl]
 exact⟨by decide,q⟩
theorem zje{C a_NoStep:Addr} (F:Fun K "back" "Trace.back" z3q f fd) (x_NoStep:PySem.W.nsIn K mainGlobals "NoStep" = some (some (.ref a_NoStep))) (q_NoStep:PySem.W.excIn K a_NoStep q1m "ValueError.__new__" = true) (t:TrC K C):FnOk P w K mg base (CX1 P w) 1 f fd ["self"] (ztu C a_NoStep):=by
 refine F.okx zei (fun vs H Q E h=>?_) (fun cdv A outer s H vs Q E hr h=>?_)
 ·obtain⟨x,dx,l,gv,wv,rfl,_⟩:=h
  rfl
 obtain⟨x,dx,l,gv,wv,rfl,hx,q⟩:=h
 refine⟨_,(z03 (z2g (z0f zdj (z3g (z00 (i:=0) rfl z0y z0v z0x) rfl) z02 (z0m _)) (z07 (zby x_NoStep q_NoStep PySem.F.excBase_ValueError (by decide+kernel) PySem.F.excBase_ValueError (z06 z0i pa_nil) zdf zfc)) z0l)
 (z03 (z9q (f:="done") (z00 (i:=0) rfl z0y z0v z0x) (z0o z8d (z3g (z00 (i:=0) rfl z0y z0v z0x) rfl) z02) (z05 rfl))
 (z07 (z0h (z0z z4n (z3g (z00 (i:=0) rfl z0y z0v z0x) rfl) (z3g (z00 (i:=0) rfl z0y z0v z0x) rfl) (fun _ _=>rfl)))))),z0g fun N1 e1=>?_⟩
 walk_at "rd11"
 refine⟨_,_,_,hx,t.c,t.nd,_,z7s,_,rfl,?_⟩
 rw [if_pos rfl]
 exact⟨by decide,q⟩
end
section
variable{P:Program}{w:World}{K:PySem.W.Frag}{mg:Str->Option Value}{base:Heap}{f:Addr}{fd:FuncData}
def kinds6:List Str:=["bad paper","bad plan","no program","no step","no text","no worths"]
def zoq(K:PySem.W.Frag)(as:List Addr):Sp:=fun vs H Q _=>∃(x C:Addr) (j:Nat) (wd:Str),vs=[.ref x]/\H x=some (HO.exc x C)/\ExcC K C/\(∀i a,as[i]?=some a->PySem.W.kitOne K (.ref C) (.ref a)=some (decide (i=j)))/\PySem.W.kitOne K (.ref C) (.type "ValueError")=some true/\kinds6[j]?=some wd/\∀H',Same H H'->Q (.str wd) H'
def ztq(P:Program)(w:World)(K:PySem.W.Frag)(mg:Str->Option Value)(base:Heap)(Rc:Addr)(as:List Addr):Sp:=fun vs H Q _=>∃fa:Addr,vs=[.ref fa]/\IsLam H fa/\q3v P w K mg base 25 fa H [] Q
 (fun cls _ H2=>∃C,cls=.ref C/\PySem.W.exmOne K (.ref C) (.ref Rc)=some true/\∀x,H2 x=none->zoq K as [.ref x] (upd H2 x (HO.exc x C)) Q E0)
end
local macro_rules | `(tactic| walk_at "rd12")=>`(tactic| simp only[zz7,q4a,zoy,zox,q3z,q41,zkh,zrt,zjs,zbw,ztk,ztl,zjq,zhz,q24,zi0,zm0,z7o,zq7,ztc,zoh,tOp,zq6,tC,zya,zll,zyw,zpu,q0l,zz8,zrs,zol,zok,tCB,zd2,zq8,zm2,tUn,rU,rI0,rI,zzb,tOr,zz9,tB,zon,q1d,zoj,tIf,q1f,zru,zjr,zom,zho,zow,zhn,zrv,zgb,zrw,tSl,zdn,zoi,zzk,zfn,zjy,zsa,zp0,z9m,z9l,zcr,z9i,z9p,za6,zka,z5e,z7i,zg8,za7,z6j,z5f,z6k,zcw,za8,z6l,z7g,zjt,zzl,tDX,zwi,zz6,zza,tBM,
 qEq,qNe,qIn,zge,zzq,zoz,q1k,zs7,zzp,zp1,zzr,zzo,zs8,zs9,zjz,rIx,zyi,zu1,zzm,zzn,q1h,zs5,q1j,q1i,zdp,zdo,zhm,zjv,zy9,
 zcs,z9k,z9j,z9n,z7h,z9o,L2.start,zkb,z7j,zcx,List.map_cons,List.map_nil,List.length_cons,List.length_nil,List.replicate_succ,List.replicate_zero,Nat.reduceAdd,Nat.reduceSub,Nat.zero_add,Nat.add_zero,Nat.sub_zero,Nat.sub_self,Nat.add_sub_cancel,
 List.getElem?_cons_zero,List.getElem?_cons_succ,List.set_cons_zero,List.set_cons_succ,List.cons_append,List.nil_append,List.append_nil,List.cons.injEq,Option.some.injEq,V.int.injEq,V.ref.injEq,V.str.injEq,V.bl.injEq,V.ty.injEq,
 reduceCtorEq,false_and,and_false,and_true,true_and,exists_false,exists_const,false_or,or_false,exists_eq_left,exists_eq_left',exists_eq_right,exists_eq_right',exists_and_left,decide_eq_true_eq,Bool.not_eq_true',Bool.decide_eq_true,exists_eq,true_or,or_true,Bool.false_eq_true,if_true,if_false,Bool.true_eq_false,Bool.not_true,Bool.not_false,decide_true,decide_false,List.isEmpty_cons,List.isEmpty_nil,Bool.true_and,Bool.false_and,bne_self_eq_false,beq_self_eq_true])
section
variable{P:Program}{w:World}{K:PySem.W.Frag}{mg:Str->Option Value}{base:Heap}{f:Addr}{fd:FuncData}
theorem zmq{a_NoWorths a_BadPaper a_BadPlan a_NoProgram a_NoText a_NoStep:Addr} (F:Fun K "_law_class" "_law_class" z16 f fd) (b_isinstance:mg "isinstance" = none) (b_ValueError:mg "ValueError" = none)
  (m_NoWorths:mg "NoWorths" = some (.ref a_NoWorths)) (m_BadPaper:mg "BadPaper" = some (.ref a_BadPaper)) (m_BadPlan:mg "BadPlan" = some (.ref a_BadPlan)) (m_NoProgram:mg "NoProgram" = some (.ref a_NoProgram)) (m_NoText:mg "NoText" = some (.ref a_NoText)) (m_NoStep:mg "NoStep" = some (.ref a_NoStep)):FnOkH P w K mg base 1 f fd ["_law_kept"] (zoq K [a_BadPaper,a_BadPlan,a_NoProgram,a_NoStep,a_NoText,a_NoWorths]):=by
 refine q2z F sc_law_class (fun vs H Q E h=>?_) (fun cdv A outer s H vs Q E hr h=>?_)
 ·obtain⟨x,C,j,wd,rfl,_⟩:=h
  rfl
 obtain⟨x,C,j,wd,rfl,hx,ec,hk,kv,hwd,q⟩:=h
 have hj:j < 6:=(List.getElem?_eq_some_iff.mp hwd).1
 refine⟨_,(z03 (z18 (i:=1) sc_law_class.nd rfl z5u (z46 (z06 (z75 zb2 z14 b_isinstance z2l (z06 (z00 (i:=0) rfl z13 z5a z5b) (z06 (zdq (v:=V.ref a_BadPaper) zcb m_BadPaper rfl zq1) pa_nil)) z2j z2k) (z06 (z75 zb2 z14 b_isinstance z2l (z06 (z00 (i:=0) rfl z13 z5a z5b) (z06 (zdq (v:=V.ref a_BadPlan) zda m_BadPlan rfl zt2) pa_nil)) z2j z2k) (z06 (z75 zb2 z14 b_isinstance z2l (z06 (z00 (i:=0) rfl z13 z5a z5b) (z06 (zdq (v:=V.ref a_NoProgram) zbp m_NoProgram rfl znt) pa_nil)) z2j z2k) pa_nil)))) (z05 rfl))
 (z03 (z18 (i:=1) sc_law_class.nd rfl z5u (z0o zqs (z00 (i:=1) rfl z41 zav zb0) (z46 (z06 (z75 zb2 z14 b_isinstance z2l (z06 (z00 (i:=0) rfl z13 z5a z5b) (z06 (zdq (v:=V.ref a_NoStep) zdv m_NoStep rfl zfc) pa_nil)) z2j z2k) (z06 (z75 zb2 z14 b_isinstance z2l (z06 (z00 (i:=0) rfl z13 z5a z5b) (z06 (zdq (v:=V.ref a_NoText) zdu m_NoText rfl zvy) pa_nil)) z2j z2k) (z06 (z75 zb2 z14 b_isinstance z2l (z06 (z00 (i:=0) rfl z13 z5a z5b) (z06 (zdq (v:=V.ref a_NoWorths) zca m_NoWorths rfl ze6) pa_nil)) z2j z2k) pa_nil))))) (z05 rfl))
 (z03 (z2g (PW.pt (zgu (z0f zmp (zi3 PySem.F.plainAttrs_list PySem.F.slot_list_count PySem.F.type_list_count zuq (z00 (i:=1) rfl z41 zav zb0) (z06 zjb pa_nil)) z02 (z0m _)) (zgf (zmh (zk0 (z75 zb2 z14 b_isinstance z2l (z06 (z00 (i:=0) rfl z13 z5a z5b) (z06 (zl1 (v:=V.ty "ValueError") zas b_ValueError zlw rfl zl8 zls) pa_nil)) z2j z2k)))))) (z07 (z0h z0i)) z0l)
 (z07 (z0h (z0z z4n (z46 (z06 z0i (z06 z0i (z06 z0i (z06 z0i (z06 z0i (z06 z0i pa_nil))))))) (zi3 PySem.F.plainAttrs_list PySem.F.slot_list_index PySem.F.type_list_index zup (z00 (i:=1) rfl z41 zav zb0) (z06 zjb pa_nil)) (fun _ _=>rfl))))))),z0g fun N1 e1=>?_⟩
 walk_at "rd12"
 refine⟨_,_,_,⟨rfl,rfl⟩,hx,_,rfl,fun _ z=>z,ec,_,hk 0 _ rfl,_,_,_,⟨rfl,rfl⟩,hx,_,rfl,fun _ z=>z,ec,_,hk 1 _ rfl,_,_,_,⟨rfl,rfl⟩,hx,_,rfl,fun _ z=>z,ec,_,hk 2 _ rfl,by decide,fun l hl=>?_⟩
 have s1:=z04 hl (HO.lst [V.bl (decide (0=j)),V.bl (decide (1=j)),V.bl (decide (2=j))])
 have hx1:=s1 _ _ hx
 have hl1:(upd H l (HO.lst [V.bl (decide (0=j)),V.bl (decide (1=j)),V.bl (decide (2=j))])) l=some (.lst [V.bl (decide (0=j)),V.bl (decide (1=j)),V.bl (decide (2=j))]):=z01
 generalize upd H l (HO.lst [V.bl (decide (0=j)),V.bl (decide (1=j)),V.bl (decide (2=j))])=H1 at s1 hx1 hl1 |-
 rw [e1]
 refine z0g fun N2 e2=>?_
 walk_at "rd12"
 refine⟨_,_,_,⟨rfl,rfl⟩,hx1,_,rfl,fun _ z=>z,ec,_,hk 3 _ rfl,_,_,_,⟨rfl,rfl⟩,hx1,_,rfl,fun _ z=>z,ec,_,hk 4 _ rfl,_,_,_,⟨rfl,rfl⟩,hx1,_,rfl,fun _ z=>z,ec,_,hk 5 _ rfl,by decide,fun l2 hl2=>?_⟩
 have s2:=z04 hl2 (HO.lst [V.bl (decide (3=j)),V.bl (decide (4=j)),V.bl (decide (5=j))])
 have hx2:=s2 _ _ hx1
 have hl12:=s2 _ _ hl1
 have hl22:(upd H1 l2 (HO.lst [V.bl (decide (3=j)),V.bl (decide (4=j)),V.bl (decide (5=j))])) l2=some (.lst [V.bl (decide (3=j)),V.bl (decide (4=j)),V.bl (decide (5=j))]):=z01
 generalize upd H1 l2 (HO.lst [V.bl (decide (3=j)),V.bl (decide (4=j)),V.bl (decide (5=j))])=H2 at s2 hx2 hl12 hl22 |-
 refine⟨_,hl12,_,hl22,(by decide:3+3<=sizeLine),fun l3 hl3=>?_⟩
 have s3:=z04 hl3 (HO.lst ([V.bl (decide (0=j)),V.bl (decide (1=j)),V.bl (decide (2=j))]++[V.bl (decide (3=j)),V.bl (decide (4=j)),V.bl (decide (5=j))]))
 have hx3:=s3 _ _ hx2
 have hl33:(upd H2 l3 (HO.lst ([V.bl (decide (0=j)),V.bl (decide (1=j)),V.bl (decide (2=j))]++[V.bl (decide (3=j)),V.bl (decide (4=j)),V.bl (decide (5=j))]))) l3=some (.lst ([decide (0=j),decide (1=j),decide (2=j),decide (3=j),decide (4=j),decide (5=j)].map V.bl)):=z01
 generalize upd H2 l3 (HO.lst ([V.bl (decide (0=j)),V.bl (decide (1=j)),V.bl (decide (2=j))]++[V.bl (decide (3=j)),V.bl (decide (4=j)),V.bl (decide (5=j))]))=H3 at s3 hx3 hl33 |-
 have hc:[decide (0=j),decide (1=j),decide (2=j),decide (3=j),decide (4=j),decide (5=j)].count true=1:=by
  rcases(show j=0\/j=1\/j=2\/j=3\/j=4\/j=5 by omega) with rfl | rfl | rfl | rfl | rfl | rfl<;>decide
 have hi:[decide (0=j),decide (1=j),decide (2=j),decide (3=j),decide (4=j),decide (5=j)][j]?=some true/\∀m,m < j->[decide (0=j),decide (1=j),decide (2=j),decide (3=j),decide (4=j),decide (5=j)][m]?≠some true:=by
  rcases(show j=0\/j=1\/j=2\/j=3\/j=4\/j=5 by omega) with rfl | rfl | rfl | rfl | rfl | rfl<;>exact⟨by decide,by decide⟩
 generalize [decide (0=j),decide (1=j),decide (2=j),decide (3=j),decide (4=j),decide (5=j)]=bs at hl33 hc hi
 rw [e2]
 refine z0g fun N3 e3=>?_
 walk_at "rd12"
 refine⟨.inl ⟨rfl,_,SqL.of hl33⟩,bs,hl33,?_⟩
 rw [hc,if_neg (by decide)]
 refine⟨_,_,_,⟨rfl,rfl⟩,hx3,_,rfl,fun _ z=>z,ec,_,kv,?_⟩
 rw [if_neg (by decide),e3]
 walk_at "rd12"
 refine⟨by decide,fun l4 hl4=>?_⟩
 have s4:=z04 hl4 (HO.lst [V.str "bad paper",V.str "bad plan",V.str "no program",V.str "no step",V.str "no text",V.str "no worths"])
 exact⟨.inl ⟨rfl,_,SqL.of (s4 _ _ hl33)⟩,bs,s4 _ _ hl33,j,hi.1,hi.2,by omega,_,SqL.of z01,.str wd,z1i (show(kinds6.map V.str)[j]?=some (V.str wd) by rw [List.getElem?_map,hwd]; rfl),q _ (s1.trans (s2.trans (s3.trans s4)))⟩
theorem zph{a_RoomError:Addr}{as:List Addr} (F:Fun K "_law_told" "_law_told" z44 f fd) (m_RoomError:mg "RoomError" = some (.ref a_RoomError)) (ch_law_class:CalleeH P w K mg base "_law_class" ["_law_kept"] 1 (zoq K as)):FnOk P w K mg base CX0 26 f fd ["_law_deed"] (ztq P w K mg base a_RoomError as):=by
 refine F.ok sc_law_told (fun vs H Q E h=>?_) (fun cdv A outer s H vs Q E hr h=>?_)
 ·obtain⟨fa,rfl,_⟩:=h
  rfl
 obtain⟨fa,rfl,hl,q⟩:=h
 refine⟨_,(z07 (zzu (i:=1) (q:=0) (k:=25) ch_law_class hr (by omega) (by omega) rfl rfl rfl m_RoomError zc8 sc_law_told.nd rfl zjl rfl zbg zbo znq zo0 zlr zns q5p q5q)),?_⟩
 walk_at "rd12"
 exact⟨hl,q⟩
end
local macro_rules | `(tactic| walk_at "rd7")=>`(tactic| simp only[zjs,zbw,ztk,ztl,zjq,zhz,q24,zi0,zm0,z7o,zq7,ztc,zoh,tOp,zq6,tC,zya,zll,zyw,zpu,q0l,zz8,zrs,zol,zok,tCB,zd2,zq8,zm2,tUn,rU,rI0,rI,zzb,tOr,zz9,tB,zon,q1d,zoj,tIf,q1f,zru,zjr,zom,zho,zow,zhn,zrv,zgb,zrw,tSl,zdn,zoi,zzk,zfn,zjy,zsa,zp0,z9m,z9l,zcr,z9i,z9p,za6,zka,z5e,z7i,zg8,za7,z6j,z5f,z6k,zcw,za8,z6l,z7g,zjt,q23,zzl,tDX,zwi,zz6,zza,tBM,
 qEq,qNe,qIn,zge,zzq,zoz,q1k,zs7,zzp,zp1,zzr,zzo,zs8,zs9,zjz,rIx,zyi,zu1,zzm,zzn,q1h,zs5,q1j,q1i,zdp,zdo,zhm,zjv,zy9,
 zcs,z9k,z9j,z9n,z7h,z9o,L2.start,zkb,z7j,zcx,List.map_cons,List.map_nil,List.length_cons,List.length_nil,List.replicate_succ,List.replicate_zero,Nat.reduceAdd,Nat.reduceSub,Nat.zero_add,Nat.add_zero,Nat.sub_zero,Nat.sub_self,Nat.add_sub_cancel,
 List.getElem?_cons_zero,List.getElem?_cons_succ,List.set_cons_zero,List.set_cons_succ,List.cons_append,List.nil_append,List.append_nil,List.cons.injEq,Option.some.injEq,V.int.injEq,V.ref.injEq,V.str.injEq,V.bl.injEq,V.ty.injEq,
 reduceCtorEq,false_and,and_false,and_true,true_and,exists_false,exists_const,false_or,or_false,exists_eq_left,exists_eq_left',exists_eq_right,exists_eq_right',exists_and_left,decide_eq_true_eq,Bool.not_eq_true',Bool.decide_eq_true,exists_eq,true_or,or_true,Bool.false_eq_true,if_true,if_false,Bool.true_eq_false,Bool.not_true,Bool.not_false,decide_true,decide_false,List.isEmpty_cons,List.isEmpty_nil,Bool.true_and,Bool.false_and,bne_self_eq_false,beq_self_eq_true])
section
variable{P:Program}{w:World}{K:PySem.W.Frag}{mg:Str->Option Value}{base:Heap}{f:Addr}{fd:FuncData}
theorem Fits.snoc:∀{rows:List Rw} {ws:List Int} {r:Rw} {w:Int},Fits rows ws->r.2.1<=w->w<=r.2.2->Fits (rows++[r]) (ws++[w])
 | [],[],r,w,_,h1,h2=>⟨h1,h2,trivial⟩
 | a::rows,b::ws,r,w,h,h1,h2=>⟨h.1,h.2.1,Fits.snoc h.2.2 h1 h2⟩
 | [],_::_,_,_,h,_,_=>h.elim
 | _::_,[],_,_,h,_,_=>h.elim
theorem Df.calleeX{x:Str}{st:Stmt}{ps:List Str}{k:Nat}{sp:Sp}(d:Df K mg x st ps f fd)(h:FnOk P w K mg base (CX1 P w) k f fd ps sp):CalleeX P w K mg base x ps k sp:=⟨f,fd,h,d.m,d.F.kp,d.b⟩
theorem FunC.okx{x qual:Str}{st:Stmt}{f c:Addr}{fd:FuncData}{N ps:List Str}{k:Nat}{sp:Sp}(F:FunC K x qual st f fd c)(S:FnScope N ps (defScope st))(len:∀vs H Q E,sp vs H Q E->vs.length=ps.length)
  (hbody:∀(A:Around) (outer:List PySem.Env) (s:Shared) (H:Hp) (vs:List V) (Q:VK) (E:XK),Room k (A.deeper (PyProof.Rows.envOfC qual (defScope st) s.heap.objs.size f (.ref c)))->sp vs H Q E->
   ∃t,PSs (z85 (CX1 P w) P w K mg base N qual (defScope st) f (.ref c) A outer s H E) (defBody st) t/\t {nx:=fun _ H'=>Q .non H',rt:=Q} (L2.start N vs) H):FnOk P w K mg base (CX1 P w) (k+1) f fd ps sp:=by
 obtain⟨oc,od,kV,doc,pm,an,ct,osl,rfl,lk,hcd⟩:=F.ex
 exact zxq lk hcd S len fun A outer s H vs Q E hr hsp=>hbody A outer s H vs Q E hr hsp
def zqe(C:Addr):Sp:=fun vs H _ E=>∃(iv wv:V) (rows:List Rw) (ws:List Int),vs=[iv,wv]/\Dt H iv (.tup (rows.map rowEnc))/\Dt H wv (pathD ws)/\okRows rows/\¬ Fits rows ws/\∀H',Same H H'->E (.ref C) none H'
def FsX(H:Hp)(ia wa d:Addr)(rows:List Rw)(ws:List Int)(i:Nat)(σ : St)(Hc:Hp):Prop:=FsI H ia wa d rows ws i σ Hc/\Fits (rows.take i) (ws.take i)
def zkl(C:Addr):Sp:=fun vs H _ E=>∃(gv wv sv:V) (rows:List Rw) (bd:Dm) (ws:List Int),vs=[gv,wv,sv]/\Dt H gv (.tup [.tup (rows.map rowEnc),bd])/\Dt H wv (pathD ws)/\okRows rows/\¬ Fits rows ws/\∀H',Same H H'->E (.ref C) none H'
theorem zen{a_NoWorths:Addr} (F:Fun K "names_at_first" "names_at_first" z0e f fd) (x_NoWorths:PySem.W.nsIn K mainGlobals "NoWorths" = some (some (.ref a_NoWorths))) (q_NoWorths:PySem.W.excIn K a_NoWorths q1m "ValueError.__new__" = true) (b_len:mg "len" = none) (b_zip:mg "zip" = none) (c_is_tuple_of:Callee P w K mg base "is_tuple_of" ["thing","many"] 1 zop) (c_is_whole_from:Callee P w K mg base "is_whole_from" ["thing","low","high"] 2 zts):FnOk P w K mg base (CX1 P w) 3 f fd ["ins","worths"] (zqe a_NoWorths):=by
 refine F.okx sc_names_at_first (fun vs H Q E h=>?_) (fun cdv A outer s H vs Q E hr h=>?_)
 ·obtain⟨iv,wv,rows,ws,rfl,_⟩:=h
  rfl
 obtain⟨iv,wv,rows,ws,rfl,hi,hw,hrow,hnf,q⟩:=h
 obtain⟨ia,is,rfl,hia,dia⟩:=hi.tupI
 obtain⟨wa,us,rfl,hwa,dwa⟩:=hw.tupI
 have lis:is.length=rows.length:=by rw [dia.length,List.length_map]
 have lus:us.length=ws.length:=by rw [dwa.length,List.length_map]
 refine⟨_,(z03 (z2g (zmh (zk0 (z1n c_is_tuple_of hr (by omega) (z06 (z00 (i:=1) rfl z2i z49 z4a) (z06 (z75 zvd z6t b_len zcp (z06 (z00 (i:=0) rfl z3i zrb zrj) pa_nil) zc1 zcj) pa_nil)) z4s zdk))) (z07 (zby x_NoWorths q_NoWorths PySem.F.excBase_ValueError (by decide+kernel) PySem.F.excBase_ValueError (z06 z0i pa_nil) z5g ze6)) z0l)
 (z03 (z18 (i:=2) sc_names_at_first.nd rfl z5t zqq (z05 rfl))
 (z03 (zbz PassesOwn.leaving rfl (zu6 z6s b_zip (z06 (z00 (i:=0) rfl z3i zrb zrj) (z06 (z00 (i:=1) rfl z2i z49 z4a) pa_nil))) (zel (n:=2) rfl (z24 (z1u (i:=3) sc_names_at_first.nd rfl z6c) (z24 (z1u (i:=4) sc_names_at_first.nd rfl z5s) z7q)))
 (z03 (z2g (zmh (zk0 (z1n c_is_whole_from hr (by omega) (z06 (z00 (i:=4) rfl z2q z64 z66) (z06 (z0z z0p (z00 (i:=3) rfl z1s zk9 zkd) z02 (fun _ _=>rfl)) (z06 (z0z z0p (z00 (i:=3) rfl z1s zk9 zkd) z02 (fun _ _=>rfl)) pa_nil))) z47 zbd))) (z07 (zby x_NoWorths q_NoWorths PySem.F.excBase_ValueError (by decide+kernel) PySem.F.excBase_ValueError (z06 z0i pa_nil) z5g ze6)) z0l)
 (z07 (zp4 hr.units1 (z00 (i:=2) rfl z2r z2a z2b) (z0z z0p (z00 (i:=3) rfl z1s zk9 zkd) z02 (fun _ _=>rfl)) (z00 (i:=4) rfl z2q z64 z66) (z05 rfl)))))
 (z07 (z0h (z00 (i:=2) rfl z2r z2a z2b)))))),z0g fun N1 e1=>?_⟩
 walk_at "rd7"
 refine⟨_,.inl ⟨ia,is,rfl,.inr (SqT.of hia),rfl⟩,?_⟩
 refine⟨_,_,_,rfl,hw,fun H1 s1=>⟨_,rfl,?_⟩⟩
 by_cases hlen:rows.length=ws.length
 case neg=>
  have hy:zxl (pathD ws) (is.length:Int)=false:=by
   show decide _=false
   rw [decide_eq_false_iff_not,List.length_map,lis]
   omega
  rw [if_pos (by rw [hy])]
  exact⟨by decide,q _ s1⟩
 have hy:zxl (pathD ws) (is.length:Int)=true:=by
  show decide _=true
  rw [decide_eq_true_eq,List.length_map,lis,hlen]
 rw [if_neg (by rw [hy]; decide)]
 rw [e1]
 refine z0g fun N2 e2=>?_
 walk_at "rd7"
 intro d hdn
 have s2:=z04 hdn (HO.dK [])
 have s12:=s1.trans s2
 have hdf:H d=none:=s1.free hdn
 rw [e2]
 refine z0g fun N3 e3=>?_
 walk_at "rd7"
 refine⟨_,_,⟨rfl,rfl⟩,⟨_,SqT.of (s12 _ _ hia)⟩,⟨_,SqT.of (s12 _ _ hwa)⟩,?_⟩
 refine zr0 (xs:=is) (ys:=us) (by omega) (FsX H ia wa d rows ws) ?start ?lst ?step ?done
 case start=>exact⟨⟨_,_,rfl,s12,z01⟩,trivial⟩
 case lst=>
  rintro i σ Hc _ ⟨⟨_,_,rfl,sc,_⟩,_⟩
  exact⟨SqT.of (sc _ _ hia),SqT.of (sc _ _ hwa)⟩
 case done=>
  rintro σ Hc ⟨_,hc⟩
  rw [lis,List.take_length,hlen,List.take_length] at hc
  exact absurd hc hnf
 case step=>
  rintro i x y σ Hc T hx hy ⟨⟨_,_,rfl,sc,hc⟩,hft⟩ hT
  obtain⟨r,hri,dr⟩:=zb7 dia hx
  obtain⟨wd,hwi,dw⟩:=zb7 dwa hy
  cases dw
  obtain⟨ra,r0,r1,r2,rfl,hra,t0,t1,t2⟩:=ztb dr
  cases t0; cases t1; cases t2
  have s3:=z04 hT (HO.tup [V.ref ra,V.int wd])
  have hra3:=s3 _ _ (sc _ _ hra)
  have hk:=zkk (rows.take i) (ws.take i) [] (fun r hr=>zhy hrow r (List.mem_of_mem_take hr)) KeyOk.nil
  walk_at "rd7"
  refine⟨_,SqT.of z01,rfl,_,_,rfl,_,_,rfl,rfl,_,rfl,_,SqT.of hra3,_,z1i (j:=1) rfl,_,rfl,_,SqT.of hra3,_,z1i (j:=2) rfl,?_⟩
  refine⟨_,_,_,_,rfl,.int wd,fun H2 s4=>⟨_,rfl,?_⟩⟩
  by_cases hf:r.2.1<=wd/\wd<=r.2.2
  case neg=>
   have hy:zqy (.int wd) r.2.1 r.2.2=false:=by
    show(decide (r.2.1<=wd) && decide (wd<=r.2.2))=false
    rw [Bool.and_eq_false_iff,decide_eq_false_iff_not,decide_eq_false_iff_not]
    omega
   rw [if_pos (by rw [hy])]
   exact⟨by decide,q _ (sc.trans (s3.trans s4))⟩
  have hy:zqy (.int wd) r.2.1 r.2.2=true:=by
   show(decide (r.2.1<=wd) && decide (wd<=r.2.2))=true
   simp[hf.1,hf.2]
  rw [if_neg (by rw [hy]; decide)]
  have hc4:=s4 _ _ (s3 _ _ hc)
  refine⟨_,rfl,_,SqT.of (s4 _ _ hra3),_,z1w,_,DPut.k (k:=Sum.inr r.1) hc4 ?_,?_⟩
  ·unfold kvC
   rw [List.length_map]
   exact Nat.lt_of_le_of_lt hk.len (by decide)
  ·refine⟨⟨_,_,rfl,z6m (sc.trans (s3.trans s4)) hdf,?_⟩,?_⟩
   ·rw [z01,zu3,zkj [] hri hwi]
   ·rw [z6p hri,z6p hwi]
    exact hft.snoc hf.1 hf.2
theorem zsm{C:Addr} (F:Fun K "run_by" "run_by" z34 f fd) (b_sorted:mg "sorted" = none) (b_tuple:mg "tuple" = none) (cx_names_at_first:CalleeX P w K mg base "names_at_first" ["ins","worths"] 3 (zqe C)) (c_do_block:Callee P w K mg base "do_block" ["block","path","names","settle"] 20 (zm8 4)):FnOk P w K mg base (CX1 P w) 21 f fd ["program","worths","settle"] (zkl C):=by
 refine F.okx sc_run_by (fun vs H Q E h=>?_) (fun cdv A outer s H vs Q E hr h=>?_)
 ·obtain⟨gv,wv,sv,rows,bd,ws,rfl,_⟩:=h
  rfl
 obtain⟨gv,wv,sv,rows,bd,ws,rfl,hg,hw,hrow,hnf,q⟩:=h
 obtain⟨ga,iv,bv,rfl,hga,di,db⟩:=zob hg
 refine⟨_,(z03 (z18 (i:=3) sc_run_by.nd rfl zb8 (zyn cx_names_at_first zpa hr (by omega) (z06 (z0z z0p (z00 (i:=0) rfl z51 z3c z3d) z02 (fun _ _=>rfl)) (z06 (z00 (i:=1) rfl z9a z49 z4a) pa_nil)) z5w za4) (z05 rfl))
 (z03 (z18 (i:=4) sc_run_by.nd rfl z8f (z1n c_do_block hr (by omega) (z06 (z0z z0p (z00 (i:=0) rfl z51 z3c z3d) z02 (fun _ _=>rfl)) (z06 (z11 pa_nil) (z06 (z00 (i:=3) rfl z5k z2a z2b) (z06 (z00 (i:=2) rfl z9b z2d z2e) pa_nil)))) z8g z81) (z05 rfl))
 (z03 (z2g (z0f zvc (z00 (i:=4) rfl z50 z5x z5y) zdi (z0m _)) (z07 (z0h (z00 (i:=4) rfl z50 z5x z5y))) z0l)
 (z07 (z0h (z11 (z06 z0i (z06 (zl0 z4q zc7 b_tuple z8j (z06 (z75 (zbf rfl) zba b_sorted zo3 (z06 (zqo (z00 (i:=3) rfl z5k z2a z2b)) pa_nil) zmx znh) pa_nil) z8e z8i) pa_nil)))))))),z0g fun N1 e1=>?_⟩
 walk_at "rd7"
 exact⟨_,SqT.of hga,_,z1w,iv,wv,rows,ws,rfl,di,hw,hrow,hnf,q⟩
def zm3(pt C:Addr):Sp:=fun vs H _ E=>∃(gv wv:V) (rows:List Rw) (bd:Dm) (ws:List Int),vs=[gv,wv]/\Dt H gv (.tup [.tup (rows.map rowEnc),bd])/\Dt H wv (pathD ws)/\okRows rows/\¬ Fits rows ws/\TabAt pt posT dT.qual H/\∀H',SameB pt H H'->TabAt pt posT dT.qual H'->E (.ref C) none H'
def ztr(p2 C N:Addr):Sp:=fun vs H _ E=>∃(x dx:Addr) (gv wv:V) (rows:List Rw) (bd:Dm) (ws:List Int),vs=[.ref x,gv,wv]/\H x=some (.ins C dx [])/\Dt H gv (.tup [.tup (rows.map rowEnc),bd])/\Dt H wv (pathD ws)/\okRows rows/\¬ Fits rows ws/\TabAt p2 posT dT.qual H/\
 ∀H',(∀a o,a≠p2->a≠x->H a=some o->H' a=some o)->TabAt p2 posT dT.qual H'->E (.ref N) none H'
end
section
variable{P:Program}{w:World}{K:PySem.W.Frag}{mg:Str->Option Value}{base:Heap}{f:Addr}{fd:FuncData}
theorem zsj{c pt C:Addr} (F:FunC K "traced" "traced" z33 f fd c) (hC:PySem.W.CodeHd base c pt) (hB:base.BuiltinsAt mg pt) (hgP:mainGlobals≠pt) (cx_run_by:CalleeX P w K mg base "run_by" ["program","worths","settle"] 21 (zkl C)):FnOk P w K mg base (CX1 P w) 22 f fd ["program","worths"] (zm3 pt C):=by
 refine F.okx sc_traced (fun vs H Q E h=>?_) (fun A outer s H vs Q E hr h=>?_)
 ·obtain⟨gv,wv,rows,bd,ws,rfl,_⟩:=h
  rfl
 obtain⟨gv,wv,rows,bd,ws,rfl,hg,hw,hrow,hnf,hT,q⟩:=h
 have hcl_rows:(z85 (CX1 P w) P w K mg base ["program","worths","rows"] "traced" (defScope z33) f (.ref c) A outer s H E).env.cells.lookup ("rows" : Str)=some (s.heap.objs.size+1):=rfl
 refine⟨_,(z03 (z18 (i:=2) sc_traced.nd rfl zc2 (z46 pa_nil) (z05 rfl))
 (z03 (z7p (zsd (i:=2) cx_run_by zpa hr (by omega) (z06 (z00 (i:=0) rfl z88 z3c z3d) (z06 (z00 (i:=1) rfl z99 z49 z4a) (z06 (zqn (c:=c) (P:=pt) rfl rfl rfl hC hB hgP) pa_nil))) rfl hcl_rows zbe rfl zb9 ziu) (z05 rfl))
 (z07 (z0h (z00 (i:=2) rfl zbr zau zaz))))),z0g fun N1 e1=>?_⟩
 walk_at "rd7"
 refine⟨Nat.zero_le _,fun l hl=>?_⟩
 have s1:=z04 hl (HO.lst [])
 generalize upd H l (HO.lst [])=H1 at s1 |-
 rw [e1]
 refine z0g fun N2 e2=>?_
 walk_at "rd7"
 show zfo (zkl C) (s.heap.objs.size+1) 2 E (zd2 (zq6 0) (zd2 (zq6 1) (zd2 (q1e pt posT dT [("rows",s.heap.objs.size+1)]) zq8))) [some gv,some wv,some (V.ref l)] H1 fun x H1=>N2 [some gv,some wv,some (V.ref l)] H1
 clear hcl_rows
 generalize s.heap.objs.size+1=cc
 simp only[zfo]
 walk_at "rd7"
 have hT1:TabAt pt posT dT.qual H1:=hT.kp fun a o _ e=>s1 _ _ e
 refine zlb hT1 fun fa c' H2 sB kp hfa hf hc hT2=>?_
 refine fun o u hd ru hcn=>?_
 have s3:=z04 hcn (z3w cc o)
 have hcc:(upd H2 cc (z3w cc o)) cc=some (z3w cc o):=z01
 have kpA:=s1.kp.trans (kp.trans s3.kp)
 refine⟨gv,wv,.ref fa,rows,bd,ws,rfl,hg.kp kpA,hw.kp kpA,hrow,hnf,fun H4 s4=>⟨s4 _ _ hcc,q _ (fun a o' n e=>?_) (hT2.kp fun a o' _ h2=>?_)⟩⟩
 ·have h2:=sB a o' n (s1 _ _ e)
  rw [z1d (fun z=>by rw [List.mem_singleton.mp z,hcn] at h2; cases h2)]
  exact s4 _ _ (s3 _ _ h2)
 ·rw [z1d (fun z=>by rw [List.mem_singleton.mp z,hcn] at h2; cases h2)]
  exact s4 _ _ (s3 _ _ h2)
theorem zjd{p2 C N:Addr} (F:Fun K "__init__" "Trace.__init__" z2o f fd) (t:TrC K C) (cx_traced:CalleeX P w K mg base "traced" ["program","worths"] 22 (zm3 p2 N)):FnOk P w K mg base (CX1 P w) 23 f fd ["self","program","worths"] (ztr p2 C N):=by
 refine F.okx zeh (fun vs H Q E h=>?_) (fun cdv A outer s H vs Q E hr h=>?_)
 ·obtain⟨x,dx,gv,wv,rows,bd,ws,rfl,_⟩:=h
  rfl
 obtain⟨x,dx,gv,wv,rows,bd,ws,rfl,hx,hg,hw,hrow,hnf,hT,q⟩:=h
 refine⟨_,(z03 (z9q (f:="program") (z00 (i:=0) rfl z1e z0v z0x) (z00 (i:=1) rfl z3j z3c z3d) (z05 rfl))
 (z03 (z9q (f:="worths") (z00 (i:=0) rfl z1e z0v z0x) (z00 (i:=2) rfl z3o z49 z4a) (z05 rfl))
 (z03 (z9q (f:="rows") (z00 (i:=0) rfl z1e z0v z0x) (zyn cx_traced zpa hr (by omega) (z06 (z00 (i:=1) rfl z3j z3c z3d) (z06 (z00 (i:=2) rfl z3o z49 z4a) pa_nil)) z79 zng) (z05 rfl))
 (z07 (z9q (f:="done") (z00 (i:=0) rfl z1e z0v z0x) z02 (z05 rfl)))))),z0g fun N1 e1=>?_⟩
 walk_at "rd12"
 refine⟨_,_,_,hx,t.c,t.np,by decide,?_⟩
 rw [e1]
 refine z0g fun N2 e2=>?_
 walk_at "rd12"
 have hx1:(upd H x (HO.ins C dx (z5d ("program" : Str) gv []))) x=some (.ins C dx (z5d ("program" : Str) gv [])):=z01
 have k1:Kp H (upd H x (HO.ins C dx (z5d ("program" : Str) gv []))):=zgg hx
 have hT1:TabAt p2 posT dT.qual (upd H x (HO.ins C dx (z5d ("program" : Str) gv []))):=hT.ins hx
 have m1:∀a o,a≠x->H a=some o->(upd H x (HO.ins C dx (z5d ("program" : Str) gv []))) a=some o:=fun a o n e=>by rw [z0a n]; exact e
 generalize upd H x (HO.ins C dx (z5d ("program" : Str) gv []))=H1 at hx1 k1 hT1 m1 |-
 refine⟨_,_,_,hx1,t.c,t.nw,by simp[z5d],?_⟩
 have k2:Kp H1 (upd H1 x (HO.ins C dx (z5d ("worths" : Str) wv (z5d ("program" : Str) gv [])))):=zgg hx1
 have hT2:TabAt p2 posT dT.qual (upd H1 x (HO.ins C dx (z5d ("worths" : Str) wv (z5d ("program" : Str) gv [])))):=hT1.ins hx1
 have m2:∀a o,a≠x->H1 a=some o->(upd H1 x (HO.ins C dx (z5d ("worths" : Str) wv (z5d ("program" : Str) gv [])))) a=some o:=fun a o n e=>by rw [z0a n]; exact e
 generalize upd H1 x (HO.ins C dx (z5d ("worths" : Str) wv (z5d ("program" : Str) gv [])))=H2 at k2 hT2 m2 |-
 rw [e2]
 refine z0g fun N3 e3=>?_
 walk_at "rd12"
 exact⟨gv,wv,rows,bd,ws,rfl,(hg.kp k1).kp k2,(hw.kp k1).kp k2,hrow,hnf,hT2,fun H' sB hT'=>q H' (fun a o n1 n2 e=>sB _ _ n1 (m2 _ _ n2 (m1 _ _ n2 e))) hT'⟩
end
section
variable{P:Program}{w:World}{K:PySem.W.Frag}{mg:Str->Option Value}{base:Heap}{f:Addr}{fd:FuncData}
def q4p(C:Addr):Sp:=fun vs H Q _=>∃(x dx l:Addr) (gv wv pv:V) (ys:List V) (rs:List RI) (k j:Nat) (p:List Int) (i:Int),vs=[.ref x,pv]/\H x=some (.ins C dx (trF gv wv l k))/\H l=some (.lst ys)/\DtA H ys (rs.map rowI)/\Dt H pv (pathD p)/\rs.length < sizeLine/\k<=j/\rs[j]?=some (p,i)/\(∀m,k<=m->m < j->∀r,rs[m]?=some r->r.1≠p)/\Q (.int i) (upd H x (.ins C dx (trF gv wv l (j+1))))
def q1w(C N:Addr):Sp:=fun vs H _ E=>∃(x dx l:Addr) (gv wv pv:V) (ys:List V) (rs:List RI) (k:Nat) (p:List Int),vs=[.ref x,pv]/\H x=some (.ins C dx (trF gv wv l k))/\H l=some (.lst ys)/\DtA H ys (rs.map rowI)/\Dt H pv (pathD p)/\rs.length < sizeLine/\k<=rs.length/\(∀m,k<=m->∀r,rs[m]?=some r->r.1≠p)/\E (.ref N) none H
def ToI(H:Hp)(xv pv:V)(i:Nat)(σ : St)(Hc:Hp):Prop:=Hc=H/\∃x2,σ = [some xv,some pv,x2]
theorem zyf:(sizeLine:Int) < 2 ^ 62:=by decide
end
section
variable{P:Program}{w:World}{K:PySem.W.Frag}{mg:Str->Option Value}{base:Heap}{f:Addr}{fd:FuncData}
theorem zpl{C:Addr} (F:Fun K "to" "Trace.to" z2t f fd) (b_len:mg "len" = none) (b_range:mg "range" = none) (t:TrC K C):FnOk P w K mg base CX0 1 f fd ["self","path"] (q4p C):=by
 refine F.ok sc_Trace_to (fun vs H Q E h=>?_) (fun cdv A outer s H vs Q E hr h=>?_)
 ·obtain⟨x,dx,l,gv,wv,pv,ys,rs,k,j,p,i,rfl,_⟩:=h
  rfl
 obtain⟨x,dx,l,gv,wv,pv,ys,rs,k,j,p,i,rfl,hx,hl,dy,dp,hz,hkj,hj,hno,q⟩:=h
 have lys:ys.length=rs.length:=by rw [dy.length,List.length_map]
 have hjl:j < rs.length:=(List.getElem?_eq_some_iff.mp hj).1
 have z62:=zyf
 refine⟨_,(z03 (zbz PassesOwn.never rfl (zmj za1 b_range (z06 (z3g (z00 (i:=0) rfl z15 z0v z0x) rfl) (z06 (z75 zvd zcf b_len zcp (z06 (z3g (z00 (i:=0) rfl z15 z0v z0x) rfl) pa_nil) zc1 zcj) pa_nil))) (z1u (i:=2) sc_Trace_to.nd rfl zc5)
 (z07 (z2g (z0f (dEq hr.units) (z0z z0p (z0z z4n (z3g (z00 (i:=0) rfl z15 z0v z0x) rfl) (z00 (i:=2) rfl z43 znj znu) (fun _ _=>rfl)) z02 (fun _ _=>rfl)) (z00 (i:=1) rfl z9h z1o z1p) (z0m _)) (z03 (z9q (f:="done") (z00 (i:=0) rfl z15 z0v z0x) (z0o z1h (z00 (i:=2) rfl z43 znj znu) z02) (z05 rfl))
 (z07 (z0h (z0z z0p (z0z z4n (z3g (z00 (i:=0) rfl z15 z0v z0x) rfl) (z00 (i:=2) rfl z43 znj znu) (fun _ _=>rfl)) z02 (fun _ _=>rfl))))) z0l)))
 (z07 zhb)),z0g fun N1 e1=>?_⟩
 walk_at "rd12"
 refine⟨_,_,_,hx,t.c,t.nd,_,z7s,_,_,_,hx,t.c,t.nr,_,z91,_,zyr (SqL.of hl),_,_,⟨rfl,rfl⟩,⟨by omega,by omega,by omega,by omega⟩,?_⟩
 refine zcg (fun i σ Hc=>ToI H (.ref x) pv i σ Hc/\k+i<=j) ⟨⟨rfl,_,rfl⟩,by omega⟩ ?_ ?_
 ·rintro m σ Hc hm ⟨⟨rfl,x2,rfl⟩,hle⟩
  walk_at "rd12"
  have hkm:k+m < ys.length:=by omega
  obtain⟨v,hv⟩:∃v,ys[k+m]?=some v:=⟨_,List.getElem?_eq_getElem hkm⟩
  obtain⟨r,hrk,dv⟩:=zb7 dy hv
  obtain⟨va,v0,v1,rfl,hva,t0,t1⟩:=zob dv
  cases t1
  have ekm:((k:Int)+(m:Int))=((k+m:Nat):Int):=by push_cast; rfl
  refine⟨_,_,_,hx,t.c,t.nr,_,z91,_,rfl,_,SqL.of hl,_,by rw [ekm]; exact z1i hv,_,rfl,_,SqT.of hva,_,z1w,_,⟨pathD r.1,pathD p,t0,dp,((z3r r.1).mono (m:=4) (by decide)).eq (by decide),((z3r p).mono (m:=4) (by decide)).eq (by decide),rfl⟩,?_⟩
  rw [show PyData.eqv (pathD r.1).dat (pathD p).dat=decide (r.1=p) from zhf r.1 p]
  by_cases he:r.1=p
  ·have ej:k+m=j:=by
    rcases Nat.lt_or_ge (k+m) j with z | z
    ·exact absurd he (hno (k+m) (by omega) z r hrk)
    ·omega
   rw [if_pos (decide_eq_true he)]
   have er:r=(p,i):=by
    rw [ej,hj] at hrk
    exact(Option.some.inj hrk).symm
   have nl:l≠x:=z86 hl hx (by intro z; cases z)
   have nv:va≠x:=z86 hva hx (by intro z; cases z)
   refine⟨_,_,_,hx,t.c,t.nd,by simp,?_⟩
   rw [zql]
   have q':=q
   rw [show((j:Nat):Int)=(k:Int)+(m:Int) by omega] at q'
   refine⟨_,_,_,z01,t.c,t.nr,_,z91,_,rfl,_,SqL.of (by rw [z0a nl]; exact hl),_,by rw [ekm]; exact z1i hv,_,rfl,_,SqT.of (by rw [z0a nv]; exact hva),_,z1i (j:=1) rfl,?_⟩
   rw [er]
   exact q'
  ·rw [if_neg (by rw [decide_eq_true_eq]; exact he)]
   refine⟨⟨rfl,_,rfl⟩,?_⟩
   have:k+m≠j:=fun z=>he (by rw [z,hj] at hrk; cases hrk; rfl)
   omega
 ·rintro σ Hc ⟨_,hle⟩
  omega
theorem zmt{C a_NoStep:Addr} (F:Fun K "to" "Trace.to" z2t f fd) (b_len:mg "len" = none) (b_range:mg "range" = none) (x_NoStep:PySem.W.nsIn K mainGlobals "NoStep" = some (some (.ref a_NoStep))) (q_NoStep:PySem.W.excIn K a_NoStep q1m "ValueError.__new__" = true) (t:TrC K C):FnOk P w K mg base (CX1 P w) 1 f fd ["self","path"] (q1w C a_NoStep):=by
 refine F.okx sc_Trace_to (fun vs H Q E h=>?_) (fun cdv A outer s H vs Q E hr h=>?_)
 ·obtain⟨x,dx,l,gv,wv,pv,ys,rs,k,p,rfl,_⟩:=h
  rfl
 obtain⟨x,dx,l,gv,wv,pv,ys,rs,k,p,rfl,hx,hl,dy,dp,hz,hkl,hno,q⟩:=h
 have lys:ys.length=rs.length:=by rw [dy.length,List.length_map]
 have z62:=zyf
 refine⟨_,(z03 (zbz PassesOwn.leaving rfl (zmj za1 b_range (z06 (z3g (z00 (i:=0) rfl z15 z0v z0x) rfl) (z06 (z75 zvd zcf b_len zcp (z06 (z3g (z00 (i:=0) rfl z15 z0v z0x) rfl) pa_nil) zc1 zcj) pa_nil))) (z1u (i:=2) sc_Trace_to.nd rfl zc5)
 (z07 (z2g (z0f (dEq hr.units) (z0z z0p (z0z z4n (z3g (z00 (i:=0) rfl z15 z0v z0x) rfl) (z00 (i:=2) rfl z43 znj znu) (fun _ _=>rfl)) z02 (fun _ _=>rfl)) (z00 (i:=1) rfl z9h z1o z1p) (z0m _)) (z03 (z9q (f:="done") (z00 (i:=0) rfl z15 z0v z0x) (z0o z1h (z00 (i:=2) rfl z43 znj znu) z02) (z05 rfl))
 (z07 (z0h (z0z z0p (z0z z4n (z3g (z00 (i:=0) rfl z15 z0v z0x) rfl) (z00 (i:=2) rfl z43 znj znu) (fun _ _=>rfl)) z02 (fun _ _=>rfl))))) z0l)))
 (z07 (zby x_NoStep q_NoStep PySem.F.excBase_ValueError (by decide+kernel) PySem.F.excBase_ValueError (z06 z0i pa_nil) zf3 zfc))),z0g fun N1 e1=>?_⟩
 walk_at "rd12"
 refine⟨_,_,_,hx,t.c,t.nd,_,z7s,_,_,_,hx,t.c,t.nr,_,z91,_,zyr (SqL.of hl),_,_,⟨rfl,rfl⟩,⟨by omega,by omega,by omega,by omega⟩,?_⟩
 refine zcg (fun i σ Hc=>ToI H (.ref x) pv i σ Hc) ⟨rfl,_,rfl⟩ ?_ ?_
 ·rintro m σ Hc hm ⟨rfl,x2,rfl⟩
  walk_at "rd12"
  have hkm:k+m < ys.length:=by omega
  obtain⟨v,hv⟩:∃v,ys[k+m]?=some v:=⟨_,List.getElem?_eq_getElem hkm⟩
  obtain⟨r,hrk,dv⟩:=zb7 dy hv
  obtain⟨va,v0,v1,rfl,hva,t0,t1⟩:=zob dv
  have ekm:((k:Int)+(m:Int))=((k+m:Nat):Int):=by push_cast; rfl
  refine⟨_,_,_,hx,t.c,t.nr,_,z91,_,rfl,_,SqL.of hl,_,by rw [ekm]; exact z1i hv,_,rfl,_,SqT.of hva,_,z1w,_,⟨pathD r.1,pathD p,t0,dp,((z3r r.1).mono (m:=4) (by decide)).eq (by decide),((z3r p).mono (m:=4) (by decide)).eq (by decide),rfl⟩,?_⟩
  rw [show PyData.eqv (pathD r.1).dat (pathD p).dat=decide (r.1=p) from zhf r.1 p,if_neg (by rw [decide_eq_true_eq]; exact hno (k+m) (by omega) r hrk)]
  exact⟨rfl,_,rfl⟩
 ·rintro σ Hc ⟨rfl,x2,rfl⟩
  show N1 _ _
  rw [e1]
  exact⟨by decide,q⟩
end
section
variable{P:Program}{w:World}{K:PySem.W.Frag}{mg:Str->Option Value}{base:Heap}{f:Addr}{fd:FuncData}
def q4o(K:PySem.W.Frag):Sp:=fun vs H Q _=>∃(a:Addr) (ns:List Int) (k:Int) (gv:V) (rows:List Rw) (bd:Dm),vs=[.ref a,.int k,gv]/\SqL K H a (ns.map V.int)/\0<=k/\Dt H gv (.tup [.tup (rows.map rowEnc),bd])/\okRows rows/\∀(wv:V) (ws:List Int) (H':Hp),Same H H'->Dt H' wv (pathD ws)->Fits rows ws->Q wv H'
def WsI(U:Hp)(rows:List Rw)(x4 x5:Option V)(i:Nat)(ys:List V)(σ':St)(H':Hp):Prop:=Same U H'/\(∃t0 t1 t2 t3,σ'=[t0,t1,t2,t3,x4,x5])/\ys.length<=i/\∃ws:List Int,ys=ws.map V.int/\Fits (rows.take i) ws
theorem zhe(H:Hp):∀l:List Int,DtA H (l.map V.int) (l.map Dm.int)
 | []=>.nil
 | a::r=>.cons (.int a) (zhe H r)
end
section
variable{P:Program}{w:World}{K:PySem.W.Frag}{mg:Str->Option Value}{base:Heap}{f:Addr}{fd:FuncData}
theorem zl2(F:Fun K "_law_worths" "_law_worths" z35 f fd) (b_tuple:mg "tuple" = none) (b_enumerate:mg "enumerate" = none) (c_law_pick:Callee P w K mg base "_law_pick" ["_law_script","_law_k","_law_many"] 2 (zdh K)):FnOk P w K mg base CX0 3 f fd ["_law_script","_law_at","_law_program_here"] (q4o K):=by
 refine F.ok zks (fun vs H Q E h=>?_) (fun cdv A outer s H vs Q E hr h=>?_)
 ·obtain⟨a,ns,k,gv,rows,bd,rfl,_⟩:=h
  rfl
 obtain⟨a,ns,k,gv,rows,bd,rfl,hS,hk,hg,hrow,q⟩:=h
 obtain⟨ga,iv,bv,rfl,hga,di,db⟩:=zob hg
 obtain⟨ia,is,rfl,hia,dia⟩:=di.tupI
 have lis:is.length=rows.length:=by rw [dia.length,List.length_map]
 refine⟨_,(z07 (z0h (zl0 z4q zdt b_tuple z8j (z06 (zdr ["_law_k","_law_name","_law_low","_law_high","_law_script","_law_at"] [none,none,none,none,some 0,some 1] rfl (CompS.of (by rfl)) (zkx zaq b_enumerate (z06 (z0z z0p (z00 (i:=2) rfl z68 z30 z31) z02 (fun _ _=>rfl)) pa_nil)) (fun _ _ _ _ _=>(zp8 (n:=2) (K:=K) rfl rfl (z24 (z1u (i:=0) (show List.Nodup (["_law_k","_law_name","_law_low","_law_high","_law_script","_law_at"]:List Str) from by decide+kernel) rfl (Or.inl rfl)) (z24 (zp8 (n:=3) (K:=K) rfl rfl (z24 (z1u (i:=1) (show List.Nodup (["_law_k","_law_name","_law_low","_law_high","_law_script","_law_at"]:List Str) from by decide+kernel) rfl (Or.inl rfl)) (z24 (z1u (i:=2) (show List.Nodup (["_law_k","_law_name","_law_low","_law_high","_law_script","_law_at"]:List Str) from by decide+kernel) rfl (Or.inl rfl)) (z24 (z1u (i:=3) (show List.Nodup (["_law_k","_law_name","_law_low","_law_high","_law_script","_law_at"]:List Str) from by decide+kernel) rfl (Or.inl rfl)) z7q)))) z7q)))) (fun _ _ _ _ _=>zkw) (fun _ _ _ _ _=>(z0o z1h (z00 (i:=2) rfl (by first | exact Or.inl rfl | exact Or.inr (Or.inl rfl) | exact Or.inr (Or.inr rfl)) z2v z2x) (z1n c_law_pick hr (by omega) (z06 (z00 (i:=4) rfl (by first | exact Or.inl rfl | exact Or.inr (Or.inl rfl) | exact Or.inr (Or.inr rfl)) z08 z09) (z06 (z0o z1h (z00 (i:=5) rfl (by first | exact Or.inl rfl | exact Or.inr (Or.inl rfl) | exact Or.inr (Or.inr rfl)) z1b z1c) (z00 (i:=0) rfl (by first | exact Or.inl rfl | exact Or.inr (Or.inl rfl) | exact Or.inr (Or.inr rfl)) z4v z4w)) (z06 (z0o z1h (z0o z8d (z00 (i:=3) rfl (by first | exact Or.inl rfl | exact Or.inr (Or.inl rfl) | exact Or.inr (Or.inr rfl)) zno zny) (z00 (i:=2) rfl (by first | exact Or.inl rfl | exact Or.inr (Or.inl rfl) | exact Or.inr (Or.inr rfl)) z2v z2x)) z02) pa_nil))) rfl z0w)))) pa_nil) z8e z8i))),?_⟩
 walk_at "rd12"
 refine⟨_,SqT.of hga,_,z1w,ia,rfl,⟨_,SqT.of hia⟩,?_⟩
 have h2:=hrow.len
 refine zt4 (xs:=is) (WsI H rows (some (V.ref a)) (some (V.int k))) ⟨Same.refl _,⟨_,_,_,_,rfl⟩,Nat.le_refl _,[],rfl,trivial⟩ (Nat.lt_of_le_of_lt (show is.length<=2 by omega) (by decide)) ?_ ?_ ?_ ?_
 ·rintro i ys σ' H' ⟨_,_,h,_⟩
  exact h
 ·rintro i ys σ' H' _ ⟨sU,_⟩
  exact SqT.of (sU _ _ hia)
 ·rintro i ys x σ' H' T hx ⟨sU,⟨t0,t1,t2,t3,rfl⟩,hle,ws,rfl,hfit⟩ hT
  obtain⟨r,hri,dr⟩:=zb7 dia hx
  obtain⟨ra,r0,r1,r2,rfl,hra,u0,u1,u2⟩:=ztb dr
  cases u0; cases u1; cases u2
  have s3:=z04 hT (HO.tup [V.int i,V.ref ra])
  have hra3:=s3 _ _ (sU _ _ hra)
  walk_at "rd12"
  have hrl:=hrow.lo r (List.mem_of_getElem? hri)
  refine⟨_,SqT.of z01,rfl,_,_,rfl,_,_,rfl,ra,rfl,_,SqT.of hra3,rfl,_,_,rfl,_,_,rfl,_,_,rfl,rfl,rfl,_,rfl,_,rfl,_,rfl,?_⟩
  refine⟨a,ns,k+i,r.2.2 - r.2.1+1,rfl,(sU.trans s3).seq hS,by omega,by omega,fun y H4 h0 h1 s4=>?_⟩
  refine⟨_,rfl,_,rfl,sU.trans (s3.trans s4),⟨_,_,_,_,rfl⟩,by rw [List.length_append,List.length_singleton]; omega,ws++[r.2.1+y],by rw [List.map_append]; rfl,?_⟩
  rw [z6p hri]
  exact hfit.snoc (by omega) (by omega)
 ·rintro ys σ' H' ⟨sU,_,_,ws,rfl,hfit⟩ pe hpe
  have s6:=z04 hpe (HO.lst (ws.map V.int))
  rw [lis,List.take_length] at hfit
  refine⟨pe,rfl,_,.inl ⟨SqL.of z01,fun l hl=>?_⟩⟩
  have s7:=z04 hl (HO.tup (ws.map V.int))
  exact q _ ws _ (sU.trans (s6.trans s7)) (.tup z01 (zhe _ ws)) hfit
end
section
variable{P:Program}{w:World}{K:PySem.W.Frag}{mg:Str->Option Value}{base:Heap}{f:Addr}{fd:FuncData}
def zfq(n:Nat):Sp:=fun vs H Q _=>∃v t pv p,vs=[v,pv]/\Dt H v (T.enc t)/\Dt H pv (pathD p)/\t.deep<=n/\n<=6/\p.length+n<=100/\∀(r:Addr) (H':Hp) (xs:List V),Same H H'->H r=none->H' r=some (.lst xs)->DtA H' xs ((z8b p t).map q21)->Q (.ref r) H'
theorem zgv{n:Nat} (F:Fun K "spots_of_term" "spots_of_term" z1f f fd) (c_spots_of_term:Callee P w K mg base "spots_of_term" ["term","path"] (n+1) (zfq n)):FnOk P w K mg base CX0 (n+2) f fd ["term","path"] (zfq (n+1)):=by
 refine F.ok zgr (fun vs H Q E h=>?_) (fun cdv A outer s H vs Q E hr h=>?_)
 ·obtain⟨v,t,pv,p,rfl,_⟩:=h
  rfl
 obtain⟨v,t,pv,p,rfl,hd,hp,hn,hn6,hl,q⟩:=h
 refine⟨_,(z03 (z2g (PW.pt (zgu (z0f (gEq hr.units) (z0z z0p (z00 (i:=0) rfl z1r z65 z67) z02 (fun _ _=>rfl)) z0i (z0m _)) (zgf (z0f (gEq hr.units) (z0z z0p (z00 (i:=0) rfl z1r z65 z67) z02 (fun _ _=>rfl)) z0i (z0m _))))) (z07 (z0h (z46 (z06 (z11 (z06 (z00 (i:=1) rfl z3h z1o z1p) (z06 (z00 (i:=0) rfl z1r z65 z67) pa_nil))) pa_nil)))) z0l)
 (z07 (z0h (z0o zqs (z0o zqs (z46 (z06 (z11 (z06 (z00 (i:=1) rfl z3h z1o z1p) (z06 (z00 (i:=0) rfl z1r z65 z67) pa_nil))) pa_nil)) (z1n c_spots_of_term hr (by omega) (z06 (z0z z0p (z00 (i:=0) rfl z1r z65 z67) z02 (fun _ _=>rfl)) (z06 (z0o z3x (z00 (i:=1) rfl z3h z1o z1p) (z11 (z06 z02 pa_nil))) pa_nil)) z4b z76)) (z1n c_spots_of_term hr (by omega) (z06 (z0z z0p (z00 (i:=0) rfl z1r z65 z67) z02 (fun _ _=>rfl)) (z06 (z0o z3x (z00 (i:=1) rfl z3h z1o z1p) (z11 (z06 z02 pa_nil))) pa_nil)) z4b z76))))),?_⟩
 walk_at "rd7"
 have leaf:(z8b p t=[(p,t)])->2<=sizeLine/\∀(r:Addr),H r=none->1<=sizeLine/\∀(r1:Addr),upd H r (HO.tup [pv,v]) r1=none->Q (V.ref r1) (upd (upd H r (HO.tup [pv,v])) r1 (HO.lst [V.ref r])):=fun e=>by
  refine⟨zl 2 (by decide),fun r h1=>⟨zl 1 (by decide),fun r1 h2=>?_⟩⟩
  have s1:=z04 h1 (HO.tup [pv,v])
  have s2:=z04 h2 (HO.lst [V.ref r])
  refine q r1 _ _ (s1.trans s2) (s1.free h2) z01 ?_
  rw [e]
  exact .cons (.tup (s2 _ _ z01) (.cons (hp.kp (s1.trans s2).kp) (.cons (hd.kp (s1.trans s2).kp) .nil))) .nil
 have hdv:=hd
 cases t with
 | num i=>
  rw [T.enc] at hd
  obtain⟨a,x0,x1,rfl,ha,t0,t1⟩:=zob hd
  refine⟨_,rfl,_,SqT.of ha,_,rfl,_,zg6 t0,?_⟩
  rw [if_pos (show eqS (.str "num") "num" = true from by decide+kernel)]
  exact leaf rfl
 | nm x=>
  rw [T.enc] at hd
  obtain⟨a,x0,x1,rfl,ha,t0,t1⟩:=zob hd
  refine⟨_,rfl,_,SqT.of ha,_,rfl,_,zg6 t0,?_⟩
  rw [if_neg (show ¬ eqS (.str "name") "num" = true from by decide+kernel)]
  refine⟨_,rfl,_,SqT.of ha,_,rfl,_,zg6 t0,?_⟩
  rw [if_pos (show eqS (.str "name") "name" = true from by decide+kernel)]
  exact leaf rfl
 | op wd ta tb=>
  rw [T.enc] at hd
  obtain⟨a,x0,x1,x2,rfl,ha,t0,t1,t2⟩:=ztb hd
  refine⟨_,rfl,_,SqT.of ha,_,rfl,_,zg6 t0,?_⟩
  rw [if_neg (by rw [wd.ne.1]; decide)]
  refine⟨_,rfl,_,SqT.of ha,_,rfl,_,zg6 t0,?_⟩
  rw [if_neg (by rw [wd.ne.2]; decide)]
  have hab:ta.deep<=n/\tb.deep<=n:=by
   simp only[T.deep] at hn
   omega
  refine⟨zl 2 (by decide),fun r h1=>⟨zl 1 (by decide),fun r1 h2=>?_⟩⟩
  have s1:=z04 h1 (HO.tup [pv,V.ref a])
  have s2:=z04 h2 (HO.lst [V.ref r])
  have s02:=s1.trans s2
  have f1:H r1=none:=s1.free h2
  have hr1:(upd (upd H r (HO.tup [pv,V.ref a])) r1 (HO.lst [V.ref r])) r1=some (.lst [V.ref r]):=z01
  have row:Dt (upd (upd H r (HO.tup [pv,V.ref a])) r1 (HO.lst [V.ref r])) (.ref r) (q21 (p,.op wd ta tb)):=.tup (s2 _ _ z01) (.cons (hp.kp s02.kp) (.cons (hdv.kp s02.kp) .nil))
  generalize upd (upd H r (HO.tup [pv,V.ref a])) r1 (HO.lst [V.ref r])=U at s2 s02 hr1 row |-
  refine⟨_,rfl,_,SqT.of (s02 _ _ ha),_,rfl,zl 1 (by decide),fun r3 h3=>?_⟩
  have s3:=z04 h3 (HO.tup [V.int 0])
  refine zrl (hp.kp (s02.trans s3).kp) zem (by simp; omega) fun z H1 s4 dz=>?_
  have s24:=s3.trans s4
  refine⟨x1,ta,z,p++[0],rfl,t1.kp (s02.trans s24).kp,dz,hab.1,by omega,by simp; omega,fun r4 H2 ys s5 f5 h5 d5=>?_⟩
  walk_at "rd7"
  have s25:=s24.trans s5
  have l1:=zaf (p:=p++[0]) hab.1 (by omega:n<=6)
  have l2:=zaf (p:=p++[1]) hab.2 (by omega:n<=6)
  have e5:ys.length=(z8b (p++[0]) ta).length:=by rw [d5.length,List.length_map]
  refine⟨_,s25 _ _ hr1,_,h5,Nat.le_of_lt (z3e (by rw [e5,List.length_singleton]; omega)),fun r6 h6=>?_⟩
  have s6:=z04 h6 (HO.lst ([V.ref r]++ys))
  have s26:=s25.trans s6
  have hr6:(upd H2 r6 (HO.lst ([V.ref r]++ys))) r6=some (.lst ([V.ref r]++ys)):=z01
  have d6:DtA (upd H2 r6 (HO.lst ([V.ref r]++ys))) ([V.ref r]++ys) ((p,T.op wd ta tb)::z8b (p++[0]) ta |>.map q21):=.cons (row.kp s26.kp) (d5.kp s6.kp)
  generalize upd H2 r6 (HO.lst ([V.ref r]++ys))=U2 at s6 s26 hr6 d6 |-
  refine⟨_,SqT.of ((s02.trans s26) _ _ ha),_,rfl,zl 1 (by decide),fun r7 h7=>?_⟩
  have s7:=z04 h7 (HO.tup [V.int 1])
  refine zrl (hp.kp ((s02.trans s26).trans s7).kp) zem (by simp; omega) fun z2 H3 s8 dz2=>?_
  have s78:=s7.trans s8
  refine⟨x2,tb,z2,p++[1],rfl,t2.kp ((s02.trans s26).trans s78).kp,dz2,hab.2,by omega,by simp; omega,fun r9 H4 zs s9 f9 h9 d9=>?_⟩
  walk_at "rd7"
  have s79:=s78.trans s9
  have e9:zs.length=(z8b (p++[1]) tb).length:=by rw [d9.length,List.length_map]
  refine⟨_,s79 _ _ hr6,_,h9,Nat.le_of_lt (z3e (by rw [List.length_append,e5,e9,List.length_singleton]; omega)),fun r10 h10=>?_⟩
  have s10:=z04 h10 (HO.lst (([V.ref r]++ys)++zs))
  refine q r10 _ _ ((s02.trans s26).trans (s79.trans s10)) (((s02.trans s26).trans s79).free h10) z01 ?_
  rw [z8b,<- List.cons_append,List.map_append]
  exact(d6.kp (s79.trans s10).kp).append (d9.kp s10.kp)
def zfr(n:Nat):Sp:=fun vs H Q _=>∃v b pv p,vs=[v,pv]/\Dt H v (.tup (encB b))/\Dt H pv (pathD p)/\okB n b/\n<=3/\p.length+2 * n<=100/\∀(r:Addr) (H':Hp) (xs:List V),Same H H'->H r=none->H' r=some (.lst xs)->DtA H' xs ((z27 p 0 b).map zzi)->Q (.ref r) H'
theorem zfz{n:Nat} (F:Fun K "deeds_of_block" "deeds_of_block" z0b f fd) (b_enumerate:mg "enumerate" = none) (c_blocks_of:Callee P w K mg base "blocks_of" ["deed"] 1 zfs) (c_deeds_of_block:Callee P w K mg base "deeds_of_block" ["block","path"] (n+2) (zfr n)):FnOk P w K mg base CX0 (n+3) f fd ["block","path"] (zfr (n+1)):=by
 refine F.ok sc_deeds_of_block (fun vs H Q E h=>?_) (fun cdv A outer s H vs Q E hr h=>?_)
 ·obtain⟨v,t,pv,p,rfl,_⟩:=h
  rfl
 obtain⟨v,b,pv,p,rfl,hd,hp,hok,hn,hl,q⟩:=h
 refine⟨_,(z03 (z18 (i:=2) sc_deeds_of_block.nd rfl zao (z46 pa_nil) (z05 rfl))
 (z03 (zbz PassesOwn.never rfl (zkx z7w b_enumerate (z06 (z00 (i:=0) rfl z9g zrc zrk) pa_nil)) (zel (n:=2) rfl (z24 (z1u (i:=3) sc_deeds_of_block.nd rfl zc3) (z24 (z1u (i:=4) sc_deeds_of_block.nd rfl zap) z7q)))
 (z03 (z18 (i:=5) sc_deeds_of_block.nd rfl z7c (z0o z3x (z00 (i:=1) rfl zae z1o z1p) (z11 (z06 (z00 (i:=3) rfl zbu znj znu) pa_nil))) (z05 rfl))
 (z03 (z7p (zi3 PySem.F.plainAttrs_list PySem.F.slot_list_append PySem.F.type_list_append z7r (z00 (i:=2) rfl z4j zau zaz) (z06 (z11 (z06 (z00 (i:=5) rfl z52 zgl zgn) (z06 (z00 (i:=4) rfl z61 z2u z2w) pa_nil))) pa_nil)) (z05 rfl))
 (z07 (zbz PassesOwn.never rfl (zfx (z1n c_blocks_of hr (by omega) (z06 (z00 (i:=4) rfl z61 z2u z2w) pa_nil) z7x zni)) (zel (n:=2) rfl (z24 (z1u (i:=6) sc_deeds_of_block.nd rfl z90) (z24 (z1u (i:=7) sc_deeds_of_block.nd rfl z9z) z7q)))
 (z07 (z7p (zi3 PySem.F.plainAttrs_list PySem.F.slot_list_extend PySem.F.type_list_extend zmy (z00 (i:=2) rfl z4j zau zaz) (z06 (z1n c_deeds_of_block hr (by omega) (z06 (z00 (i:=7) rfl z9f zxx zy1) (z06 (z0o z3x (z00 (i:=5) rfl z52 zgl zgn) (z11 (z06 (z00 (i:=6) rfl z8s zvt zw6) pa_nil))) pa_nil)) z69 za5) pa_nil)) (z05 rfl))))))))
 (z07 (z0h (z00 (i:=2) rfl z4j zau zaz))))),?_⟩
 walk_at "rd7"
 refine⟨Nat.zero_le _,fun pr hpr=>?_⟩
 obtain⟨ab,xs,rfl,hab,hda⟩:=hd.tupI
 have s1:=z04 hpr (HO.lst [])
 have hxl:xs.length=b.length:=by rw [hda.length,z7z]
 refine⟨ab,rfl,⟨_,SqT.of (s1 _ _ hab)⟩,?_⟩
 refine zna (xs:=xs) (q5y H ab pv p b pr) ?start ?lst ?step ?done
 case start=>exact⟨[],_,_,_,_,_,rfl,s1,z01,by rw [List.take_zero,z27]; exact .nil⟩
 case lst=>
  rintro i σ Hc _ ⟨vs,_,_,_,_,_,rfl,sc,_⟩
  exact SqT.of (sc _ _ hab)
 case done=>
  rintro σ Hc ⟨vs,_,_,_,_,_,rfl,sc,hv,dv⟩
  walk_at "rd7"
  rw [hxl,List.take_length] at dv
  exact q pr Hc vs sc hpr hv dv
 case step=>
  rintro i x σ Hc Tu hx ⟨vs,_,_,_,_,_,rfl,sc,hv,dv⟩ hT
  obtain⟨d,hbi,dx⟩:=zvp hda hx
  have hib:i < b.length:=(List.getElem?_eq_some_iff.mp hbi).1
  have s2:=z04 hT (HO.tup [V.int i,x])
  walk_at "rd7"
  refine⟨_,SqT.of z01,rfl,_,_,rfl,_,_,rfl,rfl,zl 1 (by decide),fun r1 h1=>?_⟩
  have s3:=z04 h1 (HO.tup [V.int i])
  refine zrl (hp.kp (sc.trans (s2.trans s3)).kp) zem (by simp; omega) fun z H1 s4 dz=>?_
  have s24:=(s2.trans s3).trans s4
  refine⟨.inl ⟨rfl,_,SqL.of (s24 _ _ hv)⟩,zl 2 (by decide),fun r2 h2=>?_⟩
  have s5:=z04 h2 (HO.tup [z,x])
  have s25:=s24.trans s5
  have hbn:=zrm hn
  have hvl:vs.length<=942:=by
   have e:vs.length=(z27 p 0 (b.take i)).length:=by rw [dv.length,List.length_map]
   have:=zit hok (i:=i) p
   omega
  refine⟨_,s25 _ _ hv,z3e (by omega),?_⟩
  have hw2:(upd H1 r2 (HO.tup [z,x])) r2=some (.tup [z,x]):=z01
  have rowW:Dt (upd H1 r2 (HO.tup [z,x])) (.ref r2) (zzi (p++[(i:Int)],d)):=.tup hw2 (.cons (dz.kp s5.kp) (.cons (dx.kp (sc.trans s25).kp) .nil))
  have hvW:=s25 _ _ hv
  generalize upd H1 r2 (HO.tup [z,x])=W at s5 s25 hw2 rowW hvW |-
  have k6:Kp W (upd W pr (HO.lst (vs++[V.ref r2]))):=Kp.set hvW
  have sU:Same H (upd W pr (HO.lst (vs++[V.ref r2]))):=z6m (sc.trans s25) hpr
  have vU:(upd W pr (HO.lst (vs++[V.ref r2]))) pr=some (.lst (vs++[V.ref r2])):=z01
  have dU:DtA (upd W pr (HO.lst (vs++[V.ref r2]))) (vs++[V.ref r2]) ((z27 p 0 (b.take i)++[(p++[(i:Int)],d)]).map zzi):=by
   rw [List.map_append]
   exact(dv.kp (s25.kp.trans k6)).append (.cons (rowW.kp k6) .nil)
  have hzU:=dz.kp (s5.kp.trans k6)
  generalize upd W pr (HO.lst (vs++[V.ref r2]))=U at k6 sU vU dU hzU |-
  refine⟨x,d,rfl,dx.kp sU.kp,fun rb H5 bs s6 f6 hb db=>?_⟩
  refine⟨rb,rfl,⟨_,SqL.of hb⟩,?_⟩
  have hnp:rb≠pr:=fun e=>by rw [e,vU] at f6; cases f6
  refine zr1 (xs:=bs) (q4l H H5 rb bs ab pv p b pr i d x z) ?s2 ?l2 ?st2 ?d2
  case s2=>exact⟨vs++[V.ref r2],_,_,_,rfl,sU.trans s6,s6 _ _ vU,by rw [List.take_zero,z97]; exact dU.kp s6.kp,Kp.refl _,hb⟩
  case l2=>
   rintro j σ Hd _ ⟨us,_,_,_,rfl,_,_,_,_,hbd⟩
   exact SqL.of hbd
  case d2=>
   rintro σ Hd ⟨us,_,_,_,rfl,sd,hu,du,_⟩
   have e:bs.length=d.blocks.length:=by rw [db.length,List.length_map]
   rw [e,List.take_length,<- zxv hbi] at du
   exact⟨us,_,_,_,_,_,rfl,sd,hu,du⟩
  case st2=>
   rintro j y σ Hd hy ⟨us,_,_,_,rfl,sd,hu,du,kd,hbd⟩
   obtain⟨nb,hnb,dnb⟩:=zb7 db hy
   obtain⟨pp,y0,y1,rfl,hpp,u0,u1⟩:=zob (dnb.kp kd)
   cases u0
   walk_at "rd7"
   have hdo:=hok.2 d (List.mem_of_getElem? hbi)
   have hbok:okB n nb.2:=zj1 hdo (List.mem_of_getElem? hnb)
   refine⟨_,SqT.of hpp,rfl,_,_,rfl,_,_,rfl,rfl,.inl ⟨rfl,_,SqL.of hu⟩,zl 1 (by decide),fun r3 h3=>?_⟩
   have s7:=z04 h3 (HO.tup [V.int nb.1])
   refine zrl (hzU.kp (s6.kp.trans (kd.trans s7.kp))) zem (by simp; omega) fun z2 H6 s8 dz2=>?_
   have s78:=s7.trans s8
   refine⟨y1,nb.2,z2,_,rfl,u1.kp s78.kp,dz2,hbok,by omega,by simp; omega,fun r4 H7 ws s9 f9 h9 d9=>?_⟩
   have s79:=s78.trans s9
   have hws:ws.length<=942:=by
    have e:ws.length=(z27 (p++[(i:Int)]++[nb.1]) 0 nb.2).length:=by rw [d9.length,List.length_map]
    have g1:=za3 n nb.2 (p++[(i:Int)]++[nb.1]) 0 hbok
    have g2:=zrm (n:=n) (by omega)
    omega
   have hus:us.length<=2900:=by
    have e:=du.length
    rw [List.length_map,List.length_append,List.length_cons] at e
    have g1:=zit hok (i:=i) p
    have g2:=zx4 hdo (by omega) (p++[(i:Int)]) (d.blocks.take j) (fun q hq=>List.mem_of_mem_take hq) (by rw [List.length_take]; have:=zt8 d; omega)
    omega
   refine⟨r4,rfl,us,s79 _ _ hu,ws,h9,zz (by omega),?_⟩
   have k7:Kp H7 (upd H7 pr (HO.lst (us++ws))):=Kp.set (s79 _ _ hu)
   refine⟨us++ws,_,_,_,rfl,z6m (sd.trans s79) hpr,z01,?_,kd.trans (s79.kp.trans k7),by rw [z0a hnp]; exact s79 _ _ hbd⟩
   rw [z6p hnb,zgj,z97,z97,List.append_nil,<- List.cons_append,<- List.append_assoc,List.map_append]
   exact(du.kp (s79.kp.trans k7)).append (d9.kp k7)
end
section
variable{P:Program}{w:World}{K:PySem.W.Frag}{mg:Str->Option Value}{base:Heap}{f:Addr}{fd:FuncData}
theorem zsq{k:Nat}{n1 n2:Str}:FnOk P w K mg base CX0 k f fd [n1,n2] (zfq 0):=by
 have no:∀vs H Q E,¬ zfq 0 vs H Q E:=fun vs H Q E h=>by
  obtain⟨v,t,pv,p,_,_,_,h1,_⟩:=h
  cases t<;>simp[T.deep] at h1
 exact⟨fun vs H Q E h=>absurd h (no vs H Q E),fun A outer s H args us vs Q E _ _ _ _ h=>absurd h (no vs H Q E)⟩
theorem zsr{k:Nat}{n1 n2:Str}:FnOk P w K mg base CX0 k f fd [n1,n2] (zfr 0):=by
 have no:∀vs H Q E,¬ zfr 0 vs H Q E:=fun vs H Q E h=>by
  obtain⟨v,t,pv,p,_,_,_,h1,_⟩:=h
  exact h1
 exact⟨fun vs H Q E h=>absurd h (no vs H Q E),fun A outer s H args us vs Q E _ _ _ _ h=>absurd h (no vs H Q E)⟩
theorem zo8(d:Df K mg "spots_of_term" z1f ["term","path"] f fd):∀n:Nat,Callee P w K mg base "spots_of_term" ["term","path"] (n+1) (zfq n)
 | 0=>d.callee zsq
 | n+1=>d.callee (zgv d.F (zo8 d n))
theorem zgp(d:Df K mg "deeds_of_block" z0b ["block","path"] f fd) (b_enumerate:mg "enumerate" = none) (c_blocks_of:Callee P w K mg base "blocks_of" ["deed"] 1 zfs):∀n:Nat,Callee P w K mg base "deeds_of_block" ["block","path"] (n+2) (zfr n)
 | 0=>d.callee zsr
 | n+1=>d.callee (zfz d.F b_enumerate c_blocks_of (zgp d b_enumerate c_blocks_of n))
def zjw:Sp:=fun vs H Q _=>∃v ins b,vs=[v]/\Dt H v (.tup [ins,.tup (encB b)])/\okB 3 b/\∀(r:Addr) (H':Hp) (xs:List V),Same H H'->H r=none->H' r=some (.lst xs)->DtA H' xs ((zf8 b).map zzi)->Q (.ref r) H'
theorem zms(F:Fun K "all_deeds" "all_deeds" z4m f fd) (c_deeds_of_block:Callee P w K mg base "deeds_of_block" ["block","path"] 5 (zfr 3)):FnOk P w K mg base CX0 6 f fd ["program"] zjw:=by
 refine F.ok zmf (fun vs H Q E h=>?_) (fun cdv A outer s H vs Q E hr h=>?_)
 ·obtain⟨v,ins,b,rfl,_⟩:=h
  rfl
 obtain⟨v,ins,b,rfl,hd,hok,q⟩:=h
 refine⟨_,(z07 (z0h (z1n c_deeds_of_block hr (by omega) (z06 (z0z z0p (z00 (i:=0) rfl zbv z3c z3d) z02 (fun _ _=>rfl)) (z06 (z11 pa_nil) pa_nil)) z7y za5))),?_⟩
 walk_at "rd7"
 obtain⟨a,x0,x1,rfl,ha,t0,t1⟩:=zob hd
 refine⟨_,rfl,_,SqT.of ha,_,rfl,Nat.zero_le _,fun r1 h1=>?_⟩
 have s1:=z04 h1 (HO.tup [])
 exact⟨x1,b,.ref r1,[],rfl,t1.kp s1.kp,.tup z01 .nil,hok,by decide,by decide,fun r H' xs s2 f2 h2 d2=>q r H' xs (s1.trans s2) (s1.free f2) h2 d2⟩
def zqc:Sp:=fun vs H Q _=>∃v ins b,vs=[v]/\Dt H v (.tup [ins,.tup (encB b)])/\okB 3 b/\∀(r:Addr) (H':Hp) (xs:List V),Same H H'->H r=none->H' r=some (.lst xs)->DtA H' xs ((zgc b).map q21)->Q (.ref r) H'
theorem zx6(F:Fun K "spots" "spots" z56 f fd) (c_all_deeds:Callee P w K mg base "all_deeds" ["program"] 6 zjw) (c_spots_of_term:Callee P w K mg base "spots_of_term" ["term","path"] 6 (zfq 5)) (c_term_of:Callee P w K mg base "term_of" ["deed"] 1 zqb):FnOk P w K mg base CX0 7 f fd ["program"] zqc:=by
 refine F.ok sc_spots (fun vs H Q E h=>?_) (fun cdv A outer s H vs Q E hr h=>?_)
 ·obtain⟨v,ins,b,rfl,_⟩:=h
  rfl
 obtain⟨v,ins,b,rfl,hd,hok,q⟩:=h
 refine⟨_,(z03 (z18 (i:=1) sc_spots.nd rfl zjf (z46 pa_nil) (z05 rfl))
 (z03 (zbz PassesOwn.never rfl (zfx (z1n c_all_deeds hr (by omega) (z06 (z00 (i:=0) rfl zfh z3c z3d) pa_nil) zev znk)) (zel (n:=2) rfl (z24 (z1u (i:=2) sc_spots.nd rfl zjg) (z24 (z1u (i:=3) sc_spots.nd rfl zjh) z7q)))
 (z07 (z7p (zi3 PySem.F.plainAttrs_list PySem.F.slot_list_extend PySem.F.type_list_extend zmy (z00 (i:=1) rfl zdg zau zaz) (z06 (z1n c_spots_of_term hr (by omega) (z06 (z1n c_term_of hr (by omega) (z06 (z00 (i:=3) rfl zj7 z2u z2w) pa_nil) zh2 zt0) (z06 (z0o z3x (z00 (i:=2) rfl zj6 z1o z1p) (z11 (z06 z02 pa_nil))) pa_nil)) zbn z76) pa_nil)) (z05 rfl))))
 (z07 (z0h (z00 (i:=1) rfl zdg zau zaz))))),?_⟩
 walk_at "rd7"
 refine⟨Nat.zero_le _,fun pr hpr=>?_⟩
 have s1:=z04 hpr (HO.lst [])
 refine⟨v,ins,b,rfl,hd.kp s1.kp,hok,fun ra H1 us s2 f2 h2 d2=>?_⟩
 have hne:ra≠pr:=fun e=>by rw [e,z01] at f2; cases f2
 have hrows:=zg7 3 b [] 0 hok
 have hbl:=za3 3 b [] 0 hok
 have hb3:bnd 3=942:=by decide
 refine⟨ra,rfl,⟨_,SqL.of h2⟩,?_⟩
 refine zr1 (xs:=us) (q5s H v (zf8 b) ra us pr) ?start ?lst ?step ?done
 case start=>exact⟨[],_,_,rfl,s1.trans s2,s2 _ _ z01,by rw [List.take_zero,z6q]; exact .nil,h2,d2⟩
 case lst=>
  rintro i σ Hc _ ⟨vs,_,_,rfl,_,_,_,hu,_⟩
  exact SqL.of hu
 case done=>
  rintro σ Hc ⟨vs,_,_,rfl,sc,hv,dv,hu,du⟩
  walk_at "rd7"
  rw [show us.length=(zf8 b).length by rw [d2.length,List.length_map],List.take_length] at dv
  exact q pr Hc vs sc hpr hv dv
 case step=>
  rintro i y σ Hc hy ⟨vs,_,_,rfl,sc,hv,dv,hu,du⟩
  obtain⟨r,hri,dr⟩:=zb7 du hy
  obtain⟨pp,y0,y1,rfl,hpp,u0,u1⟩:=zob dr
  walk_at "rd7"
  have hrm:=hrows r (List.mem_of_getElem? hri)
  refine⟨_,SqT.of hpp,rfl,_,_,rfl,_,_,rfl,rfl,.inl ⟨rfl,_,SqL.of hv⟩,y1,r.2,rfl,u1,fun x dx=>⟨zl 1 (by decide),fun r1 h1=>?_⟩⟩
  have s3:=z04 h1 (HO.tup [V.int 0])
  have hrl:r.1.length<=6:=by have:=hrm.1; simp at this; omega
  refine zrl (u0.kp s3.kp) zem (by simp; omega) fun z H2 s4 dz=>?_
  have s34:=s3.trans s4
  refine⟨x,r.2.term,z,_,rfl,dx.kp s34.kp,dz,zi5 hrm.2,by decide,by simp; omega,fun r4 H3 ws s5 f5 h5 d5=>?_⟩
  have s35:=s34.trans s5
  have l1:ws.length<=64:=by
   rw [d5.length,List.length_map]
   exact zaf (zi5 hrm.2) (by decide)
  have l2:vs.length<=942 * 64:=by
   have e:vs.length=(z6q ((zf8 b).take i)).length:=by rw [dv.length,List.length_map]
   have g1:=zfp ((zf8 b).take i) fun z hz=>(hrows z (List.mem_of_mem_take hz)).2
   have g2:((zf8 b).take i).length<=942:=by
    rw [List.length_take]
    have:(zf8 b).length<=bnd 3:=hbl
    omega
   have g3:((zf8 b).take i).length * 64<=942 * 64:=Nat.mul_le_mul_right _ g2
   omega
  refine⟨r4,rfl,vs,s35 _ _ hv,ws,h5,zz5 (by omega),?_⟩
  have k6:Kp H3 (upd H3 pr (HO.lst (vs++ws))):=Kp.set (s35 _ _ hv)
  refine⟨vs++ws,_,_,rfl,z6m (sc.trans s35) hpr,z01,?_,by rw [z0a hne]; exact s35 _ _ hu,du.kp (s35.kp.trans k6)⟩
  rw [z6p hri,zeg,z6q,z6q,List.append_nil,List.map_append]
  exact(dv.kp (s35.kp.trans k6)).append (d5.kp k6)
end
section
variable{P:Program}{w:World}{K:PySem.W.Frag}{mg:Str->Option Value}{base:Heap}{f:Addr}{fd:FuncData}
def q3e(xs:List Dm)(lo hi:Option Int):List Dm:=(xs.drop (HT.sIx xs.length 0 lo)).take (HT.sIx xs.length xs.length hi - HT.sIx xs.length 0 lo)
theorem zln{H:Hp}:∀{xs:List V} {ds:List Dm} (n:Nat),DtA H xs ds->DtA H (xs.take n) (ds.take n)
 | _,_,0,_=>by simp; exact .nil
 | _,_,n+1,.nil=>by simp; exact .nil
 | _,_,n+1,.cons h t=>by simp only[List.take_succ_cons]; exact .cons h (zln n t)
theorem zr9{H:Hp}:∀{xs:List V} {ds:List Dm} (n:Nat),DtA H xs ds->DtA H (xs.drop n) (ds.drop n)
 | _,_,0,h=>by simpa using h
 | _,_,n+1,.nil=>by simp; exact .nil
 | _,_,n+1,.cons h t=>by simp only[List.drop_succ_cons]; exact zr9 n t
theorem slD{K:PySem.W.Frag}{H:Hp}{Q:VK}{x:V}{ds:List Dm}{lo hi:Option Int}(dx:Dt H x (.tup ds))(h:∀z H',Same H H'->Dt H' z (.tup (q3e ds lo hi))->Q z H'):q23 K x lo hi H Q:=by
 obtain⟨a,xs,rfl,ha,da⟩:=dx.tupI
 have hl:=da.length
 refine⟨a,xs,rfl,SqT.of ha,?_⟩
 by_cases hw:HT.sIx xs.length 0 lo=0/\HT.sIx xs.length xs.length hi=xs.length
 ·refine .inl ⟨hw,h _ _ (Same.refl _) ?_⟩
  unfold q3e
  rw [<- hl,hw.1,hw.2,List.drop_zero,Nat.sub_zero,hl,List.take_length]
  exact dx
 ·refine .inr ⟨hw,fun p hp=>?_⟩
  have s1:=z04 hp (HO.tup (zt3 xs lo hi))
  refine h _ _ s1 (.tup z01 ?_)
  unfold zt3 q3e
  rw [<- hl]
  exact zln _ (zr9 _ (da.kp s1.kp))
def TabM(pt:Addr)(q:Str)(H:Hp):Prop:=∃ps,H pt=some (.tbl ps)/\TriplesOk ps.toList/\∀pos v,codeAmong pos ps.toList=some v->∃c',v=.ref c'/\H c'=some (zax c' q)
theorem zlz(a b:Nat)(v:Value)(l:List Value):TriplesOk l->TriplesOk (l++[rawInt a,rawInt b,v]):=by
 fun_induction TriplesOk l with
 | case1=>intro _; simp[TriplesOk,rawInt]
 | case2 i t j u c ztd ih=>intro h; exact ih h
 | case3=>intro h; exact h.elim
theorem zt9(pos p:Pos)(v u:Value)(l:List Value):TriplesOk l->codeAmong pos (l++[rawInt p.line,rawInt p.col,v])=some u->codeAmong pos l=some u\/u=v:=by
 fun_induction TriplesOk l with
 | case1=>
  intro _ h
  right
  simp only[List.nil_append,rawInt,codeAmong] at h
  split at h
  ·exact(Option.some.inj h).symm
  ·cases h
 | case2 i t j u' c ztd ih=>
  intro h e
  simp only[List.cons_append,codeAmong] at e |-
  split at e
  ·rename_i hh
   rw [if_pos hh]
   exact .inl e
  ·rename_i hh
   rw [if_neg hh]
   exact ih h e
 | case3=>intro h; exact h.elim
theorem TabM.tb{pt:Addr}{q:Str}{H:Hp}(h:TabM pt q H):∃ps,H pt=some (.tbl ps):=let ⟨ps,e,_⟩:=h; ⟨ps,e⟩
theorem TabM.kp{pt:Addr}{q:Str}{H H':Hp}(h:TabM pt q H)(k:∀a o,(∀xs,o≠.lst xs)->(∀C dx fs,o≠.ins C dx fs)->H a=some o->H' a=some o):TabM pt q H':=by
 obtain⟨ps,e,t,c⟩:=h
 refine⟨ps,k _ _ (by intro xs z; cases z) (by intro C dx fs z; cases z) e,t,fun pos v z=>?_⟩
 obtain⟨c',e1,e2⟩:=c pos v z
 exact⟨c',e1,k _ _ (by intro xs z; cases z) (by intro C dx fs z; cases z) e2⟩
theorem zuy{pt:Addr}{pos:Pos}{D:LamD}{cl:List (Str×Addr)}{σ : St}{H:Hp}{Q:VK}(hT:TabM pt D.qual H)(q:∀(fa c':Addr) (H2:Hp),SameB pt H H2->H fa=none->H2 fa=some (zoc D cl fa c')->H2 c'=some (zax c' D.qual)->TabM pt D.qual H2->Q (.ref fa) H2):q1e pt pos D cl σ H Q:=by
 obtain⟨ps,hP,ht,hc⟩:=hT
 refine⟨ps,hP,ht,?_⟩
 cases e:codeAmong pos ps.toList with
 | none=>
  refine .inl ⟨rfl,fun c' fa h1 h2 hne=>?_⟩
  have n1:pt≠c':=z0d hP h1
  have n2:pt≠fa:=z0d hP h2
  have sB:SameB pt H (upd (upd (upd H pt (.tbl (ps ++ #[rawInt pos.line,rawInt pos.col,.ref c']))) c' (zax c' D.qual)) fa (zoc D cl fa c')):=fun a o n e=>by rw [z0a (z0d e h2),z0a (z0d e h1),z0a n]; exact e
  refine q fa c' _ sB h2 z01 (by rw [z0a hne,z01]) ⟨_,by rw [z0a n2,z0a n1,z01],?_,fun pos' v z=>?_⟩
  ·rw [Array.toList_append]
   exact zlz _ _ _ _ ht
  ·rw [Array.toList_append] at z
   rcases zt9 _ _ _ _ _ ht z with z | z
   ·obtain⟨c2,e1,e2⟩:=hc pos' v z
    exact⟨c2,e1,sB _ _ (fun w=>by rw [w,hP] at e2; unfold zax at e2; cases e2) e2⟩
   ·exact⟨c',z,by rw [z0a hne,z01]⟩
 | some v=>
  obtain⟨c',rfl,e2⟩:=hc pos v e
  refine .inr ⟨c',rfl,e2,fun fa h1=>?_⟩
  have s1:=z04 h1 (zoc D cl fa c')
  refine q fa c' _ (SameB.of s1) h1 z01 (s1 _ _ e2) ⟨ps,s1 _ _ hP,ht,fun pos' v z=>?_⟩
  obtain⟨c2,e1,e3⟩:=hc pos' v z
  exact⟨c2,e1,s1 _ _ e3⟩
theorem zds{x:Str}{c:Addr}:∀{fr:List Str} {as:List Addr},fr.Nodup->as.Nodup->(fr.zip as).lookup x=some c->∃i:Nat,fr[i]?=some x/\as[i]?=some c
 | [],_,_,_,h=>by simp at h
 | _::_,[],_,_,h=>by simp at h
 | y::fr,a::as,n1,n2,h=>by
  rw [List.zip_cons_cons,List.lookup] at h
  split at h
  ·rename_i e
   cases h
   exact⟨0,by simpa using(beq_iff_eq.mp e).symm,rfl⟩
  ·obtain⟨i,h1,h2⟩:=zds (List.nodup_cons.mp n1).2 (List.nodup_cons.mp n2).2 h
   exact⟨i+1,h1,h2⟩
theorem z7t{fr:List Str}{as:List Addr}{sc:Scope}(h1:sc.kind=.function)(h2:sc.isCoroutine=false)(h3:sc.isGenerator=false)(h4:fr.Nodup)(h5:∀x∈fr,sc.names.lookup x=some .free)(h6:∀y∈sc.names,y.2≠.cell)(h7:∀y∈sc.names,y.2=.free->y.1∈fr)(hl:fr.length=as.length)(hn:as.Nodup):LamScope [] fr (fr.zip as) sc:=by
 have get:∀{i:Nat} {x:Str} {c:Addr},fr[i]?=some x->as[i]?=some c->(fr.zip as).lookup x=some c:=by
  intro i x c e1 e2
  clear h1 h2 h3 h5 h6 h7
  induction fr generalizing as i with
  | nil=>simp at e1
  | cons y fr ih=>
   match as,hl,hn,e2 with
   | [],hl,_,_=>simp at hl
   | a::as,hl,hn,e2=>
    have n1:=List.nodup_cons.mp h4
    cases i with
    | zero=>
     have e1':y=x:=by simpa using e1
     have e2':a=c:=by simpa using e2
     subst e1' e2'
     rw [List.zip_cons_cons,List.lookup,beq_self_eq_true]
    | succ i=>
     have e1':fr[i]?=some x:=by simpa using e1
     have:(x == y)=false:=by
      rw [beq_eq_false_iff_ne]
      rintro rfl
      exact n1.1 (List.mem_of_getElem? e1')
     rw [List.zip_cons_cons,List.lookup,this]
     exact ih n1.2 (by simpa using hl) (List.nodup_cons.mp hn).2 e1' (by simpa using e2)
 refine⟨h1,h2,h3,h4,by simp,h5,h6,fun y hy e=>?_,fun x y c e1 e2=>?_,fun x c h=>?_⟩
 ·obtain⟨i,hi,e'⟩:=List.getElem_of_mem (h7 y hy e)
  exact⟨as[i]'(by omega),get (List.getElem?_eq_some_iff.mpr ⟨hi,e'⟩) (List.getElem?_eq_getElem (by omega))⟩
 ·obtain⟨i,a1,a2⟩:=zds h4 hn e1
  obtain⟨j,b1,b2⟩:=zds h4 hn e2
  have hi:=(List.getElem?_eq_some_iff.mp a2).1
  have:i=j:=(List.getElem?_inj hi hn).mp (a2.trans b2.symm)
  subst this
  rw [a1] at b1
  exact Option.some.inj b1
 ·obtain⟨i,hi,e⟩:=List.getElem_of_mem h
  rw [List.getElem_zip] at e
  have l:=hi
  rw [List.length_zip] at l
  have e1:=congrArg Prod.fst e
  have e2:=congrArg Prod.snd e
  exact get (i:=i) (List.getElem?_eq_some_iff.mpr ⟨by omega,e1⟩) (List.getElem?_eq_some_iff.mpr ⟨by omega,e2⟩)
def zg9(K:PySem.W.Frag)(Rc:Addr)(as:List Addr)(C:Addr)(wd:Str):Prop:=PySem.W.exmOne K (.ref C) (.ref Rc)=some true/\ExcC K C/\∃j:Nat,(∀(i:Nat) (a:Addr),as[i]?=some a->PySem.W.kitOne K (.ref C) (.ref a)=some (decide (i=j)))/\PySem.W.kitOne K (.ref C) (.type "ValueError")=some true/\kinds6[j]?=some wd
def q1v(K:PySem.W.Frag)(Rc:Addr)(as:List Addr)(pt:Addr)(q:Str)(is:List Nat)(t:XK->TE):TE:=fun σ H Q=>TabM pt q H/\∃ws:List V,Paired (fun(i:Nat) (v:V)=>σ[i]?=some (some v)) is ws/\
 ∀H0,SameB pt H H0->TabM pt q H0->∀(E':XK) (Q':VK),(∀cls d H1,(∃C wd,cls=.ref C/\zg9 K Rc as C wd/\∀H',Same H1 H'->Q (.str wd) H')->E' cls d H1)->(∀v H1,Q v H1->Q' v H1)->t E' (ws.map some) H0 Q'
theorem zi4{σ : St}:∀{cs:List (Nat×Addr)} {ws:List V},Paired (fun(i:Nat) (v:V)=>σ[i]?=some (some v)) (cs.map (·.1)) ws->q4m σ cs ws
 | [],_,.nil=>.nil
 | _::_,_,.cons e r=>.cons e (zi4 r)
theorem zrg:∀{os:List (Addr×Obj)} {ws:List V},zhg os ws->∀{i:Nat} {v:V},ws[i]?=some v->∃c o u,os[i]?=some (c,o)/\o.data=.cell (some u)/\RelV v u
 | _,_,.nil,i,v,h=>by simp at h
 | (c,o)::_,y::_,.cons ⟨u,e1,e2⟩ r,0,v,h=>by
  have:y=v:=by simpa using h
  subst this
  exact⟨c,o,u,rfl,e1,e2⟩
 | _::_,_,.cons _ r,i+1,v,h=>by
  obtain⟨c,o,u,h1,h2⟩:=zrg r (i:=i) (v:=v) (by simpa using h)
  exact⟨c,o,u,by simpa using h1,h2⟩
theorem zrh:∀{os:List (Addr×Obj)} {ws:List V},zhg os ws->∀q∈os,∃u,q.2.data=.cell (some u)
 | _,_,.nil,q,h=>absurd h (by simp)
 | _::_,_,.cons ⟨u,e1,e2⟩ r,q,h=>by
  rcases List.mem_cons.mp h with rfl | h
  ·exact⟨u,e1⟩
  ·exact zrh r q h
theorem zn1:∀{os:List (Addr×Obj)} {i:Nat} {c:Addr} {o:Obj},(os.map (·.1)).Nodup->os[i]?=some (c,o)->os.lookup c=some o
 | [],_,_,_,_,h=>by simp at h
 | (b,u)::os,0,c,o,n,h=>by
  have e:b=c/\u=o:=by simpa using h
  obtain⟨rfl,rfl⟩:=e
  rw [List.lookup,beq_self_eq_true]
 | (b,u)::os,i+1,c,o,n,h=>by
  have h':os[i]?=some (c,o):=by simpa using h
  have n':=List.nodup_cons.mp n
  have:(c == b)=false:=by
   rw [beq_eq_false_iff_ne]
   rintro rfl
   exact n'.1 (List.mem_map.mpr ⟨_,List.mem_of_getElem? h',rfl⟩)
  rw [List.lookup,this]
  exact zn1 n'.2 h'
theorem zi2{X:Cx}{Rc c pt:Addr}{as:List Addr}{j:Nat}{q:Str}{params:Arguments}{body:Expr}{scope:Scope}{fr:List Str}{cs:List (Nat×Addr)}{t:XK->TE}{p lpos pos:Pos}
  (C:Callee X.prog X.w X.K X.mg X.base "_law_told" ["_law_deed"] 26 (ztq X.prog X.w X.K X.mg X.base Rc as)) (hr:Room j X.A) (hk:26<=j)
  (hdef:defaultsOf params X.env=([],[])) (hcl:closureFor scope X.env=pure (fr.zip (cs.map (·.2)))) (hcode:X.env.code=.ref c) (hC:PySem.W.CodeHd X.base c pt) (hB:X.base.BuiltinsAt X.mg pt) (hgP:mainGlobals≠pt)
  (hq:X.env.qual ++ "<lambda>" = q) (hcs:q16 X cs) (S:LamScope [] fr (fr.zip (cs.map (·.2))) scope) (hlen:fr.length=cs.length) (hnd:(cs.map (·.2)).Nodup)
  (hbind:∀fd:FuncData,fd.params=params->fd.defaults=.none->fd.kwdefaults=.none->fd.scope=scope->bindArgs fd ⟨[],[]⟩=pure [])
  (hbody:∀(f c':Addr) (A:Around) (outer:List PySem.Env) (s:Shared) (H:Hp) (E E':XK),Room 24 (A.deeper (PySem.W.envX q scope s.heap.objs.size f (.ref c') (fr.zip (cs.map (·.2)))))->zaa (CX1 X.prog X.w) (q3d X.prog X.w X.K X.mg X.base fr ⟨q,params,body,scope⟩ (fr.zip (cs.map (·.2))) f c' A outer s H E) E'->PE (q3d X.prog X.w X.K X.mg X.base fr ⟨q,params,body,scope⟩ (fr.zip (cs.map (·.2))) f c' A outer s H E) body (t E'))
  (hg:Gl X "_law_told") (hdb:(("_law_told" : Str) == ("__debug__" : Str))=false:=by decide) :
  PE X (.Call (.Name "_law_told" p) [.Lambda params body scope lpos] [] pos) (q1v X.K Rc as pt q (cs.map (·.1)) t):=by
 subst hq
 refine PE.weak (zse (cs:=cs) C hr hk (z06 (zqn hdef hcl hcode hC hB hgP) pa_nil) hcs hg hdb) fun σ H Q h=>?_
 obtain⟨hT,ws,hw,h⟩:=h
 unfold zju zd2 zq8
 refine zuy hT fun fa c' H2 sB hfa hf hc hT2=>?_
 refine⟨ws,zi4 hw,fun os em hca hn=>?_⟩
 have ecl:(fr.zip (cs.map (·.2))).map (·.2)=os.map (·.1):=by rw [em]; exact List.map_snd_zip (by rw [List.length_map]; omega)
 have lw:ws.length=fr.length:=by rw [hlen,(zi4 hw).length]
 have ond:(os.map (·.1)).Nodup:=by rw [em]; exact hnd
 refine⟨fa,rfl,⟨_,_,c',z8c hn hf⟩,?_⟩
 intro A outer s us hr' e0 r
 cases r
 have cells:∀b∈(fr.zip (cs.map (·.2))).map (·.2),∃o x,shw os H2 b=some (z3w b o)/\o.data=.cell x:=fun b hb=>by
  rw [ecl] at hb
  obtain⟨o,e⟩:=zg0 hb
  obtain⟨u,hu⟩:=zrh hca _ (PySem.W.mem_of_lookupK e)
  exact⟨o,_,zmd e,hu⟩
 refine zxi (k:=24) (ps:=[]) (fr:=fr) (ws:=ws) S hr' e0 (z8c hn hf) (z8c hn hc) rfl .nil lw cells (fun i x v h1 h2=>?_) hbind fun hr2=>⟨_,hbody fa c' A outer s (shw os H2) _ _ hr2 (zzw S e0 fun b hb=>?_),?_⟩
 ·obtain⟨b,o,u,h3,h4,h5⟩:=zrg hca h2
  refine⟨b,o,u,S.look x b (List.mem_of_getElem? (i:=i) ?_),zmd (zn1 ond h3),h4,h5⟩
  have:(cs.map (·.2))[i]?=some b:=by rw [<- em,List.getElem?_map,h3]; rfl
  rw [List.getElem?_zip_eq_some]
  exact⟨h1,this⟩
 ·obtain⟨o,_,e,_⟩:=cells b hb
  exact⟨o,e⟩
 rw [ecl,zxn hn]
 refine h H2 sB hT2 _ _ (fun cls d H1 ⟨C,wd,e,⟨xm,ec,jj,hk1,kv,hwd⟩,hq⟩ hno=>⟨C,e,xm,fun x hx=>⟨x,C,jj,wd,rfl,z01,ec,hk1,kv,hwd,fun H3 s3=>⟨fun b o e=>?_,hq _ fun a o e=>?_⟩⟩⟩) fun v H1 hq hno=>⟨fun b o e=>?_,by rw [zva hno]; exact hq⟩
 ·have eb:zcq (os.map (·.1)) (shw os H2) H1 b=some (z3w b o):=by rw [zj2 (List.mem_map.mpr ⟨_,PySem.W.mem_of_lookupK e,rfl⟩)]; exact zmd e
  exact s3 _ _ (by rw [z0a (z0d eb hx)]; exact eb)
 ·have na:a∉os.map (·.1):=fun z=>by rw [hno a z] at e; cases e
  have ea:zcq (os.map (·.1)) (shw os H2) H1 a=some o:=by rw [z5o na]; exact e
  rw [z1d na]
  exact s3 _ _ (by rw [z0a (z0d ea hx)]; exact ea)
 ·rw [zj2 (List.mem_map.mpr ⟨_,PySem.W.mem_of_lookupK e,rfl⟩)]
  exact zmd e
theorem zwc{fd:FuncData}{ar:Arguments}{sc:Scope}(h1:fd.params=ar)(h2:fd.defaults=.none)(h3:fd.kwdefaults=.none)(h4:fd.scope=sc)(h:ar = {posonlyargs:=[],args:=[],vararg:=none,kwonlyargs:=[],kw_defaults:=[],kwarg:=none,defaults:=[]}:=by rfl):bindArgs fd ⟨[],[]⟩=pure []:=by
 subst h
 obtain⟨name,qual,params,body,scope,globals,closure,defaults,kwdefaults,doc,pm,an,code,ct,bu⟩:=fd
 cases h1
 cases h2
 cases h3
 cases h4
 rfl
abbrev qL:Str:="law" ++ ".<locals>." ++ "<lambda>"
end
local macro_rules | `(tactic| walk_at "rd13")=>`(tactic| simp only[q5a,ztm,q1v,zz7,q4a,zoy,zox,q3z,q41,zkh,zrt,zjs,zbw,ztk,ztl,zjq,zhz,q24,zi0,zm0,z7o,zq7,ztc,zoh,tOp,zq6,tC,zya,zll,zyw,zpu,q0l,zz8,zrs,zol,zok,tCB,zd2,zq8,zm2,tUn,rU,rI0,rI,zzb,tOr,zz9,tB,zon,q1d,zoj,tIf,q1f,zru,zjr,zom,zho,zow,zhn,zrv,zgb,zrw,tSl,zdn,zoi,zzk,zfn,zjy,zsa,zp0,z9m,z9l,zcr,z9i,z9p,za6,zka,z5e,z7i,zg8,za7,z6j,z5f,z6k,zcw,za8,z6l,z7g,zjt,zzl,tDX,zwi,zz6,zza,tBM,
 qEq,qNe,qIn,zge,zzq,zoz,q1k,zs7,zzp,zp1,zzr,zzo,zs8,zs9,zjz,rIx,zyi,zu1,zzm,zzn,q1h,zs5,q1j,q1i,zdp,zdo,zhm,zjv,zy9,
 zcs,z9k,z9j,z9n,z7h,z9o,L2.start,zkb,z7j,zcx,List.map_cons,List.map_nil,List.length_cons,List.length_nil,List.replicate_succ,List.replicate_zero,Nat.reduceAdd,Nat.reduceSub,Nat.zero_add,Nat.add_zero,Nat.sub_zero,Nat.sub_self,Nat.add_sub_cancel,
 List.getElem?_cons_zero,List.getElem?_cons_succ,List.set_cons_zero,List.set_cons_succ,List.cons_append,List.nil_append,List.append_nil,List.cons.injEq,Option.some.injEq,V.int.injEq,V.ref.injEq,V.str.injEq,V.bl.injEq,V.ty.injEq,
 reduceCtorEq,false_and,and_false,and_true,true_and,exists_false,exists_const,false_or,or_false,exists_eq_left,exists_eq_left',exists_eq_right,exists_eq_right',exists_and_left,decide_eq_true_eq,Bool.not_eq_true',Bool.decide_eq_true,exists_eq,true_or,or_true,Bool.false_eq_true,if_true,if_false,Bool.true_eq_false,Bool.not_true,Bool.not_false,decide_true,decide_false,List.isEmpty_cons,List.isEmpty_nil,Bool.true_and,Bool.false_and,bne_self_eq_false,beq_self_eq_true])
section
variable{P:Program}{w:World}{K:PySem.W.Frag}{mg:Str->Option Value}{base:Heap}{f:Addr}{fd:FuncData}
def rw2(r:RI):Rw2:=(r.1,.int r.2)
theorem zwt(rs:List RI):rs.map rowI=(rs.map rw2).map q1g:=by rw [List.map_map]; rfl
def zxh(rs:List RI)(p:List Int):V:=match rs.find? (fun r=>decide (r.1=p)) with
 | some r=>.int r.2
 | none=>.non
theorem zkg{H:Hp}{p:List Int}:∀{rs:List RI} {kvs:List (List Key×V)},Paired (fun(kv:List Key×V) (r:Rw2)=>kv.1=r.1.map Sum.inl/\Dt H kv.2 r.2) kvs (rs.map rw2)->(zoa kvs (p.map Sum.inl)).getD .non=zxh rs p/\(zoa kvs (p.map Sum.inl)).isSome=(rs.map (·.1)).contains p
 | [],_,.nil=>⟨rfl,rfl⟩
 | r::rs,kv::kvs,.cons e t=>by
  by_cases h:r.1=p
  ·obtain⟨e1,e2⟩:=e
   have e2':Dt H kv.2 (.int r.2):=e2
   have ek:kv.2=.int r.2:=by
    generalize kv.2=z at e2'
    cases e2'
    rfl
   rw [zh8 (e1.trans (by rw [<- h]; rfl)),ek]
   refine⟨?_,?_⟩
   ·unfold zxh
    rw [List.find?_cons_of_pos (by simpa using h)]
    rfl
   ·rw [List.map_cons,List.contains_cons,h,beq_self_eq_true]
    rfl
  ·have hn:¬ kv.1=p.map Sum.inl:=fun c=>h (zv7 _ _ (e.1.symm.trans c))
   obtain⟨i1,i2⟩:=zkg (p:=p) t
   rw [zh9 hn,i1,i2]
   refine⟨?_,?_⟩
   ·unfold zxh
    rw [List.find?_cons_of_neg (by simpa using h)]
   ·have:(p == r.1)=false:=by simpa using fun z:p=r.1=>h z.symm
    rw [List.map_cons,List.contains_cons,this,Bool.false_or]
theorem q0w{xs:List V}{k:Nat}(h:k<=xs.length):zt3 xs none (some (k:Int))=xs.take k:=by
 unfold zt3
 rw [HT.zqh,HT.zzh,Nat.min_eq_left h,List.drop_zero,Nat.sub_zero]
def zyb(C:Addr):Sp:=fun vs H Q _=>∃(x dx l:Addr) (gv wv pv:V) (ys:List V) (rs:List RI) (k:Nat) (p:List Int),vs=[.ref x,pv]/\H x=some (.ins C dx (trF gv wv l k))/\H l=some (.lst ys)/\DtA H ys (rs.map rowI)/\Dt H pv (pathD p)/\(rs.map (·.1)).Nodup/\rs.length<=1000/\k<=rs.length/\∀H',Same H H'->Q (zxh (rs.take k) p) H'
theorem zty{H:Hp}{ys:List V}{rs:List RI}{k:Nat}{Q:VK}{p:Addr}(dy:DtA H ys (rs.map rowI))(hnd:(rs.map (·.1)).Nodup)(hz:rs.length<=1000)(hk:k<=rs.length)(hp:H p=none)
  (q:∀(d:Addr) (kvs:List (List Key×V)) (H':Hp),H' d=some (.dT kvs)->Same H H'->H d=none->Paired (fun(kv:List Key×V) (r:Rw2)=>kv.1=r.1.map Sum.inl/\Dt H' kv.2 r.2) kvs ((rs.take k).map rw2)->Q (.ref d) H'):zyj [V.ref p] (upd H p (.lst (zt3 ys none (some (k:Int))))) Q:=by
 have lys:ys.length=rs.length:=by rw [dy.length,List.length_map]
 have s1:=z04 hp (HO.lst (zt3 ys none (some (k:Int))))
 rw [q0w (by omega)] at s1 |-
 have dt:DtA (upd H p (.lst (ys.take k))) (ys.take k) (((rs.take k).map rw2).map q1g):=by
  have:=zln k (dy.kp s1.kp)
  rw [zwt,<- List.map_take,<- List.map_take] at this
  exact this
 refine⟨p,ys.take k,(rs.take k).map rw2,rfl,z01,dt,?_,?_,fun d kvs hd pk=>?_⟩
 ·rw [List.map_map,show(fun x:Rw2=>x.1) ∘ rw2=fun r:RI=>r.1 from rfl,List.map_take]
  exact hnd.sublist (List.take_sublist _ _)
 ·rw [List.length_map,List.length_take]
  omega
 ·have s2:=z04 hd (HO.dT kvs)
  exact q d kvs _ z01 (s1.trans s2) (s1.free hd) (L2.Paired.imp' (fun a b e=>⟨e.1,e.2.kp s2.kp⟩) pk)
theorem zl3{C:Addr} (F:Fun K "last" "Trace.last" z3p f fd) (b_dict:mg "dict" = none) (t:TrC K C):FnOk P w K mg base CX0 1 f fd ["self","path"] (zyb C):=by
 refine F.ok zkt (fun vs H Q E h=>?_) (fun cdv A outer s H vs Q E hr h=>?_)
 ·obtain⟨x,dx,l,gv,wv,pv,ys,rs,k,p,rfl,_⟩:=h
  rfl
 obtain⟨x,dx,l,gv,wv,pv,ys,rs,k,p,rfl,hx,hl,dy,dp,hnd,hz,hk,q⟩:=h
 refine⟨_,(z07 (z0h (zx2 hr.units1 (zl0 (zke rfl hr.units) zf4 b_dict zwb (z06 (zky ztx (z3g (z00 (i:=0) rfl z7n z0v z0x) rfl) zp6 (zp5 (z3g (z00 (i:=0) rfl z7n z0v z0x) rfl))) pa_nil) zuo zvw) (z00 (i:=1) rfl zdm z1o z1p) ⟨rfl,rfl,rfl,rfl⟩))),?_⟩
 walk_at "rd13"
 refine⟨_,_,_,hx,t.c,t.nr,_,z91,_,_,_,hx,t.c,t.nd,_,z7s,_,rfl,_,rfl,_,SqL.of hl,fun p1 h1=>zty dy hnd hz hk h1 fun d kvs H2 hd2 s2 hdn pk=>⟨d,rfl,.inr ⟨_,.inl hd2⟩,?_⟩⟩
 obtain⟨pa,xs,rfl,hpa,dpa⟩:=dp.tupI
 obtain rfl:=zcv dpa
 refine⟨_,DGet.t hd2 (k:=p.map Sum.inl) (by rw [s2 _ _ hpa,List.map_map]; rfl),?_⟩
 rw [(zkg pk).1]
 exact q _ s2
def zq9(C:Addr):Sp:=fun vs H Q _=>∃(x dx l:Addr) (gv wv:V) (ins:Dm) (b:List D) (ys:List V) (rs:List RI) (k:Nat),vs=[.ref x]/\H x=some (.ins C dx (trF gv wv l k))/\H l=some (.lst ys)/\Dt H gv (.tup [ins,.tup (encB b)])/\okB 3 b/\DtA H ys (rs.map rowI)/\(rs.map (·.1)).Nodup/\rs.length<=1000/\k<=rs.length/\
 ∀(r:Addr) (vs:List V) (H':Hp),Same H H'->H r=none->H' r=some (.lst vs)->DtA H' vs ((((zgc b).map (·.1)).filter fun p=>!((rs.take k).map (·.1)).contains p).map pathD)->Q (.ref r) H'
def UsI(U:Hp)(S:List RT)(R:List (List Int))(d:Addr)(i:Nat)(ys:List V)(σ':St)(H':Hp):Prop:=H'=U/\(∃t0 t1,σ'=[t0,t1,some (.ref d)])/\ys.length<=i/\DtA U ys ((((S.take i).map (·.1)).filter fun p=>!R.contains p).map pathD)
theorem zi6{C:Addr} (F:Fun K "unseen" "Trace.unseen" z22 f fd) (b_dict:mg "dict" = none) (t:TrC K C) (c_spots:Callee P w K mg base "spots" ["program"] 7 zqc):FnOk P w K mg base CX0 8 f fd ["self"] (zq9 C):=by
 refine F.ok sc_Trace_unseen (fun vs H Q E h=>?_) (fun cdv A outer s H vs Q E hr h=>?_)
 ·obtain⟨x,dx,l,gv,wv,ins,b,ys,rs,k,rfl,_⟩:=h
  rfl
 obtain⟨x,dx,l,gv,wv,ins,b,ys,rs,k,rfl,hx,hl,dg,hok,dy,hnd,hz,hk,q⟩:=h
 refine⟨_,(z03 (z18 (i:=1) sc_Trace_unseen.nd rfl zc4 (zl0 (zke rfl hr.units) zdd b_dict zwb (z06 (zky ztx (z3g (z00 (i:=0) rfl z54 z0v z0x) rfl) zp6 (zp5 (z3g (z00 (i:=0) rfl z54 z0v z0x) rfl))) pa_nil) zuo zvw) (z05 rfl))
 (z07 (z0h (zdr ["path","term","seen"] [none,none,some 1] rfl (CompS.of (by rfl)) (zfx (z1n c_spots hr (by omega) (z06 (z3g (z00 (i:=0) rfl z54 z0v z0x) rfl) pa_nil) zce zxw)) (fun _ _ _ _ _=>(zp8 (n:=2) (K:=K) rfl rfl (z24 (z1u (i:=0) (show List.Nodup (["path","term","seen"]:List Str) from by decide+kernel) rfl (Or.inl rfl)) (z24 (z1u (i:=1) (show List.Nodup (["path","term","seen"]:List Str) from by decide+kernel) rfl (Or.inl rfl)) z7q)))) (fun _ _ _ _ _=>(zp7 (q25 (zud hr.units1 (z00 (i:=0) rfl (by first | exact Or.inl rfl | exact Or.inr (Or.inl rfl) | exact Or.inr (Or.inr rfl)) z1o z1p) (z00 (i:=2) rfl (by first | exact Or.inl rfl | exact Or.inr (Or.inl rfl) | exact Or.inr (Or.inr rfl)) q0r q0y))))) (fun _ _ _ _ _=>(z00 (i:=0) rfl (by first | exact Or.inl rfl | exact Or.inr (Or.inl rfl) | exact Or.inr (Or.inr rfl)) z1o z1p)))))),z0g fun N1 e1=>?_⟩
 walk_at "rd13"
 refine⟨_,_,_,hx,t.c,t.nr,_,z91,_,_,_,hx,t.c,t.nd,_,z7s,_,rfl,_,rfl,_,SqL.of hl,fun p1 h1=>zty dy hnd hz hk h1 fun d kvs H2 hd2 s2 hdn pk=>?_⟩
 rw [e1]
 walk_at "rd13"
 refine⟨_,_,_,s2 _ _ hx,t.c,t.np,_,zk3,gv,ins,b,rfl,dg.kp s2.kp,hok,fun r3 H3 zs s3 hr3 hl3 dz=>?_⟩
 refine⟨r3,rfl,⟨_,SqL.of hl3⟩,?_⟩
 have hzs:zs.length=(zgc b).length:=by rw [dz.length,List.length_map]
 have hsb:(zgc b).length<=942 * 64:=ztp (n:=3) hok (by decide)
 have hd3:=s3 _ _ hd2
 have pk3:=L2.Paired.imp' (G:=fun(kv:List Key×V) (r:Rw2)=>kv.1=r.1.map Sum.inl/\Dt H3 kv.2 r.2) (fun a b e=>⟨e.1,e.2.kp s3.kp⟩) pk
 refine zfd (K:=K) (a:=r3) (xs:=zs) (UsI H3 (zgc b) ((rs.take k).map (·.1)) d) ⟨rfl,⟨_,_,rfl⟩,Nat.le_refl _,by rw [List.take_zero]; exact .nil⟩ (Nat.lt_of_le_of_lt (show zs.length<=942 * 64 by omega) (by decide)) ?_ ?_ ?_ ?_
 ·rintro i vs σ' H' ⟨_,_,h,_⟩
  exact h
 ·rintro i vs σ' H' _ ⟨rfl,_⟩
  exact SqL.of hl3
 ·rintro i vs v σ' H' hv ⟨rfl,⟨t0,t1,rfl⟩,hle,dv⟩
  obtain⟨r,hri,dr⟩:=zb7 dz hv
  obtain⟨va,v0,v1,rfl,hva,u0,u1⟩:=zob dr
  obtain⟨pa,xs,rfl,hpa,dpa⟩:=u0.tupI
  obtain rfl:=zcv dpa
  walk_at "rd13"
  refine⟨_,SqT.of hva,rfl,_,_,rfl,_,_,rfl,rfl,_,DGet.t hd3 (k:=r.1.map Sum.inl) (by rw [hpa,List.map_map]; rfl),?_⟩
  rw [(zkg pk3).2]
  have et:(((zgc b).take (i+1)).map (·.1))=((zgc b).take i).map (·.1)++[r.1]:=by rw [z6p hri,List.map_append]; rfl
  split
  ·rename_i hc
   refine⟨rfl,⟨_,_,rfl⟩,by rw [List.length_append,List.length_singleton]; omega,?_⟩
   rw [et,List.filter_append,List.filter_cons_of_pos (by rw [hc]; rfl),List.filter_nil,List.map_append]
   exact dv.append (.cons u0 .nil)
  ·rename_i hc
   refine⟨rfl,⟨_,_,rfl⟩,by omega,?_⟩
   rw [et,List.filter_append,List.filter_cons_of_neg (by rw [Bool.not_eq_false] at hc; rw [hc]; decide),List.filter_nil,List.append_nil]
   exact dv
 ·rintro vs σ' H' ⟨rfl,_,_,dv⟩ p5 h5
  rw [hzs,List.take_length] at dv
  have s5:=z04 h5 (HO.lst vs)
  exact q p5 vs _ (s2.trans (s3.trans s5)) ((s2.trans s3).free h5) z01 (dv.kp s5.kp)
end
section
variable{P:Program}{w:World}{K:PySem.W.Frag}{mg:Str->Option Value}{base:Heap}{f:Addr}{fd:FuncData}
theorem zht:∀{a b:Cnt},(∀x,x∈a↔x∈b)->a.Pairwise (fun p q=>z8t p.1 < z8t q.1)->b.Pairwise (fun p q=>z8t p.1 < z8t q.1)->a=b
 | [],[],_,_,_=>rfl
 | [],y::b,h,_,_=>absurd ((h y).mpr (.head _)) (by simp)
 | x::a,[],h,_,_=>absurd ((h x).mp (.head _)) (by simp)
 | x::a,y::b,h,p1,p2=>by
  obtain⟨a1,a2⟩:=List.pairwise_cons.mp p1
  obtain⟨b1,b2⟩:=List.pairwise_cons.mp p2
  have exy:x=y:=by
   rcases List.mem_cons.mp ((h x).mp (.head _)) with e | e
   ·exact e
   ·rcases List.mem_cons.mp ((h y).mpr (.head _)) with e2 | e2
    ·exact e2.symm
    ·have l1:=b1 x e
     have l2:=a1 y e2
     omega
  subst exy
  have:∀z,z∈a↔z∈b:=fun z=>by
   constructor
   ·intro hz
    rcases List.mem_cons.mp ((h z).mp (.tail _ hz)) with e | e
    ·have:=a1 z hz
     rw [e] at this
     omega
    ·exact e
   ·intro hz
    rcases List.mem_cons.mp ((h z).mpr (.tail _ hz)) with e | e
    ·have:=b1 z hz
     rw [e] at this
     omega
    ·exact e
  rw [zht this a2 b2]
theorem zwk{x:DX}{σ : St}{H:Hp}(h:x.chk [] []=true):x.Fit (fun _=>.non) σ H:=Env.fit (vo:=[]) (vt:=[]) ⟨fun i h=>absurd h (by simp),fun i h=>absurd h (by simp)⟩ h
theorem zkc{K:PySem.W.Frag}{a3:Addr}{is:List V}{rows:List Rw}{te:TE}{Q:VK}{H:Hp}(g:Rw->Int)(hia:H a3=some (.tup is))(dia:DtA H is (rows.map rowEnc))(hl:rows.length<=2)
  (hte:∀(r:Rw) (ra:Addr) (Q':VK),H ra=some (.tup [.str r.1,.int r.2.1,.int r.2.2])->Q' (.int (g r)) H->te [some (.ref ra)] H Q')
  (q:∀p,H p=none->Q (.ref p) (upd H p (.lst ((rows.map g).map V.int)))):zh7 (Itt K a3) (zll 0) zy9 te Q [none] H:=by
 have lis:is.length=rows.length:=by rw [dia.length,List.length_map]
 refine zy0 (xs:=is) (fun i ys σ' H'=>H'=H/\(∃t0,σ'=[t0])/\ys=((rows.take i).map g).map V.int) ⟨rfl,⟨_,rfl⟩,rfl⟩ (Nat.lt_of_le_of_lt (show is.length<=2 by omega) (by decide)) ?_ ?_ ?_ ?_
 ·rintro i ys σ' H' ⟨_,_,rfl⟩
  rw [List.length_map,List.length_map,List.length_take]
  exact Nat.min_le_left _ _
 ·rintro i ys σ' H' _ ⟨rfl,_⟩
  exact SqT.of hia
 ·rintro i ys x σ' H' hx ⟨rfl,⟨t0,rfl⟩,rfl⟩
  obtain⟨r,hri,dr⟩:=zb7 dia hx
  obtain⟨ra,r0,r1,r2,rfl,hra,u0,u1,u2⟩:=ztb dr
  cases u0; cases u1; cases u2
  walk_at "rd13"
  refine hte r ra _ hra ⟨rfl,⟨_,rfl⟩,?_⟩
  rw [z6p hri,List.map_append,List.map_append]
  rfl
 ·rintro ys σ' H' ⟨rfl,_,rfl⟩ p hp
  rw [lis,List.take_length]
  exact q p hp
theorem zy2{rows:List Rw}{ws:List Int}(h:Fits rows ws):¬ Fits rows (ws++[0]):=fun z=>by
 have h1:=h.len
 have h2:=z.len
 rw [List.length_append,List.length_singleton] at h2
 omega
theorem zxz(ws:List Int):q3e (ws.map Dm.int) none (some (-1))=(ws.take (ws.length - 1)).map Dm.int:=by
 unfold q3e
 rw [HT.zqh,List.drop_zero,Nat.sub_zero,List.length_map,List.map_take]
 congr 1
 show(if(-1:Int) < 0 then((-1:Int)+(ws.length:Int)).toNat else min (-1:Int).toNat ws.length)=_
 rw [if_pos (by decide)]
 omega
theorem zy3{rows:List Rw}{ws:List Int}(h:Fits rows ws):ws.take (ws.length - 1)=ws\/¬ Fits rows (ws.take (ws.length - 1)):=by
 by_cases e:ws=[]
 ·exact .inl (by rw [e]; rfl)
 ·refine .inr fun z=>?_
  have h1:=h.len
  have h2:=z.len
  have:ws.length≠0:=fun z=>e (List.length_eq_zero_iff.mp z)
  rw [List.length_take] at h2
  omega
theorem zwd{rows:List Rw}{ws:List Int}{g:Rw->Int}(hg:∀r:Rw,¬ (r.2.1<=g r/\g r<=r.2.2))(h:Fits rows ws):rows.map g=ws\/¬ Fits rows (rows.map g):=by
 match rows,ws,h with
 | [],[],_=>exact .inl rfl
 | r::rows,_::_,_=>exact .inr fun z=>hg r ⟨z.1,z.2.1⟩
def SameN(H H':Hp):Prop:=∀a o,(∀s,o≠.tbl s)->H a=some o->H' a=some o
theorem SameN.refl(H:Hp):SameN H H:=fun _ _ _ e=>e
theorem SameN.trans{H H1 H2:Hp}(a:SameN H H1)(b:SameN H1 H2):SameN H H2:=fun x o n e=>b x o n (a x o n e)
theorem SameN.of{H H':Hp}(h:Same H H'):SameN H H':=fun a o _ e=>h a o e
theorem SameN.kp{H H':Hp}(h:SameN H H'):Kp H H':=⟨fun b xs e=>h _ _ (by intro s z; cases z) e,fun b xs e=>⟨xs,h _ _ (by intro s z; cases z) e⟩⟩
theorem SameN.ofB{pt:Addr}{H H':Hp}{ps:Array Value}(h:SameB pt H H')(e:H pt=some (.tbl ps)):SameN H H':=fun a o n z=>h a o (z86 z e (n ps)) z
structure Tb(p1 p2 pt:Addr)(q:Str)(H:Hp):Prop where
 a:TabAt p1 posR dR.qual H
 b:TabAt p2 posT dT.qual H
 c:TabM pt q H
theorem TabAt.ne{p1 p2:Addr}{pos:Pos}{q:Str}{H H':Hp}(h:TabAt p1 pos q H)(s:SameB p2 H H')(n:p1≠p2)(ht:∃ps,H p2=some (.tbl ps)):TabAt p1 pos q H':=by
 obtain⟨ps,ht⟩:=ht
 rcases h with h | ⟨c',h,hc⟩
 ·exact .inl (s _ _ n h)
 ·exact .inr ⟨c',s _ _ n h,s _ _ (z86 hc ht (by intro z; unfold zax at z; cases z)) hc⟩
theorem TabM.ne{p1 p2:Addr}{q:Str}{H H':Hp}(h:TabM p1 q H)(s:SameB p2 H H')(n:p1≠p2)(ht:∃ps,H p2=some (.tbl ps)):TabM p1 q H':=by
 obtain⟨ps,ht⟩:=ht
 obtain⟨qs,e,t,c⟩:=h
 refine⟨qs,s _ _ n e,t,fun pos v z=>?_⟩
 obtain⟨c',e1,e2⟩:=c pos v z
 exact⟨c',e1,s _ _ (z86 e2 ht (by intro z; unfold zax at z; cases z)) e2⟩
theorem Tb.same{p1 p2 pt:Addr}{q:Str}{H H':Hp}(h:Tb p1 p2 pt q H)(s:Same H H'):Tb p1 p2 pt q H':=⟨h.a.kp fun a o _ e=>s _ _ e,h.b.kp fun a o _ e=>s _ _ e,h.c.kp fun a o _ _ e=>s _ _ e⟩
theorem Tb.told{p1 p2 pt:Addr}{q:Str}{H H':Hp}(h:Tb p1 p2 pt q H)(n1:p1≠pt)(n2:p2≠pt)(s:SameB pt H H')(t:TabM pt q H'):Tb p1 p2 pt q H':=⟨h.a.ne s n1 h.c.tb,h.b.ne s n2 h.c.tb,t⟩
theorem Tb.init{p1 p2 pt:Addr}{q:Str}{H H':Hp}(h:Tb p1 p2 pt q H)(n1:p1≠p2)(n2:p2≠pt)(s:SameB p2 H H')(t:TabAt p2 posT dT.qual H'):Tb p1 p2 pt q H':=⟨h.a.ne s n1 h.b.tb,t,h.c.ne s (Ne.symm n2) h.b.tb⟩
theorem Tb.nB{p1 p2 pt:Addr}{q:Str}{H H':Hp}(h:Tb p1 p2 pt q H)(s:SameB pt H H'):SameN H H':=let ⟨_,e⟩:=h.c.tb; SameN.ofB s e
theorem q0n{H:Hp}{v0 v1 v2 v3:V}{w0 w1 w2 w3:List Int}{R:List Int->Prop}(d0:Dt H v0 (pathD w0))(d1:Dt H v1 (pathD w1))(d2:Dt H v2 (pathD w2))(d3:Dt H v3 (pathD w3))(r0:R w0)(r1:R w1)(r2:R w2)(r3:R w3){j:Int}(h0:0<=j)(h4:j < 4):∃v w,atI [v0,v1,v2,v3] j=some v/\Dt H v (pathD w)/\R w:=by
 rcases(show j=0\/j=1\/j=2\/j=3 by omega) with rfl | rfl | rfl | rfl
 ·exact⟨v0,w0,rfl,d0,r0⟩
 ·exact⟨v1,w1,rfl,d1,r1⟩
 ·exact⟨v2,w2,rfl,d2,r2⟩
 ·exact⟨v3,w3,rfl,d3,r3⟩
def smallB:List D:=[.set "b" (.op .add (.nm "a") (.num 3)),.set "c" (.op .quo (.num 9) (.nm "b"))]
def smallR:List Rw:=[("a",-2,2)]
def ztw:List (List Int):=[[0,0,0],[0,0,1],[0,0],[1,0,0],[1,0,1],[1,0]]
def smallQ(i:Int):List RI:=[([0,0,0],i),([0,0,1],3),([0,0],i+3),([1,0,0],9),([1,0,1],i+3),([1,0],(9:Int).fdiv (i+3))]
def zhv(i:Int):Cnt:=[("a",i),("b",i+3),("c",(9:Int).fdiv (i+3))]
theorem zr4{i:Int}(h0 : -2<=i)(h1:i<=2):evP smallR smallB [i]=(none,zhv i,smallQ i):=by
 rcases(show i = -2\/i = -1\/i=0\/i=1\/i=2 by omega) with rfl | rfl | rfl | rfl | rfl<;>decide+kernel
theorem zag(i:Int):(smallQ i).map (·.1)=ztw:=rfl
theorem zkm(i:Int):((smallQ i).map (·.1)).Nodup:=by rw [zag]; decide
theorem zma{i:Int}:okRows smallR:=⟨by decide,by decide+kernel,fun r hr=>by
 rw [List.mem_singleton.mp hr]
 decide⟩
theorem zhu:okB 3 smallB:=by
 refine⟨by decide,fun d hd=>?_⟩
 simp only[smallB,List.mem_cons,List.not_mem_nil,or_false] at hd
 rcases hd with rfl | rfl
 ·exact⟨by decide+kernel,by simp only[T.ok]; exact⟨by decide+kernel,by decide⟩⟩
 ·exact⟨by decide+kernel,by simp only[T.ok]; exact⟨by decide,by decide+kernel⟩⟩
theorem zqg:kbB (smallR.map (·.1)) smallB=some (["a","b","c"]:List Str):=by decide+kernel
theorem zqf{i:Int}{k j:Nat}{p:List Int}(h:∀m,m < 6->k<=m->m < j->ztw[m]?≠some p):∀m,k<=m->m < j->∀r,(smallQ i)[m]?=some r->r.1≠p:=fun m h1 h2 r hr e=>by
 have hm:m < 6:=(List.getElem?_eq_some_iff.mp hr).1
 refine h m hm h1 h2 ?_
 rw [<- zag i,List.getElem?_map,hr]
 exact congrArg some e
theorem zmb{i:Int}{k:Nat}{p:List Int}(h:∀m,m < 6->k<=m->ztw[m]?≠some p):∀m,k<=m->∀r,(smallQ i)[m]?=some r->r.1≠p:=fun m h1 r hr e=>by
 have hm:m < 6:=(List.getElem?_eq_some_iff.mp hr).1
 refine h m hm h1 ?_
 rw [<- zag i,List.getElem?_map,hr]
 exact congrArg some e
theorem zm9(i:Int):((zgc smallB).map (·.1)).filter (fun p=>!(((smallQ i).take 5).map (·.1)).contains p)=[[1,0]]:=by
 rw [List.map_take,zag]
 decide+kernel
theorem ztv{i:Int}(h0 : -2<=i)(h1:i<=2){H:Hp}{r:V}(h:q4c (evP smallR smallB [i]) H r):Dt H r (.tup [.str "told",.tup ((zhv i).map zsh)]):=by
 rw [zr4 h0 h1] at h
 obtain⟨ms,e1,e2,e3⟩:=h
 have:ms=zhv i:=zht (fun x=>e1.mem_iff) e2 (by
  unfold zhv
  refine List.pairwise_cons.mpr ⟨fun x hx=>?_,List.pairwise_cons.mpr ⟨fun x hx=>?_,List.pairwise_singleton _ _⟩⟩
  ·simp only[List.mem_cons,List.not_mem_nil,or_false] at hx
   rcases hx with rfl | rfl
   ·show z8t "a" < z8t "b"
    decide+kernel
   ·show z8t "a" < z8t "c"
    decide+kernel
  ·rw [List.mem_singleton.mp hx]
   show z8t "b" < z8t "c"
   decide+kernel)
 rw [<- this]
 exact e3
theorem zfu(i:Int):Fine 4 (.tup [.str "told",.tup ((zhv i).map zsh)]):=by
 refine zf6 fun d hd=>?_
 simp only[List.mem_cons,List.not_mem_nil,or_false] at hd
 rcases hd with rfl | rfl
 ·exact zr3 _ (by decide+kernel)
 ·refine zf6 (n:=2) fun d hd=>?_
  obtain⟨p,hp,rfl⟩:=List.mem_map.mp hd
  refine zf6 (n:=1) fun d hd=>?_
  simp only[List.mem_cons,List.not_mem_nil,or_false] at hd
  rcases hd with rfl | rfl
  ·refine zr3 _ ?_
   simp only[zhv,List.mem_cons,List.not_mem_nil,or_false] at hp
   rcases hp with rfl | rfl | rfl
   ·exact(show PyData.strOk "a" = true by decide+kernel)
   ·exact(show PyData.strOk "b" = true by decide+kernel)
   ·exact(show PyData.strOk "c" = true by decide+kernel)
  ·exact zlm _ _
structure LS(p1 p2 pt C x dx l:Addr)(gv wv:V)(ys:List V)(i:Int)(k:Nat)(H:Hp):Prop where
 tb:Tb p1 p2 pt qL H
 hx:H x=some (.ins C dx (trF gv wv l k))
 hl:H l=some (.lst ys)
 dy:DtA H ys ((smallQ i).map rowI)
 dg:Dt H gv (.tup [.tup (smallR.map rowEnc),.tup (encB smallB)])
 dw:Dt H wv (pathD [i])
section
variable{p1 p2 pt C x dx l:Addr}{gv wv:V}{ys:List V}{i:Int}{k k':Nat}{H H':Hp}
theorem LS.nn(h:LS p1 p2 pt C x dx l gv wv ys i k H)(s:SameN H H')(t:Tb p1 p2 pt qL H'):LS p1 p2 pt C x dx l gv wv ys i k H':=
 ⟨t,s _ _ (by intro s z; cases z) h.hx,s _ _ (by intro s z; cases z) h.hl,h.dy.kp s.kp,h.dg.kp s.kp,h.dw.kp s.kp⟩
theorem LS.same(h:LS p1 p2 pt C x dx l gv wv ys i k H)(s:Same H H'):LS p1 p2 pt C x dx l gv wv ys i k H':=h.nn (SameN.of s) (h.tb.same s)
theorem LS.told(h:LS p1 p2 pt C x dx l gv wv ys i k H)(n1:p1≠pt)(n2:p2≠pt)(s:SameB pt H H')(t:TabM pt qL H'):LS p1 p2 pt C x dx l gv wv ys i k H':=h.nn (h.tb.nB s) (h.tb.told n1 n2 s t)
theorem LS.step(h:LS p1 p2 pt C x dx l gv wv ys i k H)(k':Nat):LS p1 p2 pt C x dx l gv wv ys i k' (upd H x (.ins C dx (trF gv wv l k'))):=by
 have nl:l≠x:=z86 h.hl h.hx (by intro z; cases z)
 have kp:=zgg (o:=.ins C dx (trF gv wv l k')) h.hx
 refine⟨⟨h.tb.a.ins h.hx,h.tb.b.ins h.hx,h.tb.c.kp fun a o _ n e=>?_⟩,z01,by rw [z0a nl]; exact h.hl,h.dy.kp kp,h.dg.kp kp,h.dw.kp kp⟩
 rw [z0a (z86 e h.hx (n _ _ _))]
 exact e
theorem LS.len(h:LS p1 p2 pt C x dx l gv wv ys i k H):ys.length=6:=by rw [h.dy.length]; rfl
end
theorem z6i{m:Str}{gv wv:V}{l:Addr}{k:Int} (h:(m == ("program" : Str))=false/\(m == ("worths" : Str))=false/\(m == ("rows" : Str))=false/\(m == ("done" : Str))=false):(trF gv wv l k).lookup m=none:=by
 simp only[trF,List.lookup,h.1,h.2.1,h.2.2.1,h.2.2.2]
theorem q3y:(6:Nat) < sizeLine:=by decide
theorem z7b{H:Hp}{v:V}{p:List Int}{ρ : Nat->Dm}{d:DX}(h:Dt H v (d.val ρ))(e:d.val ρ = pathD p):Dt H v (pathD p):=e ▸ h
theorem cdv{i:Int}(h0 : -2<=i)(h1:i<=2):q3x 9 (i+3):=⟨by omega,by omega⟩
theorem zir(r:RI):Fine 2 (rowI r):=zf6 fun d hd=>by
 simp only[List.mem_cons,List.not_mem_nil,or_false] at hd
 rcases hd with rfl | rfl
 ·exact z3r _
 ·exact zlm _ _
theorem q1o{Rc a0 a1 a2 a3 a4 a5 C:Addr}{j:Nat}{wd:Str}(hx:PySem.W.exmOne K (.ref C) (.ref Rc)=some true)(e:ExcC K C)(h0:PySem.W.kitOne K (.ref C) (.ref a0)=some (decide (0=j)))(h1:PySem.W.kitOne K (.ref C) (.ref a1)=some (decide (1=j)))(h2:PySem.W.kitOne K (.ref C) (.ref a2)=some (decide (2=j)))(h3:PySem.W.kitOne K (.ref C) (.ref a3)=some (decide (3=j)))(h4:PySem.W.kitOne K (.ref C) (.ref a4)=some (decide (4=j)))(h5:PySem.W.kitOne K (.ref C) (.ref a5)=some (decide (5=j)))
  (hv:PySem.W.kitOne K (.ref C) (.type "ValueError")=some true) (hw:kinds6[j]?=some wd):zg9 K Rc [a0,a1,a2,a3,a4,a5] C wd:=by
 refine⟨hx,e,j,fun i a hi=>?_,hv,hw⟩
 match i,hi with
 | 0,hi=>cases hi; exact h0
 | 1,hi=>cases hi; exact h1
 | 2,hi=>cases hi; exact h2
 | 3,hi=>cases hi; exact h3
 | 4,hi=>cases hi; exact h4
 | 5,hi=>cases hi; exact h5
 | n+6,hi=>simp at hi
end
section
variable{P:Program}{w:World}{K:PySem.W.Frag}{mg:Str->Option Value}{base:Heap}{f:Addr}{fd:FuncData}
def q61(H8:Hp)(p1 p2 pt:Addr)(qq:Str)(x0 x1 x2 x3:V)(i:Nat)(σ : St)(Hc:Hp):Prop:=(∃x4 x5,σ = [some x0,some x1,some x2,some x3,x4,x5,none,none,none,none])/\SameN H8 Hc/\Tb p1 p2 pt qq Hc
def zwr(K:PySem.W.Frag)(p1 p2 p3:Addr):Sp:=fun vs H Q _=>∃(a:Addr) (ns:List Int),vs=[.ref a]/\SqL K H a (ns.map V.int)/\ns.length<=63/\H p1=some (.tbl #[])/\H p2=some (.tbl #[])/\H p3=some (.tbl #[])/\∀H',Q (.bl true) H'
theorem q2i{c p1 p2 pt C N W Rc:Addr}{as:List Addr}(h12:p1≠p2)(h13:p1≠pt)(h23:p2≠pt) (F:FunC K "law" "law" z4k f fd c) (hC:PySem.W.CodeHd base c pt) (hB:base.BuiltinsAt mg pt) (hgP:mainGlobals≠pt) (t:TrC K C) (m_Trace:mg "Trace" = some (.ref C))
  (xN:zg9 K Rc as N "no step") (xW:zg9 K Rc as W "no worths")
  (b_range:mg "range" = none) (b_tuple:mg "tuple" = none) (c_law_program:Callee P w K mg base "_law_program" ["_law_script","_law_at"] 11 (zm5 K)) (c_law_pick:Callee P w K mg base "_law_pick" ["_law_script","_law_k","_law_many"] 2 (zdh K)) (c_law_worths:Callee P w K mg base "_law_worths" ["_law_script","_law_at","_law_program_here"] 3 (q4o K))
  (c_law_told:Callee P w K mg base "_law_told" ["_law_deed"] 26 (ztq P w K mg base Rc as)) (c_Trace_init:CalleeI P w K mg base C ["self","program","worths"] 23 (zyc p2 C)) (cx_Trace_init:CalleeIX P w K mg base C ["self","program","worths"] 23 (ztr p2 C W))
  (cx_Trace_back:CalleeMX P w K mg base C "back" ["self"] 1 (ztu C N)) (cx_Trace_go:CalleeMX P w K mg base C "go" ["self"] 1 (q1x C N)) (cx_Trace_to:CalleeMX P w K mg base C "to" ["self","path"] 1 (q1w C N))
  (c_Trace_back:CalleeM P w K mg base C "back" ["self"] 1 (zye C)) (c_Trace_to:CalleeM P w K mg base C "to" ["self","path"] 1 (q4p C)) (c_Trace_passed:CalleeM P w K mg base C "passed" ["self"] 1 (zqd C)) (c_Trace_last:CalleeM P w K mg base C "last" ["self","path"] 1 (zyb C)) (c_Trace_unseen:CalleeM P w K mg base C "unseen" ["self"] 8 (zq9 C)) (c_Trace_outcome:CalleeM P w K mg base C "outcome" ["self"] 23 (zm6 p1 C)):FnOk P w K mg base CX0 27 f fd ["_law_script"] (zwr K p1 p2 pt):=by
 refine F.ok sc_law (fun vs H Q E h=>?_) (fun A outer s H vs Q E hr h=>?_)
 ·obtain⟨a,ns,rfl,_⟩:=h
  rfl
 obtain⟨a,ns,rfl,hS,_,hp1,hp2,hp3,q⟩:=h
 have k_Trace:=t.c
 refine⟨_,(z03 (z18 (i:=1) sc_law.nd rfl z8z (z1n c_law_program hr (by omega) (z06 (z00 (i:=0) rfl z4h z08 z09) (z06 z02 pa_nil)) zdw ziv) (z05 rfl))
 (z03 (z18 (i:=2) sc_law.nd rfl z9x (z1n c_law_worths hr (by omega) (z06 (z00 (i:=0) rfl z4h z08 z09) (z06 z02 (z06 (z00 (i:=1) rfl z3u z30 z31) pa_nil))) zf0 zjn) (z05 rfl))
 (z03 (z18 (i:=3) sc_law.nd rfl zh0 (z46 (z06 (q33 (zr8 (z00 (i:=2) rfl z42 z5p z5q)) (z4u (z2h z4c z2p))) (z06 (zky zze (z00 (i:=2) rfl z42 z5p z5q) zp6 (zp5 (zp9 zhl z02))) (z06 (zl0 z4q zgh b_tuple z8j (z06 (zdr ["_law_row"] [none] rfl (CompS.of (by rfl)) (zyl (z0z z0p (z00 (i:=1) rfl z3u z30 z31) z02 (fun _ _=>rfl))) (fun _ _ _ _ _=>(z1u (i:=0) (show List.Nodup (["_law_row"]:List Str) from by decide+kernel) rfl (Or.inl rfl))) (fun _ _ _ _ _=>zkw) (fun _ _ _ _ _=>(z0o z1h (z0z (ixK (r:=zu1) (K:=K) z0p rfl) (z00 (i:=0) rfl (by first | exact Or.inl rfl | exact Or.inr (Or.inl rfl) | exact Or.inr (Or.inr rfl)) ze4 ze9) z02 (fun _ _=>rfl)) z02))) pa_nil) z8e z8i) pa_nil)))) (z05 rfl))
 (z03 (z7p (zi3 PySem.F.plainAttrs_list PySem.F.slot_list_append PySem.F.type_list_append z7r (z00 (i:=3) rfl zb4 zix zj0) (z06 (zl0 z4q zgh b_tuple z8j (z06 (zdr ["_law_row"] [none] rfl (CompS.of (by rfl)) (zyl (z0z z0p (z00 (i:=1) rfl z3u z30 z31) z02 (fun _ _=>rfl))) (fun _ _ _ _ _=>(z1u (i:=0) (show List.Nodup (["_law_row"]:List Str) from by decide+kernel) rfl (Or.inl rfl))) (fun _ _ _ _ _=>zkw) (fun _ _ _ _ _=>(z0o z8d (z0z (ixK (r:=zu1) (K:=K) z0p rfl) (z00 (i:=0) rfl (by first | exact Or.inl rfl | exact Or.inr (Or.inl rfl) | exact Or.inr (Or.inr rfl)) ze4 ze9) z02 (fun _ _=>rfl)) z02))) pa_nil) z8e z8i) pa_nil)) (z05 rfl))
 (z03 (zbz PassesOwn.never rfl (zi1 zn8 b_range (z06 z02 pa_nil)) (z1u (i:=4) sc_law.nd rfl zjj)
 (z03 (z18 (i:=5) sc_law.nd rfl zg1 (z0z z4n (z00 (i:=3) rfl zb4 zix zj0) (z0o zk1 (z0o z1h (z1n c_law_pick hr (by omega) (z06 (z00 (i:=0) rfl z4h z08 z09) (z06 z02 (z06 z02 pa_nil))) zbc z0w) (z00 (i:=4) rfl zj9 z4v z4w)) z02) (fun _ _=>rfl)) (z05 rfl))
 (z07 (z2g (PW.pt (zu2 (z0f (dNe hr.units) (z00 (i:=5) rfl zfi zgm zgo) (z00 (i:=2) rfl z42 z5p z5q) (z0m _)) (zp2 (z0f (gNe hr.units) (zi2 (c:=c) (pt:=pt) (q:=qL) (cs:=[(5,s.heap.objs.size+2),(1,s.heap.objs.size+1)]) (fr:=["_law_some","_law_program_here"]) c_law_told hr (by omega) rfl rfl rfl hC hB hgP rfl (List.forall_mem_cons.mpr ⟨⟨"_law_some",rfl,rfl,zfe,rfl⟩,(List.forall_mem_cons.mpr ⟨⟨"_law_program_here",rfl,rfl,z87,rfl⟩,(fun _ h=>nomatch h)⟩)⟩) (z7t rfl rfl rfl (by decide+kernel) (by decide+kernel) (by decide+kernel) (by decide+kernel) rfl (by simp)) rfl (by simp) (fun _ h1 h2 h3 h4=>zwc h1 h2 h3 h4) (fun _ _ _ _ _ _ _ _ hr hx=>(q27 cx_Trace_init hx hr (by omega) rfl m_Trace (z06 (z00 (i:=1) rfl (by first | exact Or.inl rfl | exact Or.inr (Or.inl rfl) | exact Or.inr (Or.inr rfl)) z30 z31) (z06 (z00 (i:=0) rfl (by first | exact Or.inl rfl | exact Or.inr (Or.inl rfl) | exact Or.inr (Or.inr rfl)) zgm zgo) pa_nil)) zrd)) z4t z6v) z0i (z0m _))))) (z07 (z0h zjb)) z0l))))
 (z03 (z18 (i:=6) sc_law.nd rfl zes (z4u (z2h z8h (z2h z8h (z2h (z4u (z2h z8h (z2h (z4u (z2h z8h (z2h z8h z2p))) (z2h (z4u (z2h z8h (z2h z4c z2p))) z2p)))) z2p)))) (z05 rfl))
 (z03 (z18 (i:=7) sc_law.nd rfl zer (z4u (z2h (z4u (z2h (z4u (z2h z8h (z2h q32 (z2h z4c z2p)))) z2p)) (z2h (z4u (z2h (zr8 (z00 (i:=6) rfl zed zfb zfg)) (z2h (z4u (z2h z8h (z2h z8h (z2h (z4u (z2h z8h (z2h (z4u (z2h z8h (z2h z4c z2p))) (z2h (z4u (z2h z8h (z2h z8h z2p))) z2p)))) z2p)))) z2p))) z2p))) (z05 rfl))
 (z03 (z18 (i:=8) sc_law.nd rfl zgz (z0o z8d (z1n c_law_pick hr (by omega) (z06 (z00 (i:=0) rfl z4h z08 z09) (z06 z02 (z06 z02 pa_nil))) zbc z0w) z02) (z05 rfl))
 (z03 (z18 (i:=9) sc_law.nd rfl zeq (q4b c_Trace_init hr (by omega) zn9 m_Trace (z06 (z00 (i:=7) rfl zec zlq zlv) (z06 (z4u (z2h (zr8 (z00 (i:=8) rfl z29 z2v z2x)) z2p)) pa_nil)) zrd) (z05 rfl))
 (z03 (z2g (z0f (gNe hr.units) (zi2 (c:=c) (pt:=pt) (q:=qL) (cs:=[(9,s.heap.objs.size+3)]) (fr:=["_law_trace"]) c_law_told hr (by omega) rfl rfl rfl hC hB hgP rfl (List.forall_mem_cons.mpr ⟨⟨"_law_trace",rfl,rfl,z4p,rfl⟩,(fun _ h=>nomatch h)⟩) (z7t rfl rfl rfl (by decide+kernel) (by decide+kernel) (by decide+kernel) (by decide+kernel) rfl (by simp)) rfl (by simp) (fun _ h1 h2 h3 h4=>zwc h1 h2 h3 h4) (fun _ _ _ _ _ _ _ _ hr hx=>(zu8 (z00 (i:=0) rfl (by first | exact Or.inl rfl | exact Or.inr (Or.inl rfl) | exact Or.inr (Or.inr rfl)) z1l z1m) k_Trace cx_Trace_back hx hr (by omega))) z4t z6v) z0i (z0m _)) (z07 (z0h zjb)) z0l)
 (z03 (z2g (z0f (gNe hr.units) (zi2 (c:=c) (pt:=pt) (q:=qL) (cs:=[(9,s.heap.objs.size+3)]) (fr:=["_law_trace"]) c_law_told hr (by omega) rfl rfl rfl hC hB hgP rfl (List.forall_mem_cons.mpr ⟨⟨"_law_trace",rfl,rfl,z4p,rfl⟩,(fun _ h=>nomatch h)⟩) (z7t rfl rfl rfl (by decide+kernel) (by decide+kernel) (by decide+kernel) (by decide+kernel) rfl (by simp)) rfl (by simp) (fun _ h1 h2 h3 h4=>zwc h1 h2 h3 h4) (fun _ _ _ _ _ _ _ _ hr hx=>(zym (z00 (i:=0) rfl (by first | exact Or.inl rfl | exact Or.inr (Or.inl rfl) | exact Or.inr (Or.inr rfl)) z1l z1m) k_Trace cx_Trace_to hx hr (by omega) (z06 (z4u (z2h z4c (z2h z4c z2p))) pa_nil))) z4t z6v) z0i (z0m _)) (z07 (z0h zjb)) z0l)
 (z03 (z2g (PW.pt (zgu (z0f zmp (zx1 (z00 (i:=9) rfl z17 z1l z1m) k_Trace c_Trace_to hr (by omega) (z06 (z4u (z2h z4c (z2h z4c z2p))) pa_nil)) (z0o z1h (z00 (i:=8) rfl z29 z2v z2x) z02) (z0m _)) (zgu (z0f (gNe hr.units) (zi2 (c:=c) (pt:=pt) (q:=qL) (cs:=[(9,s.heap.objs.size+3)]) (fr:=["_law_trace"]) c_law_told hr (by omega) rfl rfl rfl hC hB hgP rfl (List.forall_mem_cons.mpr ⟨⟨"_law_trace",rfl,rfl,z4p,rfl⟩,(fun _ h=>nomatch h)⟩) (z7t rfl rfl rfl (by decide+kernel) (by decide+kernel) (by decide+kernel) (by decide+kernel) rfl (by simp)) rfl (by simp) (fun _ h1 h2 h3 h4=>zwc h1 h2 h3 h4) (fun _ _ _ _ _ _ _ _ hr hx=>(zym (z00 (i:=0) rfl (by first | exact Or.inl rfl | exact Or.inr (Or.inl rfl) | exact Or.inr (Or.inr rfl)) z1l z1m) k_Trace cx_Trace_to hx hr (by omega) (z06 (z4u (z2h z4c (z2h z4c (z2h z4c z2p)))) pa_nil))) z4t z6v) z0i (z0m _)) (zgf (z0f (dNe hr.units) (zmk (z00 (i:=9) rfl z17 z1l z1m) k_Trace c_Trace_passed hr (by omega)) (z4u (z2h z4c (z2h z4c z2p))) (z0m _)))))) (z07 (z0h zjb)) z0l)
 (z03 (z2g (PW.pt (zgu (z0f zmp (zx1 (z00 (i:=9) rfl z17 z1l z1m) k_Trace c_Trace_to hr (by omega) (z06 (z4u (z2h z4c (z2h z4c z2p))) pa_nil)) (z0o zhd z02 (z0o z1h (z00 (i:=8) rfl z29 z2v z2x) z02)) (z0m _)) (zgu (z0f (gNe hr.units) (zi2 (c:=c) (pt:=pt) (q:=qL) (cs:=[(9,s.heap.objs.size+3)]) (fr:=["_law_trace"]) c_law_told hr (by omega) rfl rfl rfl hC hB hgP rfl (List.forall_mem_cons.mpr ⟨⟨"_law_trace",rfl,rfl,z4p,rfl⟩,(fun _ h=>nomatch h)⟩) (z7t rfl rfl rfl (by decide+kernel) (by decide+kernel) (by decide+kernel) (by decide+kernel) rfl (by simp)) rfl (by simp) (fun _ h1 h2 h3 h4=>zwc h1 h2 h3 h4) (fun _ _ _ _ _ _ _ _ hr hx=>(zu8 (z00 (i:=0) rfl (by first | exact Or.inl rfl | exact Or.inr (Or.inl rfl) | exact Or.inr (Or.inr rfl)) z1l z1m) k_Trace cx_Trace_go hx hr (by omega))) z4t z6v) z0i (z0m _)) (zgf (z0f (dNe hr.units) (zmk (z00 (i:=9) rfl z17 z1l z1m) k_Trace c_Trace_passed hr (by omega)) (z4u (z2h z4c (z2h z4c z2p))) (z0m _)))))) (z07 (z0h zjb)) z0l)
 (z03 (z2g (PW.pt (zgu (z0f (dNe hr.units) (zmk (z00 (i:=9) rfl z17 z1l z1m) k_Trace c_Trace_back hr (by omega)) (z11 (z06 (z4u (z2h z4c (z2h z4c z2p))) (z06 (z0o zhd z02 (z0o z1h (z00 (i:=8) rfl z29 z2v z2x) z02)) pa_nil))) (z0m _)) (zgu (z0f zvc (zx1 (z00 (i:=9) rfl z17 z1l z1m) k_Trace c_Trace_last hr (by omega) (z06 (z4u (z2h z4c (z2h z4c z2p))) pa_nil)) zdi (z0m _)) (zgf (z0f zmp (zx1 (z00 (i:=9) rfl z17 z1l z1m) k_Trace c_Trace_last hr (by omega) (z06 (z4u (z2h z4c (z2h z4c (z2h z4c z2p)))) pa_nil)) (z00 (i:=8) rfl z29 z2v z2x) (z0m _)))))) (z07 (z0h zjb)) z0l)
 (z03 (z2g (z0f (q5o hr.units) (zmk (z00 (i:=9) rfl z17 z1l z1m) k_Trace c_Trace_unseen hr (by omega)) (z46 (z2h (z4u (z2h z4c (z2h z4c z2p))) z2p)) (z0m _)) (z07 (z0h zjb)) z0l)
 (z07 (z0h (zkz (dEq hr.units) (zmk (z00 (i:=9) rfl z17 z1l z1m) k_Trace c_Trace_outcome hr (by omega)) (z11 (z06 z0i (z06 (z11 (z06 (z4u (z2h z8h (z2h (zr8 (z00 (i:=8) rfl z29 z2v z2x)) z2p))) (z06 (z11 (z06 z0i (z06 (z0o z1h (z00 (i:=8) rfl z29 z2v z2x) z02) pa_nil))) (z06 (z11 (z06 z0i (z06 (z0o zhd z02 (z0o z1h (z00 (i:=8) rfl z29 z2v z2x) z02)) pa_nil))) pa_nil)))) pa_nil))) (z0m _))))))))))))))))))),z0g fun N1 e1=>?_⟩
 walk_at "rd13"
 refine⟨a,ns,0,rfl,hS,by decide,fun r ri rb H1 rows b g0 s1 hr1 dri drb hrow hok hbl hbn hkn=>?_⟩
 have dr:Dt H1 (.ref r) (.tup [.tup (rows.map rowEnc),.tup (encB b)]):=.tup hr1 (.cons dri (.cons drb .nil))
 rw [e1]
 refine z0g fun N2 e2=>?_
 walk_at "rd13"
 refine⟨a,ns,910,.ref r,rows,_,rfl,s1.seq hS,by decide,dr,hrow,fun wv ws H2 s2 dw hfit=>?_⟩
 rw [e2]
 refine z0g fun N3 e3=>?_
 clear e1 e2
 walk_at "rd13"
 obtain⟨wa,xs,rfl,hwa,dwa⟩:=dw.tupI
 obtain⟨ia,is,ei,hia,dia⟩:=(dri.kp s2.kp).tupI
 cases ei
 refine⟨fun _=>pathD ws,?_,fun v0 H3 s3 d0=>?_⟩
 ·rw [DX.Fit,DX.Fit,DX.Fit]
  refine⟨⟨_,rfl,dw⟩,⟨by decide,by rw [FitA,FitA,DX.Fit]; exact⟨trivial,trivial⟩⟩,ws.map Dm.int,[.int 0],by rw [DX.val]; rfl,by rw [DX.val,zga,zga,DX.val],?_⟩
  have:=hfit.len
  have:=hrow.len
  rw [List.length_map]
  exact(show ws.length+1<=1000 by omega)
 replace d0:Dt H3 v0 (pathD (ws++[0])):=by
  rw [DX.val,DX.val,DX.val,zga,zga,DX.val] at d0
  have e:pathD (ws++[0])=.tup (ws.map Dm.int++[.int 0]):=by unfold pathD; rw [List.map_append]; rfl
  rw [e]
  exact d0
 refine slD (dw.kp s3.kp) fun v1 H4 s4 d1=>?_
 rw [zxz] at d1
 have s24:=s3.trans s4
 refine⟨_,SqT.of (s24 _ _ (s2 _ _ hr1)),_,z1w,_,rfl,⟨_,SqT.of (s24 _ _ hia)⟩,?_⟩
 refine zkc (fun r=>r.2.2+1) (s24 _ _ hia) (dia.kp s24.kp) hrow.len (fun r ra Q' hra q'=>?_) fun p5 h5=>⟨p5,rfl,_,.inl ⟨SqL.of z01,fun l5 hl5=>⟨by decide,fun lb hlb=>?_⟩⟩⟩
 ·walk_at "rd13"
  exact⟨_,SqT.of hra,_,z1i (j:=2) rfl,_,rfl,q'⟩
 have s5:=z04 h5 (HO.lst ((rows.map fun r=>r.2.2+1).map V.int))
 have s6:=z04 hl5 (HO.tup ((rows.map fun r=>r.2.2+1).map V.int))
 have s7:=z04 hlb (HO.lst [v0,v1,V.ref l5])
 have s27:=s24.trans (s5.trans (s6.trans s7))
 have d2:Dt _ (V.ref l5) (pathD (rows.map fun r=>r.2.2+1)):=.tup (s7 _ _ z01) (zhe _ _)
 have hlb7:(upd (upd (upd H4 p5 (HO.lst ((rows.map fun r=>r.2.2+1).map V.int))) l5 (HO.tup ((rows.map fun r=>r.2.2+1).map V.int))) lb (HO.lst [v0,v1,V.ref l5])) lb=some (.lst [v0,v1,V.ref l5]):=z01
 have d07:=((d0.kp s4.kp).kp s5.kp).kp (s6.trans s7).kp
 have d17:=(d1.kp s5.kp).kp (s6.trans s7).kp
 have hlbn:H lb=none:=s1.free (s2.free (s24.free (s5.free (s6.free hlb))))
 generalize upd (upd (upd H4 p5 (HO.lst ((rows.map fun r=>r.2.2+1).map V.int))) l5 (HO.tup ((rows.map fun r=>r.2.2+1).map V.int))) lb (HO.lst [v0,v1,V.ref l5])=H7 at s27 d2 hlb7 d07 d17 |-
 clear s5 s6 s7 hl5 hlb h5 d0 d1
 rw [e3]
 refine z0g fun N4 e4=>?_
 clear e3
 walk_at "rd13"
 refine⟨.inl ⟨rfl,_,SqL.of hlb7⟩,_,SqT.of (s27 _ _ (s2 _ _ hr1)),_,z1w,_,rfl,⟨_,SqT.of (s27 _ _ hia)⟩,?_⟩
 refine zkc (fun r=>r.2.1 - 1) (s27 _ _ hia) (dia.kp s27.kp) hrow.len (fun r ra Q' hra q'=>?_) fun p5 h5=>?_
 ·walk_at "rd13"
  exact⟨_,SqT.of hra,_,z1i (j:=1) rfl,_,rfl,q'⟩
 refine⟨p5,rfl,_,.inl ⟨SqL.of z01,fun l6 hl6=>?_⟩⟩
 have s8:=z04 h5 (HO.lst ((rows.map fun r=>r.2.1 - 1).map V.int))
 have s9:=z04 hl6 (HO.tup ((rows.map fun r=>r.2.1 - 1).map V.int))
 have s79:=s8.trans s9
 refine⟨_,s79 _ _ hlb7,(show 3 < sizeLine by decide),?_⟩
 have k9:=Kp.set (ys:=[v0,v1,V.ref l5]++[V.ref l6]) (s79 _ _ hlb7)
 have d3:Dt _ (V.ref l6) (pathD (rows.map fun r=>r.2.1 - 1)):=Dt.kp k9 (.tup z01 (zhe _ _))
 have d09:=(d07.kp s79.kp).kp k9
 have d19:=(d17.kp s79.kp).kp k9
 have d29:=(d2.kp s79.kp).kp k9
 have sH9:Same H _:=z6m (s1.trans (s2.trans (s27.trans s79))) hlbn (o:=HO.lst ([v0,v1,V.ref l5]++[V.ref l6]))
 have dr9:=((dr.kp s2.kp).kp (s27.trans s79).kp).kp k9
 have dw9:=(dw.kp (s27.trans s79).kp).kp k9
 have hlb9:(upd (upd (upd H7 p5 (HO.lst ((rows.map fun r=>r.2.1 - 1).map V.int))) l6 (HO.tup ((rows.map fun r=>r.2.1 - 1).map V.int))) lb (HO.lst ([v0,v1,V.ref l5]++[V.ref l6]))) lb=some (.lst [v0,v1,V.ref l5,V.ref l6]):=z01
 generalize upd (upd (upd H7 p5 (HO.lst ((rows.map fun r=>r.2.1 - 1).map V.int))) l6 (HO.tup ((rows.map fun r=>r.2.1 - 1).map V.int))) lb (HO.lst ([v0,v1,V.ref l5]++[V.ref l6]))=H9 at d3 d09 d19 d29 sH9 dr9 dw9 hlb9 |-
 have tb9:Tb p1 p2 pt qL H9:=⟨.inl (sH9 _ _ hp1),.inl (sH9 _ _ hp2),⟨#[],sH9 _ _ hp3,trivial,fun pos v z=>nomatch z⟩⟩
 have hS9:=sH9.seq hS
 clear s8 s9 s79 k9 d07 d17 d2 hlb7 s27 s24 dia hia dwa hwa dw s2 s1 s3 s4 hl6 h5 hlbn hr1 dri drb dr sH9
 rw [e4]
 refine z0g fun N5 e5=>?_
 clear e4
 walk_at "rd13"
 refine⟨by decide,by decide,?_⟩
 refine zcg (q61 H9 p1 p2 pt qL (.ref a) (.ref r) (.ref wa) (.ref lb)) ⟨⟨_,_,rfl⟩,SameN.refl _,tb9⟩ ?_ ?_
 ·rintro m σ Hc hm ⟨⟨x4,x5,rfl⟩,sN,tb⟩
  refine z0g fun M1 m1=>?_
  walk_at "rd13"
  refine⟨a,ns,920,4,rfl,(by
   rcases hS9 with h | h
   ·rcases h with h | ⟨o,h⟩
    ·exact .inl (.inl (sN _ _ (by intro s z; cases z) h))
    ·exact .inl (.inr ⟨o,sN _ _ (by intro s z; cases z) h⟩)
   ·exact .inr h),by decide,by decide,fun y H2 h0 h1 s2=>?_⟩
  have sN2:=sN.trans (SameN.of s2)
  have tb2:=tb.same s2
  obtain⟨v,w',hat,dv,hbad⟩:=q0n (R:=fun w=>w=ws\/¬ Fits rows w) (d09.kp sN2.kp) (d19.kp sN2.kp) (d29.kp sN2.kp) (d3.kp sN2.kp) (.inr (zy2 hfit)) (zy3 hfit) (zwd (fun r=>by omega) hfit) (zwd (fun r=>by omega) hfit) (j:=(y+(0+(m:Int))) % 4) (by omega) (by omega)
  refine⟨_,rfl,by decide,_,SqL.of (sN2 _ _ (by intro s z; cases z) hlb9),v,hat,?_⟩
  rw [m1]
  clear m1
  walk_at "rd13"
  refine⟨_,⟨pathD w',pathD ws,dv,dw9.kp sN2.kp,((z3r w').mono (m:=4) (by decide)).eq (by decide),((z3r ws).mono (m:=4) (by decide)).eq (by decide),rfl⟩,?_⟩
  rw [show PyData.eqv (pathD w').dat (pathD ws).dat=decide (w'=ws) from zhf w' ws]
  by_cases he:w'=ws
  ·rw [if_neg (by rw [decide_eq_true he]; decide)]
   exact⟨⟨_,_,rfl⟩,sN2,tb2⟩
  rw [if_pos (decide_eq_false he)]
  refine⟨tb2.c,_,.cons rfl (.cons rfl .nil),fun H0 sB T0 E' Q' kE kQ=>⟨_,rfl,_,rfl,fun x dx hx hdx hne=>?_⟩⟩
  have tb0:=tb2.told h13 h23 sB T0
  have sN0:=sN2.trans (tb2.nB sB)
  have s00:Same H0 (upd (upd H0 dx (HO.own x)) x (HO.ins C dx [])):=fun a o e=>by rw [z0a (z0d e hx),z0a (z0d e hdx)]; exact e
  refine⟨x,dx,.ref r,v,rows,_,w',rfl,z01,(dr9.kp sN0.kp).kp s00.kp,(dv.kp (tb2.nB sB).kp).kp s00.kp,hrow,hbad.resolve_left he,tb0.b.kp fun a o _ e=>s00 _ _ e,fun H3 s3 T3=>kE _ _ _ ⟨W,rfl,_,xW,fun H' s'=>⟨true,⟨rfl,(decide_eq_true rfl).symm⟩,?_⟩⟩⟩
  have sB03:SameB p2 H0 H3:=fun a o n e=>s3 a o n (z0d e hx) (s00 _ _ e)
  obtain⟨_,ep2⟩:=tb0.b.tb
  rw [if_neg (by decide)]
  exact⟨⟨_,_,rfl⟩,sN0.trans ((SameN.ofB sB03 ep2).trans (SameN.of s')),(tb0.init h12 h23 sB03 T3).same s'⟩
 ·rintro σ Hc ⟨⟨x4,x5,rfl⟩,sN,tb⟩
  show N5 _ _
  rw [e5]
  clear e5 d3 d09 d19 d29 dw9 dr9 hlb9 tb9
  refine z0g fun N6 e6=>?_
  walk_at "rd13"
  refine⟨_,zwk (by decide),fun v6 H6 s6 d6=>?_⟩
  rw [e6]
  clear e6
  refine z0g fun N7 e7=>?_
  walk_at "rd13"
  refine⟨fun _=>(D.set "b" (.op .add (.nm "a") (.num 3))).enc,Env.fit (vo:=[6]) (vt:=[]) ⟨fun i hi=>?_,fun i hi=>absurd hi (by simp)⟩ (by decide),fun v7 H7 s7 d7=>?_⟩
  ·rw [List.mem_singleton.mp hi]
   refine⟨v6,rfl,?_⟩
   simp only[DX.val,zga] at d6
   simp only[D.enc,T.enc,Wd.str]
   exact d6
  replace d7:Dt H7 v7 (.tup [.tup (smallR.map rowEnc),.tup (encB smallB)]):=by
   simp only[DX.val,zga,D.enc,T.enc,Wd.str] at d7
   simp only[smallR,smallB,rowEnc,encB,D.enc,T.enc,Wd.str,List.map_cons,List.map_nil]
   exact d7
  have tb7:=tb.same (s6.trans s7)
  rw [e7]
  clear e7
  refine z0g fun N8 e8=>?_
  walk_at "rd13"
  refine⟨a,ns,930,5,rfl,(by
   rcases hS9 with h | h
   ·rcases h with h | ⟨o,h⟩
    ·exact .inl (.inl ((s6.trans s7) _ _ (sN _ _ (by intro s z; cases z) h)))
    ·exact .inl (.inr ⟨o,(s6.trans s7) _ _ (sN _ _ (by intro s z; cases z) h)⟩)
   ·exact .inr h),by decide,by decide,fun y H8 h0 h1 s8=>?_⟩
  refine⟨_,rfl,?_⟩
  have tb8:=tb7.same s8
  have d8:=d7.kp s8.kp
  generalize ei:y - 2=i
  have i0 : -2<=i:=by omega
  have i1:i<=2:=by omega
  clear hS9 sN tb7 d7 tb d6 s6 s7 s8 ei h0 h1
  rw [e8]
  clear e8
  refine z0g fun N9 e9=>?_
  walk_at "rd13"
  refine⟨fun _=>.int i,?_,fun wv2 H9' s9 dw2=>fun x dx hx hdx hne=>?_⟩
  ·rw [DX.Fit,FitA,FitA,DX.Fit]
   exact⟨by decide,⟨_,rfl,.int i⟩,trivial⟩
  replace dw2:Dt H9' wv2 (pathD [i]):=by
   simp only[DX.val,zga] at dw2
   exact dw2
  have s00:Same H9' (upd (upd H9' dx (HO.own x)) x (HO.ins C dx [])):=fun a o e=>by rw [z0a (z0d e hx),z0a (z0d e hdx)]; exact e
  have tb9:=tb8.same s9
  have es:=zr4 i0 i1
  refine⟨x,dx,v7,wv2,smallR,smallB,[i],_,rfl,z01,(d8.kp s9.kp).kp s00.kp,dw2.kp s00.kp,zma (i:=i),⟨i0,i1,trivial⟩,zmv (zmw zhu),zqg,by rw [es]; exact(show 6+1 < sizeLine by decide),tb9.b.kp fun a o _ e=>s00 _ _ e,fun l ys H10 sB T2 hx10 hln hl10 dy10=>⟨rfl,?_⟩⟩
  rw [es] at dy10
  have sB2:SameB p2 H9' H10:=fun a o n e=>sB a o n (z0d e hx) (s00 _ _ e)
  obtain⟨_,ep2⟩:=tb9.b.tb
  have sN10:=SameN.ofB sB2 ep2
  have ls:LS p1 p2 pt C x dx l v7 wv2 ys i 0 H10:=⟨tb9.init h12 h23 sB2 T2,hx10,hl10,dy10,(d8.kp s9.kp).kp sN10.kp,dw2.kp sN10.kp⟩
  clear sB T2 hx10 hln hl10 dy10 sB2 ep2 sN10 tb9 s00 es dw2 hx hdx hne s9 tb8 d8
  rw [e9]
  clear e9
  refine z0g fun N10 e10=>?_
  walk_at "rd13"
  refine⟨ls.tb.c,_,.cons rfl .nil,fun H0 sB T0 E' Q' kE kQ=>⟨_,rfl,_,rfl,_,_,(ls.told h13 h23 sB T0).hx,z6i (by decide+kernel),x,dx,l,v7,wv2,rfl,(ls.told h13 h23 sB T0).hx,kE _ _ _ ⟨N,rfl,_,xN,fun H11 s'=>⟨true,⟨rfl,(decide_eq_true rfl).symm⟩,?_⟩⟩⟩⟩
  rw [if_neg (by decide)]
  replace ls:=(ls.told h13 h23 sB T0).same s'
  clear s' kE kQ sB T0
  rw [e10]
  clear e10
  refine z0g fun N11 e11=>?_
  walk_at "rd13"
  refine⟨ls.tb.c,_,.cons rfl .nil,fun H0 sB T0 E' Q' kE kQ=>⟨_,rfl,_,rfl,_,_,(ls.told h13 h23 sB T0).hx,z6i (by decide+kernel),_,zwk (by decide),fun pv Hp sp dp=>?_⟩⟩
  replace ls:=(ls.told h13 h23 sB T0).same sp
  replace dp:Dt Hp pv (pathD [2,0]):=z7b dp (by simp only[DX.val,zga]; rfl)
  refine⟨x,dx,l,v7,wv2,pv,ys,smallQ i,0,[2,0],rfl,ls.hx,ls.hl,ls.dy,dp,q3y,Nat.zero_le _,zmb (by decide),kE _ _ _ ⟨N,rfl,_,xN,fun H12 s'=>⟨true,⟨rfl,(decide_eq_true rfl).symm⟩,?_⟩⟩⟩
  rw [if_neg (by decide)]
  replace ls:=ls.same s'
  clear s' kE kQ sB T0 dp sp
  rw [e11]
  clear e11
  refine z0g fun N12 e12=>?_
  walk_at "rd13"
  refine⟨_,_,ls.hx,z6i (by decide+kernel),_,zwk (by decide),fun pv Hp sp dp=>?_⟩
  replace ls:=ls.same sp
  replace dp:Dt Hp pv (pathD [0,0]):=z7b dp (by simp only[DX.val,zga]; rfl)
  refine⟨x,dx,l,v7,wv2,pv,ys,smallQ i,0,2,[0,0],i+3,rfl,ls.hx,ls.hl,ls.dy,dp,q3y,by decide,rfl,zqf (by decide),_,rfl,?_⟩
  rw [if_neg (by rw [decide_eq_true rfl]; decide)]
  replace ls:LS p1 p2 pt C x dx l v7 wv2 ys i 3 (upd Hp x (HO.ins C dx (trF v7 wv2 l (((2:Nat):Int)+1)))):=ls.step 3
  generalize upd Hp x (HO.ins C dx (trF v7 wv2 l (((2:Nat):Int)+1)))=H13 at ls |-
  clear dp sp
  refine⟨ls.tb.c,_,.cons rfl .nil,fun H0 sB T0 E' Q' kE kQ=>⟨_,rfl,_,rfl,_,_,(ls.told h13 h23 sB T0).hx,z6i (by decide+kernel),_,zwk (by decide),fun pv Hp sp dp=>?_⟩⟩
  replace ls:=(ls.told h13 h23 sB T0).same sp
  replace dp:Dt Hp pv (pathD [0,0,0]):=z7b dp (by simp only[DX.val,zga]; rfl)
  refine⟨x,dx,l,v7,wv2,pv,ys,smallQ i,3,[0,0,0],rfl,ls.hx,ls.hl,ls.dy,dp,q3y,(by decide:3<=6),zmb (by decide),kE _ _ _ ⟨N,rfl,_,xN,fun H14 s'=>⟨true,⟨rfl,(decide_eq_true rfl).symm⟩,?_⟩⟩⟩
  rw [if_neg (by decide)]
  replace ls:=ls.same s'
  clear s' kE kQ sB T0 dp sp
  refine⟨_,_,ls.hx,z6i (by decide+kernel),x,dx,l,v7,wv2,ys,3,rfl,ls.hx,ls.hl,fun pp hpp=>⟨_,zwk (by decide),fun pv Hp sp dp=>?_⟩⟩
  have s15:=(z04 hpp (HO.tup [V.int 3,V.int (ys.length - 3)])).trans sp
  have dpp:Dt Hp (.ref pp) (pathD [3,3]):=.tup (sp _ _ z01) (.cons (.int 3) (.cons (by rw [ls.len]; exact .int 3) .nil))
  replace ls:=ls.same s15
  replace dp:Dt Hp pv (pathD [3,3]):=z7b dp (by simp only[DX.val,zga]; rfl)
  refine⟨_,⟨_,_,dpp,dp,((z3r _).mono (m:=4) (by decide)).eq (by decide),((z3r _).mono (m:=4) (by decide)).eq (by decide),rfl⟩,?_⟩
  rw [zf7 ((z3r _).2.1),if_neg (by decide)]
  clear dp dpp s15 sp hpp
  rw [e12]
  clear e12
  refine z0g fun N13 e13=>?_
  walk_at "rd13"
  refine⟨_,_,ls.hx,z6i (by decide+kernel),_,zwk (by decide),fun pv Hp sp dp=>?_⟩
  replace ls:=ls.same sp
  replace dp:Dt Hp pv (pathD [1,0]):=z7b dp (by simp only[DX.val,zga]; rfl)
  refine⟨x,dx,l,v7,wv2,pv,ys,smallQ i,3,5,[1,0],(9:Int).fdiv (i+3),rfl,ls.hx,ls.hl,ls.dy,dp,q3y,by decide,rfl,zqf (by decide),?_⟩
  refine⟨cdv i0 i1,_,rfl,?_⟩
  rw [if_neg (by rw [decide_eq_true rfl]; decide)]
  replace ls:LS p1 p2 pt C x dx l v7 wv2 ys i 6 (upd Hp x (HO.ins C dx (trF v7 wv2 l (((5:Nat):Int)+1)))):=ls.step 6
  generalize upd Hp x (HO.ins C dx (trF v7 wv2 l (((5:Nat):Int)+1)))=H16 at ls |-
  clear dp sp
  refine⟨ls.tb.c,_,.cons rfl .nil,fun H0 sB T0 E' Q' kE kQ=>⟨_,rfl,_,rfl,_,_,(ls.told h13 h23 sB T0).hx,z6i (by decide+kernel),?_⟩⟩
  replace ls:=ls.told h13 h23 sB T0
  refine⟨x,dx,l,v7,wv2,ys,rfl,by rw [ls.len]; exact ls.hx,ls.hl,kE _ _ _ ⟨N,rfl,_,xN,fun H17 s'=>⟨true,⟨rfl,(decide_eq_true rfl).symm⟩,?_⟩⟩⟩
  rw [if_neg (by decide)]
  replace ls:=ls.same s'
  clear s' kE kQ sB T0
  refine⟨_,_,ls.hx,z6i (by decide+kernel),x,dx,l,v7,wv2,ys,6,rfl,ls.hx,ls.hl,fun pp hpp=>⟨_,zwk (by decide),fun pv Hp sp dp=>?_⟩⟩
  have s15:=(z04 hpp (HO.tup [V.int 6,V.int (ys.length - 6)])).trans sp
  have dpp:Dt Hp (.ref pp) (pathD [6,0]):=.tup (sp _ _ z01) (.cons (.int 6) (.cons (by rw [ls.len]; exact .int 0) .nil))
  replace ls:=ls.same s15
  replace dp:Dt Hp pv (pathD [6,0]):=z7b dp (by simp only[DX.val,zga]; rfl)
  refine⟨_,⟨_,_,dpp,dp,((z3r _).mono (m:=4) (by decide)).eq (by decide),((z3r _).mono (m:=4) (by decide)).eq (by decide),rfl⟩,?_⟩
  rw [zf7 ((z3r _).2.1),if_neg (by decide)]
  clear dp dpp s15 sp hpp
  rw [e13]
  clear e13
  refine z0g fun N14 e14=>?_
  walk_at "rd13"
  obtain⟨y6,hy6⟩:∃y6,ys[5]?=some y6:=⟨_,List.getElem?_eq_getElem (by rw [ls.len]; decide)⟩
  refine⟨_,_,ls.hx,z6i (by decide+kernel),x,dx,l,v7,wv2,ys,5,y6,rfl,ls.hx,ls.hl,hy6,?_⟩
  obtain⟨rr,hrr,drr⟩:=zb7 ls.dy hy6
  cases hrr
  have lsx:=ls.hx
  replace ls:LS p1 p2 pt C x dx l v7 wv2 ys i 5 (upd Hp x (HO.ins C dx (trF v7 wv2 l ((5:Nat):Int)))):=ls.step 5
  replace drr:=drr.kp (zgg (o:=.ins C dx (trF v7 wv2 l ((5:Nat):Int))) lsx)
  generalize upd Hp x (HO.ins C dx (trF v7 wv2 l ((5:Nat):Int)))=H18 at ls drr |-
  refine⟨_,zwk (by decide),fun pv Hp sp dp=>⟨cdv i0 i1,zl 2 (by decide),fun pp hpp=>?_⟩⟩
  replace dp:Dt Hp pv (pathD [1,0]):=z7b dp (by simp only[DX.val,zga]; rfl)
  have s19:=z04 hpp (HO.tup [pv,V.int ((9:Int).fdiv (i+3))])
  have dpp:Dt _ (.ref pp) (rowI ([1,0],(9:Int).fdiv (i+3))):=.tup z01 (.cons (dp.kp s19.kp) (.cons (.int _) .nil))
  replace ls:=ls.same (sp.trans s19)
  replace drr:=drr.kp (sp.trans s19).kp
  generalize upd Hp pp (HO.tup [pv,V.int ((9:Int).fdiv (i+3))])=H20 at ls drr dpp |-
  refine⟨_,⟨_,_,drr,dpp,((zir _).mono (m:=4) (by decide)).eq (by decide),((zir _).mono (m:=4) (by decide)).eq (by decide),rfl⟩,?_⟩
  rw [zf7 ((zir _).2.1),if_neg (by decide)]
  clear dpp drr s19 hpp dp sp lsx hy6
  refine⟨_,_,ls.hx,z6i (by decide+kernel),_,zwk (by decide),fun pv Hp sp dp=>?_⟩
  replace ls:=ls.same sp
  replace dp:Dt Hp pv (pathD [1,0]):=z7b dp (by simp only[DX.val,zga]; rfl)
  refine⟨x,dx,l,v7,wv2,pv,ys,smallQ i,5,[1,0],rfl,ls.hx,ls.hl,ls.dy,dp,zkm i,(by decide:6<=1000),(by decide:5<=6),fun H21 s21=>?_⟩
  show(if decide (V.non=V.non)=false then _ else _)
  rw [if_neg (by rw [decide_eq_true rfl]; decide)]
  replace ls:=ls.same s21
  clear dp sp s21
  refine⟨_,_,ls.hx,z6i (by decide+kernel),_,zwk (by decide),fun pv Hp sp dp=>?_⟩
  replace ls:=ls.same sp
  replace dp:Dt Hp pv (pathD [0,0,0]):=z7b dp (by simp only[DX.val,zga]; rfl)
  refine⟨x,dx,l,v7,wv2,pv,ys,smallQ i,5,[0,0,0],rfl,ls.hx,ls.hl,ls.dy,dp,zkm i,(by decide:6<=1000),(by decide:5<=6),fun H22 s22=>⟨i,rfl,?_⟩⟩
  rw [if_neg (by rw [decide_eq_true rfl]; decide)]
  replace ls:=ls.same s22
  clear dp sp s22
  rw [e14]
  clear e14
  refine z0g fun N15 e15=>?_
  walk_at "rd13"
  refine⟨_,_,ls.hx,z6i (by decide+kernel),x,dx,l,v7,wv2,_,smallB,ys,smallQ i,5,rfl,ls.hx,ls.hl,ls.dg,zhu,ls.dy,zkm i,(by decide:6<=1000),(by decide:5<=6),fun ru us H23 s23 hrun hru dus=>?_⟩
  rw [zm9] at dus
  replace ls:=ls.same s23
  refine⟨fun _=>.non,Env.fitA (vo:=[]) (vt:=[]) ⟨fun i h=>absurd h (by simp),fun i h=>absurd h (by simp)⟩ (by decide),fun vs H24 s24 dvs=>?_⟩
  replace dvs:DtA H24 vs (List.map pathD [[1,0]]):=by
   simp only[zga,DX.val] at dvs
   exact dvs
  refine⟨by rw [dvs.length]; exact zl 1 (by decide),fun pp hpp=>?_⟩
  have s25:=z04 hpp (HO.lst vs)
  refine⟨_,⟨ru,pp,us,vs,_,_,rfl,rfl,SqL.of ((s24.trans s25) _ _ hru),SqL.of z01,dus.kp (s24.trans s25).kp,dvs.kp s25.kp,(za2 _).1,(za2 _).1,(za2 _).2.1,(za2 _).2.1,rfl⟩,?_⟩
  rw [zf7 (za2 _).2.2,if_neg (by decide)]
  replace ls:=ls.same (s24.trans s25)
  generalize upd H24 pp (HO.lst vs)=H26 at ls |-
  clear dus dvs s24 s25 hpp hru hrun s23
  rw [e15]
  clear e15
  walk_at "rd13"
  obtain⟨_,ep1⟩:=ls.tb.a.tb
  refine⟨_,_,ls.hx,z6i (by decide+kernel),x,dx,l,v7,wv2,_,rfl,ls.hx,v7,wv2,smallR,smallB,[i],_,rfl,ls.dg,ls.dw,zma (i:=i),⟨i0,i1,trivial⟩,zmv (zmw zhu),zqg,ls.tb.a,fun ro H27 s27 T27 ho=>?_⟩
  have dro:=ztv i0 i1 ho
  refine⟨fun _=>.int i,?_,fun v1 H28 s28 dv1=>⟨zl 2 (by decide),fun q1 hq1=>⟨cdv i0 i1,zl 2 (by decide),fun q2 hq2=>⟨zl 3 (by decide),fun q3 hq3=>⟨zl 2 (by decide),fun q4 hq4=>?_⟩⟩⟩⟩⟩
  ·rw [DX.Fit,FitA,FitA,FitA,DX.Fit,DX.Fit]
   exact⟨by decide,trivial,⟨_,rfl,.int i⟩,trivial⟩
  replace dv1:Dt H28 v1 (zsh ("a",i)):=by
   simp only[DX.val,zga] at dv1
   exact dv1
  have t1:=z04 hq1 (HO.tup [V.str "b",V.int (i+3)])
  have t2:=z04 hq2 (HO.tup [V.str "c",V.int ((9:Int).fdiv (i+3))])
  have t3:=z04 hq3 (HO.tup [v1,V.ref q1,V.ref q2])
  have t4:=z04 hq4 (HO.tup [V.str "told",V.ref q3])
  have t34:=t3.trans t4
  have t24:=t2.trans t34
  have t14:=t1.trans t24
  have dall:Dt _ (.ref q4) (.tup [.str "told",.tup ((zhv i).map zsh)]):=.tup z01 (.cons (.str _) (.cons (.tup (t4 _ _ z01) (.cons (dv1.kp t14.kp) (.cons (.tup (t24 _ _ z01) (.cons (.str _) (.cons (.int _) .nil))) (.cons (.tup (t34 _ _ z01) (.cons (.str _) (.cons (.int _) .nil))) .nil)))) .nil))
  refine⟨_,⟨_,_,dro.kp (s28.trans t14).kp,dall,(zfu i).eq (by decide),(zfu i).eq (by decide),rfl⟩,?_⟩
  rw [zf7 (zfu i).2.1]
  exact q _
end
theorem q46{K:PySem.W.Frag}{a:Addr}{o:Option Addr}{its:Array Value}{n:Nat}{l:Array (Option Value)}{xs:List V} (h:K.lookup a=some ⟨.type "tuple",o,.seq its n,l⟩) (r:Vals xs its.toList) (hz:its.size<=sizeLine:=by decide):∀H,SqT K H a xs:=fun H=>.inr ⟨_,_,_,h,rfl,rfl,hz,r⟩
theorem q3s{l:PySem.W.OpenLaw}{w:World}{K:PySem.W.Frag}{h:Heap}{mg:Str->Option Value}{fa f0 f1 f2 f3 f4 f5 f6 f7 f8 f9 f10 f11 f12 f13 f14 f15 f16 f17 f18 f19 f20 f21 f22 f23 f24 f25 f26 f27 f28 f29 f30:Addr}(X:K.In h)(G:h.Ns mainGlobals mg) (hfa:mg "law" = some (.ref fa))
  {od0 an0 od1 an1 od2 an2 od3 an3 od4 an4 od5 an5 od6 an6 od7 an7 od8 an8 od9 an9 od10 an10 od11 an11 od12 an12 od13 an13 od14 an14 od15 an15 od16 an16 od17 an17 od18 an18 od19 an19 od20 an20 od21 an21 od22 an22 od23 an23 od24 an24 od25 an25 od26 an26 od27 an27 od28 an28 od29 an29 od30 an30:Option Addr} {sl0 sl1 sl2 sl3 sl4 sl5 sl6 sl7 sl8 sl9 sl10 sl11 sl12 sl13 sl14 sl15 sl16 sl17 sl18 sl19 sl20 sl21 sl22 sl23 sl24 sl25 sl26 sl27 sl28 sl29 sl30:Array (Option Value)} {oc0 kV0 dc0 pm0 ct0 cd0 oc1 kV1 dc1 pm1 ct1 cd1 oc2 kV2 dc2 pm2 ct2 cd2 oc3 kV3 dc3 pm3 ct3 cd3 oc4 kV4 dc4 pm4 ct4 cd4 oc5 kV5 dc5 pm5 ct5 cd5 oc6 kV6 dc6 pm6 ct6 cd6 oc7 kV7 dc7 pm7 ct7 cd7 oc8 kV8 dc8 pm8 ct8 cd8 oc9 kV9 dc9 pm9 ct9 oc10 kV10 dc10 pm10 ct10 oc11 kV11 dc11 pm11 ct11 cd11 oc12 kV12 dc12 pm12 ct12 cd12 oc13 kV13 dc13 pm13 ct13 cd13 oc14 kV14 dc14 pm14 ct14 cd14 oc15 kV15 dc15 pm15 ct15 cd15 oc16 kV16 dc16 pm16 ct16 cd16 oc17 kV17 dc17 pm17 ct17 cd17 oc18 kV18 dc18 pm18 ct18 cd18 oc19 kV19 dc19 pm19 ct19 cd19 oc20 kV20 dc20 pm20 ct20 cd20 oc21 kV21 dc21 pm21 ct21 cd21 oc22 kV22 dc22 pm22 ct22 cd22 oc23 kV23 dc23 pm23 ct23 cd23 oc24 kV24 dc24 pm24 ct24 cd24 oc25 kV25 dc25 pm25 ct25 cd25 oc26 kV26 dc26 pm26 ct26 cd26 oc27 kV27 dc27 pm27 ct27 cd27 oc28 kV28 dc28 pm28 ct28 cd28 oc29 kV29 dc29 pm29 ct29 cd29 oc30 kV30 dc30 pm30 ct30:Value}
  {e9 e10 e30:Addr} {t9 t10 t30:Addr}
  {ai:Addr} {oi:Option Addr} {ni:Nat} {li:Array (Option Value)} {ti0 ti1:Tok} {a_RoomError a_NoWorths a_BadPaper a_BadPlan a_NoProgram a_NoText a_NoStep a_Trace:Addr}
  (a0:PySem.W.nsIn K mainGlobals "spots" = some (some (.ref f0))) (l0:K.lookup f0=some ⟨oc0,od0,.func (PySem.W.fnOf "spots" "spots" (defArgs z56) (defBody z56) (defScope z56) .none kV0 dc0 pm0 an0 cd0 ct0),sl0⟩) (c0:PySem.W.codeIn K cd0 "spots" = true) (k0:PySem.W.keepIn K (.ref f0)=true)
  (a1:PySem.W.nsIn K mainGlobals "is_whole" = some (some (.ref f1))) (l1:K.lookup f1=some ⟨oc1,od1,.func (PySem.W.fnOf "is_whole" "is_whole" (defArgs z45) (defBody z45) (defScope z45) .none kV1 dc1 pm1 an1 cd1 ct1),sl1⟩) (c1:PySem.W.codeIn K cd1 "is_whole" = true) (k1:PySem.W.keepIn K (.ref f1)=true)
  (a2:PySem.W.nsIn K mainGlobals "is_whole_from" = some (some (.ref f2))) (l2:K.lookup f2=some ⟨oc2,od2,.func (PySem.W.fnOf "is_whole_from" "is_whole_from" (defArgs z1g) (defBody z1g) (defScope z1g) .none kV2 dc2 pm2 an2 cd2 ct2),sl2⟩) (c2:PySem.W.codeIn K cd2 "is_whole_from" = true) (k2:PySem.W.keepIn K (.ref f2)=true)
  (a3:PySem.W.nsIn K mainGlobals "is_tuple_of" = some (some (.ref f3))) (l3:K.lookup f3=some ⟨oc3,od3,.func (PySem.W.fnOf "is_tuple_of" "is_tuple_of" (defArgs z1v) (defBody z1v) (defScope z1v) .none kV3 dc3 pm3 an3 cd3 ct3),sl3⟩) (c3:PySem.W.codeIn K cd3 "is_tuple_of" = true) (k3:PySem.W.keepIn K (.ref f3)=true)
  (a4:PySem.W.nsIn K mainGlobals "term_of" = some (some (.ref f4))) (l4:K.lookup f4=some ⟨oc4,od4,.func (PySem.W.fnOf "term_of" "term_of" (defArgs z6r) (defBody z6r) (defScope z6r) .none kV4 dc4 pm4 an4 cd4 ct4),sl4⟩) (c4:PySem.W.codeIn K cd4 "term_of" = true) (k4:PySem.W.keepIn K (.ref f4)=true)
  (a5:PySem.W.nsIn K mainGlobals "blocks_of" = some (some (.ref f5))) (l5:K.lookup f5=some ⟨oc5,od5,.func (PySem.W.fnOf "blocks_of" "blocks_of" (defArgs z58) (defBody z58) (defScope z58) .none kV5 dc5 pm5 an5 cd5 ct5),sl5⟩) (c5:PySem.W.codeIn K cd5 "blocks_of" = true) (k5:PySem.W.keepIn K (.ref f5)=true)
  (a6:PySem.W.nsIn K mainGlobals "all_deeds" = some (some (.ref f6))) (l6:K.lookup f6=some ⟨oc6,od6,.func (PySem.W.fnOf "all_deeds" "all_deeds" (defArgs z4m) (defBody z4m) (defScope z4m) .none kV6 dc6 pm6 an6 cd6 ct6),sl6⟩) (c6:PySem.W.codeIn K cd6 "all_deeds" = true) (k6:PySem.W.keepIn K (.ref f6)=true)
  (a7:PySem.W.nsIn K mainGlobals "deeds_of_block" = some (some (.ref f7))) (l7:K.lookup f7=some ⟨oc7,od7,.func (PySem.W.fnOf "deeds_of_block" "deeds_of_block" (defArgs z0b) (defBody z0b) (defScope z0b) .none kV7 dc7 pm7 an7 cd7 ct7),sl7⟩) (c7:PySem.W.codeIn K cd7 "deeds_of_block" = true) (k7:PySem.W.keepIn K (.ref f7)=true)
  (a8:PySem.W.nsIn K mainGlobals "spots_of_term" = some (some (.ref f8))) (l8:K.lookup f8=some ⟨oc8,od8,.func (PySem.W.fnOf "spots_of_term" "spots_of_term" (defArgs z1f) (defBody z1f) (defScope z1f) .none kV8 dc8 pm8 an8 cd8 ct8),sl8⟩) (c8:PySem.W.codeIn K cd8 "spots_of_term" = true) (k8:PySem.W.keepIn K (.ref f8)=true)
  (a9:PySem.W.nsIn K mainGlobals "run" = some (some (.ref f9))) (l9:K.lookup f9=some ⟨oc9,od9,.func (PySem.W.fnOf "run" "run" (defArgs zfw) (defBody zfw) (defScope zfw) .none kV9 dc9 pm9 an9 (.ref e9) ct9),sl9⟩) (c9:PySem.W.codeIn K (.ref e9) "run" = true) (k9:PySem.W.keepIn K (.ref f9)=true)
  (a10:PySem.W.nsIn K mainGlobals "traced" = some (some (.ref f10))) (l10:K.lookup f10=some ⟨oc10,od10,.func (PySem.W.fnOf "traced" "traced" (defArgs z33) (defBody z33) (defScope z33) .none kV10 dc10 pm10 an10 (.ref e10) ct10),sl10⟩) (c10:PySem.W.codeIn K (.ref e10) "traced" = true) (k10:PySem.W.keepIn K (.ref f10)=true)
  (a11:PySem.W.nsIn K mainGlobals "run_by" = some (some (.ref f11))) (l11:K.lookup f11=some ⟨oc11,od11,.func (PySem.W.fnOf "run_by" "run_by" (defArgs z34) (defBody z34) (defScope z34) .none kV11 dc11 pm11 an11 cd11 ct11),sl11⟩) (c11:PySem.W.codeIn K cd11 "run_by" = true) (k11:PySem.W.keepIn K (.ref f11)=true)
  (a12:PySem.W.nsIn K mainGlobals "settled" = some (some (.ref f12))) (l12:K.lookup f12=some ⟨oc12,od12,.func (PySem.W.fnOf "settled" "settled" (defArgs z57) (defBody z57) (defScope z57) .none kV12 dc12 pm12 an12 cd12 ct12),sl12⟩) (c12:PySem.W.codeIn K cd12 "settled" = true) (k12:PySem.W.keepIn K (.ref f12)=true)
  (a13:PySem.W.nsIn K mainGlobals "names_at_first" = some (some (.ref f13))) (l13:K.lookup f13=some ⟨oc13,od13,.func (PySem.W.fnOf "names_at_first" "names_at_first" (defArgs z0e) (defBody z0e) (defScope z0e) .none kV13 dc13 pm13 an13 cd13 ct13),sl13⟩) (c13:PySem.W.codeIn K cd13 "names_at_first" = true) (k13:PySem.W.keepIn K (.ref f13)=true)
  (a14:PySem.W.nsIn K mainGlobals "do_block" = some (some (.ref f14))) (l14:K.lookup f14=some ⟨oc14,od14,.func (PySem.W.fnOf "do_block" "do_block" (defArgs z1a) (defBody z1a) (defScope z1a) .none kV14 dc14 pm14 an14 cd14 ct14),sl14⟩) (c14:PySem.W.codeIn K cd14 "do_block" = true) (k14:PySem.W.keepIn K (.ref f14)=true)
  (a15:PySem.W.nsIn K mainGlobals "do_deed" = some (some (.ref f15))) (l15:K.lookup f15=some ⟨oc15,od15,.func (PySem.W.fnOf "do_deed" "do_deed" (defArgs z3f) (defBody z3f) (defScope z3f) .none kV15 dc15 pm15 an15 cd15 ct15),sl15⟩) (c15:PySem.W.codeIn K cd15 "do_deed" = true) (k15:PySem.W.keepIn K (.ref f15)=true)
  (a16:PySem.W.nsIn K mainGlobals "do_set" = some (some (.ref f16))) (l16:K.lookup f16=some ⟨oc16,od16,.func (PySem.W.fnOf "do_set" "do_set" (defArgs z4l) (defBody z4l) (defScope z4l) .none kV16 dc16 pm16 an16 cd16 ct16),sl16⟩) (c16:PySem.W.codeIn K cd16 "do_set" = true) (k16:PySem.W.keepIn K (.ref f16)=true)
  (a17:PySem.W.nsIn K mainGlobals "do_if" = some (some (.ref f17))) (l17:K.lookup f17=some ⟨oc17,od17,.func (PySem.W.fnOf "do_if" "do_if" (defArgs z5h) (defBody z5h) (defScope z5h) .none kV17 dc17 pm17 an17 cd17 ct17),sl17⟩) (c17:PySem.W.codeIn K cd17 "do_if" = true) (k17:PySem.W.keepIn K (.ref f17)=true)
  (a18:PySem.W.nsIn K mainGlobals "do_while" = some (some (.ref f18))) (l18:K.lookup f18=some ⟨oc18,od18,.func (PySem.W.fnOf "do_while" "do_while" (defArgs z19) (defBody z19) (defScope z19) .none kV18 dc18 pm18 an18 cd18 ct18),sl18⟩) (c18:PySem.W.codeIn K cd18 "do_while" = true) (k18:PySem.W.keepIn K (.ref f18)=true)
  (a19:PySem.W.nsIn K mainGlobals "reckon" = some (some (.ref f19))) (l19:K.lookup f19=some ⟨oc19,od19,.func (PySem.W.fnOf "reckon" "reckon" (defArgs z3k) (defBody z3k) (defScope z3k) .none kV19 dc19 pm19 an19 cd19 ct19),sl19⟩) (c19:PySem.W.codeIn K cd19 "reckon" = true) (k19:PySem.W.keepIn K (.ref f19)=true)
  (a20:PySem.W.nsIn K mainGlobals "worth_of" = some (some (.ref f20))) (l20:K.lookup f20=some ⟨oc20,od20,.func (PySem.W.fnOf "worth_of" "worth_of" (defArgs z3m) (defBody z3m) (defScope z3m) .none kV20 dc20 pm20 an20 cd20 ct20),sl20⟩) (c20:PySem.W.codeIn K cd20 "worth_of" = true) (k20:PySem.W.keepIn K (.ref f20)=true)
  (a21:PySem.W.nsIn K mainGlobals "_law_cell" = some (some (.ref f21))) (l21:K.lookup f21=some ⟨oc21,od21,.func (PySem.W.fnOf "_law_cell" "_law_cell" (defArgs z4x) (defBody z4x) (defScope z4x) .none kV21 dc21 pm21 an21 cd21 ct21),sl21⟩) (c21:PySem.W.codeIn K cd21 "_law_cell" = true) (k21:PySem.W.keepIn K (.ref f21)=true)
  (a22:PySem.W.nsIn K mainGlobals "_law_pick" = some (some (.ref f22))) (l22:K.lookup f22=some ⟨oc22,od22,.func (PySem.W.fnOf "_law_pick" "_law_pick" (defArgs z3b) (defBody z3b) (defScope z3b) .none kV22 dc22 pm22 an22 cd22 ct22),sl22⟩) (c22:PySem.W.codeIn K cd22 "_law_pick" = true) (k22:PySem.W.keepIn K (.ref f22)=true)
  (a23:PySem.W.nsIn K mainGlobals "_law_sum" = some (some (.ref f23))) (l23:K.lookup f23=some ⟨oc23,od23,.func (PySem.W.fnOf "_law_sum" "_law_sum" (defArgs z1t) (defBody z1t) (defScope z1t) .none kV23 dc23 pm23 an23 cd23 ct23),sl23⟩) (c23:PySem.W.codeIn K cd23 "_law_sum" = true) (k23:PySem.W.keepIn K (.ref f23)=true)
  (a24:PySem.W.nsIn K mainGlobals "_law_counted" = some (some (.ref f24))) (l24:K.lookup f24=some ⟨oc24,od24,.func (PySem.W.fnOf "_law_counted" "_law_counted" (defArgs z0j) (defBody z0j) (defScope z0j) .none kV24 dc24 pm24 an24 cd24 ct24),sl24⟩) (c24:PySem.W.codeIn K cd24 "_law_counted" = true) (k24:PySem.W.keepIn K (.ref f24)=true)
  (a25:PySem.W.nsIn K mainGlobals "_law_block" = some (some (.ref f25))) (l25:K.lookup f25=some ⟨oc25,od25,.func (PySem.W.fnOf "_law_block" "_law_block" (defArgs z0c) (defBody z0c) (defScope z0c) .none kV25 dc25 pm25 an25 cd25 ct25),sl25⟩) (c25:PySem.W.codeIn K cd25 "_law_block" = true) (k25:PySem.W.keepIn K (.ref f25)=true)
  (a26:PySem.W.nsIn K mainGlobals "_law_program" = some (some (.ref f26))) (l26:K.lookup f26=some ⟨oc26,od26,.func (PySem.W.fnOf "_law_program" "_law_program" (defArgs z0q) (defBody z0q) (defScope z0q) .none kV26 dc26 pm26 an26 cd26 ct26),sl26⟩) (c26:PySem.W.codeIn K cd26 "_law_program" = true) (k26:PySem.W.keepIn K (.ref f26)=true)
  (a27:PySem.W.nsIn K mainGlobals "_law_worths" = some (some (.ref f27))) (l27:K.lookup f27=some ⟨oc27,od27,.func (PySem.W.fnOf "_law_worths" "_law_worths" (defArgs z35) (defBody z35) (defScope z35) .none kV27 dc27 pm27 an27 cd27 ct27),sl27⟩) (c27:PySem.W.codeIn K cd27 "_law_worths" = true) (k27:PySem.W.keepIn K (.ref f27)=true)
  (a28:PySem.W.nsIn K mainGlobals "_law_class" = some (some (.ref f28))) (l28:K.lookup f28=some ⟨oc28,od28,.func (PySem.W.fnOf "_law_class" "_law_class" (defArgs z16) (defBody z16) (defScope z16) .none kV28 dc28 pm28 an28 cd28 ct28),sl28⟩) (c28:PySem.W.codeIn K cd28 "_law_class" = true) (k28:PySem.W.keepIn K (.ref f28)=true)
  (a29:PySem.W.nsIn K mainGlobals "_law_told" = some (some (.ref f29))) (l29:K.lookup f29=some ⟨oc29,od29,.func (PySem.W.fnOf "_law_told" "_law_told" (defArgs z44) (defBody z44) (defScope z44) .none kV29 dc29 pm29 an29 cd29 ct29),sl29⟩) (c29:PySem.W.codeIn K cd29 "_law_told" = true) (k29:PySem.W.keepIn K (.ref f29)=true)
  (a30:PySem.W.nsIn K mainGlobals "law" = some (some (.ref f30))) (l30:K.lookup f30=some ⟨oc30,od30,.func (PySem.W.fnOf "law" "law" (defArgs z4k) (defBody z4k) (defScope z4k) .none kV30 dc30 pm30 an30 (.ref e30) ct30),sl30⟩) (c30:PySem.W.codeIn K (.ref e30) "law" = true) (k30:PySem.W.keepIn K (.ref f30)=true)
  (x_Trace:PySem.W.nsIn K mainGlobals "Trace" = some (some (.ref a_Trace)))
  {fm_Trace_init:Addr} {od_Trace_init an_Trace_init:Option Addr} {sl_Trace_init:Array (Option Value)} {oc_Trace_init kV_Trace_init dc_Trace_init pm_Trace_init cd_Trace_init ct_Trace_init:Value} (ma_Trace_init:PySem.W.findIn K (.ref a_Trace) "__init__" = some (some (.ref fm_Trace_init))) (ml_Trace_init:K.lookup fm_Trace_init=some ⟨oc_Trace_init,od_Trace_init,.func (PySem.W.fnOf "__init__" "Trace.__init__" (defArgs z2o) (defBody z2o) (defScope z2o) .none kV_Trace_init dc_Trace_init pm_Trace_init an_Trace_init cd_Trace_init ct_Trace_init),sl_Trace_init⟩) (mc_Trace_init:PySem.W.codeIn K cd_Trace_init "Trace.__init__" = true) (mf_Trace_init:PySem.W.isFn K (.ref fm_Trace_init)=true) (mk_Trace_init:PySem.W.keepIn K (.ref fm_Trace_init)=true)
  {fm_Trace_go:Addr} {od_Trace_go an_Trace_go:Option Addr} {sl_Trace_go:Array (Option Value)} {oc_Trace_go kV_Trace_go dc_Trace_go pm_Trace_go cd_Trace_go ct_Trace_go:Value} (ma_Trace_go:PySem.W.findIn K (.ref a_Trace) "go" = some (some (.ref fm_Trace_go))) (ml_Trace_go:K.lookup fm_Trace_go=some ⟨oc_Trace_go,od_Trace_go,.func (PySem.W.fnOf "go" "Trace.go" (defArgs z5c) (defBody z5c) (defScope z5c) .none kV_Trace_go dc_Trace_go pm_Trace_go an_Trace_go cd_Trace_go ct_Trace_go),sl_Trace_go⟩) (mc_Trace_go:PySem.W.codeIn K cd_Trace_go "Trace.go" = true) (mf_Trace_go:PySem.W.isFn K (.ref fm_Trace_go)=true) (mk_Trace_go:PySem.W.keepIn K (.ref fm_Trace_go)=true)
  {fm_Trace_back:Addr} {od_Trace_back an_Trace_back:Option Addr} {sl_Trace_back:Array (Option Value)} {oc_Trace_back kV_Trace_back dc_Trace_back pm_Trace_back cd_Trace_back ct_Trace_back:Value} (ma_Trace_back:PySem.W.findIn K (.ref a_Trace) "back" = some (some (.ref fm_Trace_back))) (ml_Trace_back:K.lookup fm_Trace_back=some ⟨oc_Trace_back,od_Trace_back,.func (PySem.W.fnOf "back" "Trace.back" (defArgs z3q) (defBody z3q) (defScope z3q) .none kV_Trace_back dc_Trace_back pm_Trace_back an_Trace_back cd_Trace_back ct_Trace_back),sl_Trace_back⟩) (mc_Trace_back:PySem.W.codeIn K cd_Trace_back "Trace.back" = true) (mf_Trace_back:PySem.W.isFn K (.ref fm_Trace_back)=true) (mk_Trace_back:PySem.W.keepIn K (.ref fm_Trace_back)=true)
  {fm_Trace_to:Addr} {od_Trace_to an_Trace_to:Option Addr} {sl_Trace_to:Array (Option Value)} {oc_Trace_to kV_Trace_to dc_Trace_to pm_Trace_to cd_Trace_to ct_Trace_to:Value} (ma_Trace_to:PySem.W.findIn K (.ref a_Trace) "to" = some (some (.ref fm_Trace_to))) (ml_Trace_to:K.lookup fm_Trace_to=some ⟨oc_Trace_to,od_Trace_to,.func (PySem.W.fnOf "to" "Trace.to" (defArgs z2t) (defBody z2t) (defScope z2t) .none kV_Trace_to dc_Trace_to pm_Trace_to an_Trace_to cd_Trace_to ct_Trace_to),sl_Trace_to⟩) (mc_Trace_to:PySem.W.codeIn K cd_Trace_to "Trace.to" = true) (mf_Trace_to:PySem.W.isFn K (.ref fm_Trace_to)=true) (mk_Trace_to:PySem.W.keepIn K (.ref fm_Trace_to)=true)
  {fm_Trace_passed:Addr} {od_Trace_passed an_Trace_passed:Option Addr} {sl_Trace_passed:Array (Option Value)} {oc_Trace_passed kV_Trace_passed dc_Trace_passed pm_Trace_passed cd_Trace_passed ct_Trace_passed:Value} (ma_Trace_passed:PySem.W.findIn K (.ref a_Trace) "passed" = some (some (.ref fm_Trace_passed))) (ml_Trace_passed:K.lookup fm_Trace_passed=some ⟨oc_Trace_passed,od_Trace_passed,.func (PySem.W.fnOf "passed" "Trace.passed" (defArgs z36) (defBody z36) (defScope z36) .none kV_Trace_passed dc_Trace_passed pm_Trace_passed an_Trace_passed cd_Trace_passed ct_Trace_passed),sl_Trace_passed⟩) (mc_Trace_passed:PySem.W.codeIn K cd_Trace_passed "Trace.passed" = true) (mf_Trace_passed:PySem.W.isFn K (.ref fm_Trace_passed)=true) (mk_Trace_passed:PySem.W.keepIn K (.ref fm_Trace_passed)=true)
  {fm_Trace_last:Addr} {od_Trace_last an_Trace_last:Option Addr} {sl_Trace_last:Array (Option Value)} {oc_Trace_last kV_Trace_last dc_Trace_last pm_Trace_last cd_Trace_last ct_Trace_last:Value} (ma_Trace_last:PySem.W.findIn K (.ref a_Trace) "last" = some (some (.ref fm_Trace_last))) (ml_Trace_last:K.lookup fm_Trace_last=some ⟨oc_Trace_last,od_Trace_last,.func (PySem.W.fnOf "last" "Trace.last" (defArgs z3p) (defBody z3p) (defScope z3p) .none kV_Trace_last dc_Trace_last pm_Trace_last an_Trace_last cd_Trace_last ct_Trace_last),sl_Trace_last⟩) (mc_Trace_last:PySem.W.codeIn K cd_Trace_last "Trace.last" = true) (mf_Trace_last:PySem.W.isFn K (.ref fm_Trace_last)=true) (mk_Trace_last:PySem.W.keepIn K (.ref fm_Trace_last)=true)
  {fm_Trace_unseen:Addr} {od_Trace_unseen an_Trace_unseen:Option Addr} {sl_Trace_unseen:Array (Option Value)} {oc_Trace_unseen kV_Trace_unseen dc_Trace_unseen pm_Trace_unseen cd_Trace_unseen ct_Trace_unseen:Value} (ma_Trace_unseen:PySem.W.findIn K (.ref a_Trace) "unseen" = some (some (.ref fm_Trace_unseen))) (ml_Trace_unseen:K.lookup fm_Trace_unseen=some ⟨oc_Trace_unseen,od_Trace_unseen,.func (PySem.W.fnOf "unseen" "Trace.unseen" (defArgs z22) (defBody z22) (defScope z22) .none kV_Trace_unseen dc_Trace_unseen pm_Trace_unseen an_Trace_unseen cd_Trace_unseen ct_Trace_unseen),sl_Trace_unseen⟩) (mc_Trace_unseen:PySem.W.codeIn K cd_Trace_unseen "Trace.unseen" = true) (mf_Trace_unseen:PySem.W.isFn K (.ref fm_Trace_unseen)=true) (mk_Trace_unseen:PySem.W.keepIn K (.ref fm_Trace_unseen)=true)
  {fm_Trace_outcome:Addr} {od_Trace_outcome an_Trace_outcome:Option Addr} {sl_Trace_outcome:Array (Option Value)} {oc_Trace_outcome kV_Trace_outcome dc_Trace_outcome pm_Trace_outcome cd_Trace_outcome ct_Trace_outcome:Value} (ma_Trace_outcome:PySem.W.findIn K (.ref a_Trace) "outcome" = some (some (.ref fm_Trace_outcome))) (ml_Trace_outcome:K.lookup fm_Trace_outcome=some ⟨oc_Trace_outcome,od_Trace_outcome,.func (PySem.W.fnOf "outcome" "Trace.outcome" (defArgs z2n) (defBody z2n) (defScope z2n) .none kV_Trace_outcome dc_Trace_outcome pm_Trace_outcome an_Trace_outcome cd_Trace_outcome ct_Trace_outcome),sl_Trace_outcome⟩) (mc_Trace_outcome:PySem.W.codeIn K cd_Trace_outcome "Trace.outcome" = true) (mf_Trace_outcome:PySem.W.isFn K (.ref fm_Trace_outcome)=true) (mk_Trace_outcome:PySem.W.keepIn K (.ref fm_Trace_outcome)=true)
  (z_enumerate:PySem.W.nsIn K mainGlobals "enumerate" = some none)
  (z_sorted:PySem.W.nsIn K mainGlobals "sorted" = some none)
  (z_len:PySem.W.nsIn K mainGlobals "len" = some none)
  (z_max:PySem.W.nsIn K mainGlobals "max" = some none)
  (z_min:PySem.W.nsIn K mainGlobals "min" = some none)
  (z_dict:PySem.W.nsIn K mainGlobals "dict" = some none)
  (z_tuple:PySem.W.nsIn K mainGlobals "tuple" = some none)
  (z_range:PySem.W.nsIn K mainGlobals "range" = some none)
  (z_isinstance:PySem.W.nsIn K mainGlobals "isinstance" = some none)
  (z_int:PySem.W.nsIn K mainGlobals "int" = some none)
  (z_bool:PySem.W.nsIn K mainGlobals "bool" = some none)
  (z_zip:PySem.W.nsIn K mainGlobals "zip" = some none)
  (z_ValueError:PySem.W.nsIn K mainGlobals "ValueError" = some none)
  (pw:PySem.W.nsIn K mainGlobals "WIDE" = some (some (.ref ai)))
  (ph:K.lookup ai=some ⟨.type "tuple",oi,.seq #[.int (-32768) ti0,.int 32767 ti1] ni,li⟩)
  (x_RoomError:PySem.W.nsIn K mainGlobals "RoomError" = some (some (.ref a_RoomError)))
  (x_NoWorths:PySem.W.nsIn K mainGlobals "NoWorths" = some (some (.ref a_NoWorths)))
  (x_BadPaper:PySem.W.nsIn K mainGlobals "BadPaper" = some (some (.ref a_BadPaper)))
  (x_BadPlan:PySem.W.nsIn K mainGlobals "BadPlan" = some (some (.ref a_BadPlan)))
  (x_NoProgram:PySem.W.nsIn K mainGlobals "NoProgram" = some (some (.ref a_NoProgram)))
  (x_NoText:PySem.W.nsIn K mainGlobals "NoText" = some (some (.ref a_NoText)))
  (x_NoStep:PySem.W.nsIn K mainGlobals "NoStep" = some (some (.ref a_NoStep)))
  (q_NoWorths:PySem.W.excIn K a_NoWorths q1m "ValueError.__new__" = true)
  (q_NoStep:PySem.W.excIn K a_NoStep q1m "ValueError.__new__" = true)
  (xw_NoWorths:zg9 K a_RoomError [a_BadPaper,a_BadPlan,a_NoProgram,a_NoStep,a_NoText,a_NoWorths] a_NoWorths "no worths")
  (xw_NoStep:zg9 K a_RoomError [a_BadPaper,a_BadPlan,a_NoProgram,a_NoStep,a_NoText,a_NoWorths] a_NoStep "no step")
  (t_Trace:TrC K a_Trace)
  (mk_Trace:PySem.W.makesIn K a_Trace=true)
  (kp_Trace:PySem.W.keepIn K (.ref a_Trace)=true)
  (n910:t9≠t10) (n930:t9≠t30) (n1030:t10≠t30)
  : ∃fd:FuncData,(∀(s:Shared) (v:Value),BindsTo s fd ⟨[v],[]⟩ [("_law_script",v)])/\∀base:Heap,K.In base->base.Ns mainGlobals mg->q3u mg base [(e9,t9),(e10,t10),(e30,t30)]->FnOk l.prog w K mg base CX0 27 fa fd ["_law_script"] (zwr K t9 t10 t30):=by
 have e:=hfa.symm.trans (PySem.W.mg_of X G a30)
 cases e
 have F_spots:=z26 (st:=z56) l0 c0 k0
 have B_spots:=F_spots.binds (ps:=["program"]) fun _ _ _ _ _ _ us hl=>match us,hl with | [_],_=>rfl
 have d_spots:Df K mg "spots" z56 ["program"] f0 _:=⟨F_spots,PySem.W.mg_of X G a0,B_spots⟩
 have F_is_whole:=z26 (st:=z45) l1 c1 k1
 have B_is_whole:=F_is_whole.binds (ps:=["thing"]) fun _ _ _ _ _ _ us hl=>match us,hl with | [_],_=>rfl
 have d_is_whole:Df K mg "is_whole" z45 ["thing"] f1 _:=⟨F_is_whole,PySem.W.mg_of X G a1,B_is_whole⟩
 have F_is_whole_from:=z26 (st:=z1g) l2 c2 k2
 have B_is_whole_from:=F_is_whole_from.binds (ps:=["thing","low","high"]) fun _ _ _ _ _ _ us hl=>match us,hl with | [_,_,_],_=>rfl
 have d_is_whole_from:Df K mg "is_whole_from" z1g ["thing","low","high"] f2 _:=⟨F_is_whole_from,PySem.W.mg_of X G a2,B_is_whole_from⟩
 have F_is_tuple_of:=z26 (st:=z1v) l3 c3 k3
 have B_is_tuple_of:=F_is_tuple_of.binds (ps:=["thing","many"]) fun _ _ _ _ _ _ us hl=>match us,hl with | [_,_],_=>rfl
 have d_is_tuple_of:Df K mg "is_tuple_of" z1v ["thing","many"] f3 _:=⟨F_is_tuple_of,PySem.W.mg_of X G a3,B_is_tuple_of⟩
 have F_term_of:=z26 (st:=z6r) l4 c4 k4
 have B_term_of:=F_term_of.binds (ps:=["deed"]) fun _ _ _ _ _ _ us hl=>match us,hl with | [_],_=>rfl
 have d_term_of:Df K mg "term_of" z6r ["deed"] f4 _:=⟨F_term_of,PySem.W.mg_of X G a4,B_term_of⟩
 have F_blocks_of:=z26 (st:=z58) l5 c5 k5
 have B_blocks_of:=F_blocks_of.binds (ps:=["deed"]) fun _ _ _ _ _ _ us hl=>match us,hl with | [_],_=>rfl
 have d_blocks_of:Df K mg "blocks_of" z58 ["deed"] f5 _:=⟨F_blocks_of,PySem.W.mg_of X G a5,B_blocks_of⟩
 have F_all_deeds:=z26 (st:=z4m) l6 c6 k6
 have B_all_deeds:=F_all_deeds.binds (ps:=["program"]) fun _ _ _ _ _ _ us hl=>match us,hl with | [_],_=>rfl
 have d_all_deeds:Df K mg "all_deeds" z4m ["program"] f6 _:=⟨F_all_deeds,PySem.W.mg_of X G a6,B_all_deeds⟩
 have F_deeds_of_block:=z26 (st:=z0b) l7 c7 k7
 have B_deeds_of_block:=F_deeds_of_block.binds (ps:=["block","path"]) fun _ _ _ _ _ _ us hl=>match us,hl with | [_,_],_=>rfl
 have d_deeds_of_block:Df K mg "deeds_of_block" z0b ["block","path"] f7 _:=⟨F_deeds_of_block,PySem.W.mg_of X G a7,B_deeds_of_block⟩
 have F_spots_of_term:=z26 (st:=z1f) l8 c8 k8
 have B_spots_of_term:=F_spots_of_term.binds (ps:=["term","path"]) fun _ _ _ _ _ _ us hl=>match us,hl with | [_,_],_=>rfl
 have d_spots_of_term:Df K mg "spots_of_term" z1f ["term","path"] f8 _:=⟨F_spots_of_term,PySem.W.mg_of X G a8,B_spots_of_term⟩
 have F_run:=z26 (st:=zfw) l9 c9 k9
 have B_run:=F_run.binds (ps:=["program","worths"]) fun _ _ _ _ _ _ us hl=>match us,hl with | [_,_],_=>rfl
 have d_run:Df K mg "run" zfw ["program","worths"] f9 _:=⟨F_run,PySem.W.mg_of X G a9,B_run⟩
 have F_traced:=z26 (st:=z33) l10 c10 k10
 have B_traced:=F_traced.binds (ps:=["program","worths"]) fun _ _ _ _ _ _ us hl=>match us,hl with | [_,_],_=>rfl
 have d_traced:Df K mg "traced" z33 ["program","worths"] f10 _:=⟨F_traced,PySem.W.mg_of X G a10,B_traced⟩
 have F_run_by:=z26 (st:=z34) l11 c11 k11
 have B_run_by:=F_run_by.binds (ps:=["program","worths","settle"]) fun _ _ _ _ _ _ us hl=>match us,hl with | [_,_,_],_=>rfl
 have d_run_by:Df K mg "run_by" z34 ["program","worths","settle"] f11 _:=⟨F_run_by,PySem.W.mg_of X G a11,B_run_by⟩
 have F_settled:=z26 (st:=z57) l12 c12 k12
 have B_settled:=F_settled.binds (ps:=["worth","path","rows"]) fun _ _ _ _ _ _ us hl=>match us,hl with | [_,_,_],_=>rfl
 have d_settled:Df K mg "settled" z57 ["worth","path","rows"] f12 _:=⟨F_settled,PySem.W.mg_of X G a12,B_settled⟩
 have F_names_at_first:=z26 (st:=z0e) l13 c13 k13
 have B_names_at_first:=F_names_at_first.binds (ps:=["ins","worths"]) fun _ _ _ _ _ _ us hl=>match us,hl with | [_,_],_=>rfl
 have d_names_at_first:Df K mg "names_at_first" z0e ["ins","worths"] f13 _:=⟨F_names_at_first,PySem.W.mg_of X G a13,B_names_at_first⟩
 have F_do_block:=z26 (st:=z1a) l14 c14 k14
 have B_do_block:=F_do_block.binds (ps:=["block","path","names","settle"]) fun _ _ _ _ _ _ us hl=>match us,hl with | [_,_,_,_],_=>rfl
 have d_do_block:Df K mg "do_block" z1a ["block","path","names","settle"] f14 _:=⟨F_do_block,PySem.W.mg_of X G a14,B_do_block⟩
 have F_do_deed:=z26 (st:=z3f) l15 c15 k15
 have B_do_deed:=F_do_deed.binds (ps:=["deed","path","names","settle"]) fun _ _ _ _ _ _ us hl=>match us,hl with | [_,_,_,_],_=>rfl
 have d_do_deed:Df K mg "do_deed" z3f ["deed","path","names","settle"] f15 _:=⟨F_do_deed,PySem.W.mg_of X G a15,B_do_deed⟩
 have F_do_set:=z26 (st:=z4l) l16 c16 k16
 have B_do_set:=F_do_set.binds (ps:=["deed","path","names","settle"]) fun _ _ _ _ _ _ us hl=>match us,hl with | [_,_,_,_],_=>rfl
 have d_do_set:Df K mg "do_set" z4l ["deed","path","names","settle"] f16 _:=⟨F_do_set,PySem.W.mg_of X G a16,B_do_set⟩
 have F_do_if:=z26 (st:=z5h) l17 c17 k17
 have B_do_if:=F_do_if.binds (ps:=["deed","path","names","settle"]) fun _ _ _ _ _ _ us hl=>match us,hl with | [_,_,_,_],_=>rfl
 have d_do_if:Df K mg "do_if" z5h ["deed","path","names","settle"] f17 _:=⟨F_do_if,PySem.W.mg_of X G a17,B_do_if⟩
 have F_do_while:=z26 (st:=z19) l18 c18 k18
 have B_do_while:=F_do_while.binds (ps:=["deed","path","names","settle"]) fun _ _ _ _ _ _ us hl=>match us,hl with | [_,_,_,_],_=>rfl
 have d_do_while:Df K mg "do_while" z19 ["deed","path","names","settle"] f18 _:=⟨F_do_while,PySem.W.mg_of X G a18,B_do_while⟩
 have F_reckon:=z26 (st:=z3k) l19 c19 k19
 have B_reckon:=F_reckon.binds (ps:=["term","path","names","settle"]) fun _ _ _ _ _ _ us hl=>match us,hl with | [_,_,_,_],_=>rfl
 have d_reckon:Df K mg "reckon" z3k ["term","path","names","settle"] f19 _:=⟨F_reckon,PySem.W.mg_of X G a19,B_reckon⟩
 have F_worth_of:=z26 (st:=z3m) l20 c20 k20
 have B_worth_of:=F_worth_of.binds (ps:=["word","one","other"]) fun _ _ _ _ _ _ us hl=>match us,hl with | [_,_,_],_=>rfl
 have d_worth_of:Df K mg "worth_of" z3m ["word","one","other"] f20 _:=⟨F_worth_of,PySem.W.mg_of X G a20,B_worth_of⟩
 have F_law_cell:=z26 (st:=z4x) l21 c21 k21
 have B_law_cell:=F_law_cell.binds (ps:=["_law_script","_law_k"]) fun _ _ _ _ _ _ us hl=>match us,hl with | [_,_],_=>rfl
 have d_law_cell:Df K mg "_law_cell" z4x ["_law_script","_law_k"] f21 _:=⟨F_law_cell,PySem.W.mg_of X G a21,B_law_cell⟩
 have F_law_pick:=z26 (st:=z3b) l22 c22 k22
 have B_law_pick:=F_law_pick.binds (ps:=["_law_script","_law_k","_law_many"]) fun _ _ _ _ _ _ us hl=>match us,hl with | [_,_,_],_=>rfl
 have d_law_pick:Df K mg "_law_pick" z3b ["_law_script","_law_k","_law_many"] f22 _:=⟨F_law_pick,PySem.W.mg_of X G a22,B_law_pick⟩
 have F_law_sum:=z26 (st:=z1t) l23 c23 k23
 have B_law_sum:=F_law_sum.binds (ps:=["_law_script","_law_at","_law_known","_law_deep"]) fun _ _ _ _ _ _ us hl=>match us,hl with | [_,_,_,_],_=>rfl
 have d_law_sum:Df K mg "_law_sum" z1t ["_law_script","_law_at","_law_known","_law_deep"] f23 _:=⟨F_law_sum,PySem.W.mg_of X G a23,B_law_sum⟩
 have F_law_counted:=z26 (st:=z0j) l24 c24 k24
 have B_law_counted:=F_law_counted.binds (ps:=["_law_script","_law_at","_law_known","_law_body","_law_deep"]) fun _ _ _ _ _ _ us hl=>match us,hl with | [_,_,_,_,_],_=>rfl
 have d_law_counted:Df K mg "_law_counted" z0j ["_law_script","_law_at","_law_known","_law_body","_law_deep"] f24 _:=⟨F_law_counted,PySem.W.mg_of X G a24,B_law_counted⟩
 have F_law_block:=z26 (st:=z0c) l25 c25 k25
 have B_law_block:=F_law_block.binds (ps:=["_law_script","_law_at","_law_known","_law_deep"]) fun _ _ _ _ _ _ us hl=>match us,hl with | [_,_,_,_],_=>rfl
 have d_law_block:Df K mg "_law_block" z0c ["_law_script","_law_at","_law_known","_law_deep"] f25 _:=⟨F_law_block,PySem.W.mg_of X G a25,B_law_block⟩
 have F_law_program:=z26 (st:=z0q) l26 c26 k26
 have B_law_program:=F_law_program.binds (ps:=["_law_script","_law_at"]) fun _ _ _ _ _ _ us hl=>match us,hl with | [_,_],_=>rfl
 have d_law_program:Df K mg "_law_program" z0q ["_law_script","_law_at"] f26 _:=⟨F_law_program,PySem.W.mg_of X G a26,B_law_program⟩
 have F_law_worths:=z26 (st:=z35) l27 c27 k27
 have B_law_worths:=F_law_worths.binds (ps:=["_law_script","_law_at","_law_program_here"]) fun _ _ _ _ _ _ us hl=>match us,hl with | [_,_,_],_=>rfl
 have d_law_worths:Df K mg "_law_worths" z35 ["_law_script","_law_at","_law_program_here"] f27 _:=⟨F_law_worths,PySem.W.mg_of X G a27,B_law_worths⟩
 have F_law_class:=z26 (st:=z16) l28 c28 k28
 have B_law_class:=F_law_class.binds (ps:=["_law_kept"]) fun _ _ _ _ _ _ us hl=>match us,hl with | [_],_=>rfl
 have d_law_class:Df K mg "_law_class" z16 ["_law_kept"] f28 _:=⟨F_law_class,PySem.W.mg_of X G a28,B_law_class⟩
 have F_law_told:=z26 (st:=z44) l29 c29 k29
 have B_law_told:=F_law_told.binds (ps:=["_law_deed"]) fun _ _ _ _ _ _ us hl=>match us,hl with | [_],_=>rfl
 have d_law_told:Df K mg "_law_told" z44 ["_law_deed"] f29 _:=⟨F_law_told,PySem.W.mg_of X G a29,B_law_told⟩
 have F_law:=z26 (st:=z4k) l30 c30 k30
 have F_Trace_init:=z26 (st:=z2o) ml_Trace_init mc_Trace_init mk_Trace_init
 have B_Trace_init:=F_Trace_init.binds (ps:=["self","program","worths"]) fun _ _ _ _ _ _ us hl=>match us,hl with | [_,_,_],_=>rfl
 have F_Trace_go:=z26 (st:=z5c) ml_Trace_go mc_Trace_go mk_Trace_go
 have B_Trace_go:=F_Trace_go.binds (ps:=["self"]) fun _ _ _ _ _ _ us hl=>match us,hl with | [_],_=>rfl
 have F_Trace_back:=z26 (st:=z3q) ml_Trace_back mc_Trace_back mk_Trace_back
 have B_Trace_back:=F_Trace_back.binds (ps:=["self"]) fun _ _ _ _ _ _ us hl=>match us,hl with | [_],_=>rfl
 have F_Trace_to:=z26 (st:=z2t) ml_Trace_to mc_Trace_to mk_Trace_to
 have B_Trace_to:=F_Trace_to.binds (ps:=["self","path"]) fun _ _ _ _ _ _ us hl=>match us,hl with | [_,_],_=>rfl
 have F_Trace_passed:=z26 (st:=z36) ml_Trace_passed mc_Trace_passed mk_Trace_passed
 have B_Trace_passed:=F_Trace_passed.binds (ps:=["self"]) fun _ _ _ _ _ _ us hl=>match us,hl with | [_],_=>rfl
 have F_Trace_last:=z26 (st:=z3p) ml_Trace_last mc_Trace_last mk_Trace_last
 have B_Trace_last:=F_Trace_last.binds (ps:=["self","path"]) fun _ _ _ _ _ _ us hl=>match us,hl with | [_,_],_=>rfl
 have F_Trace_unseen:=z26 (st:=z22) ml_Trace_unseen mc_Trace_unseen mk_Trace_unseen
 have B_Trace_unseen:=F_Trace_unseen.binds (ps:=["self"]) fun _ _ _ _ _ _ us hl=>match us,hl with | [_],_=>rfl
 have F_Trace_outcome:=z26 (st:=z2n) ml_Trace_outcome mc_Trace_outcome mk_Trace_outcome
 have B_Trace_outcome:=F_Trace_outcome.binds (ps:=["self"]) fun _ _ _ _ _ _ us hl=>match us,hl with | [_],_=>rfl
 have b_enumerate:=PySem.W.mg_none_of X G z_enumerate
 have b_sorted:=PySem.W.mg_none_of X G z_sorted
 have b_len:=PySem.W.mg_none_of X G z_len
 have b_max:=PySem.W.mg_none_of X G z_max
 have b_min:=PySem.W.mg_none_of X G z_min
 have b_dict:=PySem.W.mg_none_of X G z_dict
 have b_tuple:=PySem.W.mg_none_of X G z_tuple
 have b_range:=PySem.W.mg_none_of X G z_range
 have b_isinstance:=PySem.W.mg_none_of X G z_isinstance
 have b_int:=PySem.W.mg_none_of X G z_int
 have b_bool:=PySem.W.mg_none_of X G z_bool
 have b_zip:=PySem.W.mg_none_of X G z_zip
 have b_ValueError:=PySem.W.mg_none_of X G z_ValueError
 refine⟨PySem.W.fnOf "law" "law" (defArgs z4k) (defBody z4k) (defScope z4k) .none kV30 dc30 pm30 an30 (.ref e30) ct30,fun s v=>.of_eq rfl,fun base _ _ hTB=>?_⟩
 have FC_run:FunC K "run" "run" zfw f9 _ e9:=⟨⟨_,_,_,_,_,_,_,_,rfl,l9,c9⟩,k9⟩
 obtain⟨tc_run,tb_run,tg_run⟩:=hTB (e9,t9) (.head _)
 have FC_traced:FunC K "traced" "traced" z33 f10 _ e10:=⟨⟨_,_,_,_,_,_,_,_,rfl,l10,c10⟩,k10⟩
 obtain⟨tc_traced,tb_traced,tg_traced⟩:=hTB (e10,t10) (.tail _ (.head _))
 have FC_law:FunC K "law" "law" z4k fa _ e30:=⟨⟨_,_,_,_,_,_,_,_,rfl,l30,c30⟩,k30⟩
 obtain⟨tc_law,tb_law,tg_law⟩:=hTB (e30,t30) (.tail _ (.tail _ (.head _)))
 have g_WIDE:GC mg "WIDE" (.ref ai):=⟨_,PySem.W.mg_of X G pw,rfl⟩
 have hI:∀H,SqT K H ai [.int (-32768),.int 32767]:=q46 ph (.cons ⟨_,rfl⟩ (.cons ⟨_,rfl⟩ .nil)) (show(2:Nat)<=sizeLine by decide)
 have c_iw:=d_is_whole.callee (zpi (P:=l.prog) (w:=w) (base:=base) F_is_whole b_isinstance b_int b_bool)
 have c_if:=d_is_whole_from.callee (zgw F_is_whole_from c_iw)
 have c_it:=d_is_tuple_of.callee (zjc (P:=l.prog) (w:=w) (base:=base) F_is_tuple_of b_isinstance b_len b_tuple)
 have c_nf:=d_names_at_first.callee (zfy F_names_at_first b_len b_zip c_it c_if)
 have c_se:=d_settled.callee (zsl (P:=l.prog) (w:=w) (base:=base) F_settled g_WIDE hI)
 have c_wo:=d_worth_of.callee (zpg (P:=l.prog) (w:=w) (base:=base) F_worth_of b_min b_max)
 have c_re:=zkf d_reckon c_wo c_se 5
 have c_do:=zwh d_do_block d_do_deed d_do_set d_do_if d_do_while b_enumerate c_re 4
 have c_rb:=d_run_by.callee (zuj F_run_by b_sorted b_tuple c_nf c_do)
 have c_ru:=d_run.callee (q2h FC_run tc_run tb_run tg_run c_rb)
 have c_tr:=d_traced.callee (zui FC_traced tc_traced tb_traced tg_traced c_rb)
 have c_cell:=d_law_cell.callee (q06 (P:=l.prog) (w:=w) (base:=base) F_law_cell b_len)
 have c_pick:=d_law_pick.callee (q05 F_law_pick c_cell)
 have c_sum:=zwg d_law_sum b_len c_pick 3
 have c_cnt:=d_law_counted.callee (zsp F_law_counted b_len c_pick c_sum)
 have c_blk:=zo9 d_law_block b_range b_tuple c_pick c_sum c_cnt 3
 have c_prg:=d_law_program.callee (zsn F_law_program b_range b_tuple c_pick c_blk)
 have c_ws:=d_law_worths.callee (zl2 F_law_worths b_tuple b_enumerate c_pick)
 have c_to:=d_term_of.callee (zsk (P:=l.prog) (w:=w) (base:=base) F_term_of)
 have c_bo:=d_blocks_of.callee (zmr (P:=l.prog) (w:=w) (base:=base) F_blocks_of)
 have c_st:=zo8 (P:=l.prog) (w:=w) (base:=base) d_spots_of_term 5
 have c_db:=zgp d_deeds_of_block b_enumerate c_bo 3
 have c_ad:=d_all_deeds.callee (zms F_all_deeds c_db)
 have c_sp:=d_spots.callee (zx6 F_spots c_ad c_st c_to)
 have cx_nf:=d_names_at_first.calleeX (zen F_names_at_first x_NoWorths q_NoWorths b_len b_zip c_it c_if)
 have cx_rb:=d_run_by.calleeX (zsm F_run_by b_sorted b_tuple cx_nf c_do)
 have cx_tr:=d_traced.calleeX (zsj FC_traced tc_traced tb_traced tg_traced cx_rb)
 have ch:=(⟨_,_,zmq (P:=l.prog) (w:=w) (base:=base) F_law_class b_isinstance b_ValueError (PySem.W.mg_of X G x_NoWorths) (PySem.W.mg_of X G x_BadPaper) (PySem.W.mg_of X G x_BadPlan) (PySem.W.mg_of X G x_NoProgram) (PySem.W.mg_of X G x_NoText) (PySem.W.mg_of X G x_NoStep),d_law_class.m,d_law_class.F.kp,d_law_class.b⟩:CalleeH l.prog w K mg base "_law_class" ["_law_kept"] 1 _)
 have c_td:=d_law_told.callee (zph F_law_told (PySem.W.mg_of X G x_RoomError) ch)
 have i_init:CalleeI l.prog w K mg base a_Trace _ 23 _:=⟨_,_,zl4 F_Trace_init t_Trace c_tr,⟨mk_Trace,ma_Trace_init,mf_Trace_init,kp_Trace⟩,B_Trace_init⟩
 have i_initX:CalleeIX l.prog w K mg base a_Trace _ 23 _:=⟨_,_,zjd F_Trace_init t_Trace cx_tr,⟨mk_Trace,ma_Trace_init,mf_Trace_init,kp_Trace⟩,B_Trace_init⟩
 have x_back:CalleeMX l.prog w K mg base a_Trace "back" _ 1 _:=⟨_,_,zje (P:=l.prog) (w:=w) (base:=base) F_Trace_back x_NoStep q_NoStep t_Trace,⟨ma_Trace_back,mf_Trace_back,mk_Trace_back⟩,B_Trace_back⟩
 have x_go:CalleeMX l.prog w K mg base a_Trace "go" _ 1 _:=⟨_,_,zmu (P:=l.prog) (w:=w) (base:=base) F_Trace_go b_len x_NoStep q_NoStep t_Trace,⟨ma_Trace_go,mf_Trace_go,mk_Trace_go⟩,B_Trace_go⟩
 have x_to:CalleeMX l.prog w K mg base a_Trace "to" _ 1 _:=⟨_,_,zmt (P:=l.prog) (w:=w) (base:=base) F_Trace_to b_len b_range x_NoStep q_NoStep t_Trace,⟨ma_Trace_to,mf_Trace_to,mk_Trace_to⟩,B_Trace_to⟩
 have n_back:CalleeM l.prog w K mg base a_Trace "back" _ 1 _:=⟨_,_,zl5 (P:=l.prog) (w:=w) (base:=base) F_Trace_back t_Trace,⟨ma_Trace_back,mf_Trace_back,mk_Trace_back⟩,B_Trace_back⟩
 have n_to:CalleeM l.prog w K mg base a_Trace "to" _ 1 _:=⟨_,_,zpl (P:=l.prog) (w:=w) (base:=base) F_Trace_to b_len b_range t_Trace,⟨ma_Trace_to,mf_Trace_to,mk_Trace_to⟩,B_Trace_to⟩
 have n_passed:CalleeM l.prog w K mg base a_Trace "passed" _ 1 _:=⟨_,_,zi7 (P:=l.prog) (w:=w) (base:=base) F_Trace_passed b_len t_Trace,⟨ma_Trace_passed,mf_Trace_passed,mk_Trace_passed⟩,B_Trace_passed⟩
 have n_last:CalleeM l.prog w K mg base a_Trace "last" _ 1 _:=⟨_,_,zl3 (P:=l.prog) (w:=w) (base:=base) F_Trace_last b_dict t_Trace,⟨ma_Trace_last,mf_Trace_last,mk_Trace_last⟩,B_Trace_last⟩
 have n_unseen:CalleeM l.prog w K mg base a_Trace "unseen" _ 8 _:=⟨_,_,zi6 F_Trace_unseen b_dict t_Trace c_sp,⟨ma_Trace_unseen,mf_Trace_unseen,mk_Trace_unseen⟩,B_Trace_unseen⟩
 have n_outcome:CalleeM l.prog w K mg base a_Trace "outcome" _ 23 _:=⟨_,_,zgx F_Trace_outcome t_Trace c_ru,⟨ma_Trace_outcome,mf_Trace_outcome,mk_Trace_outcome⟩,B_Trace_outcome⟩
 exact q2i n910 n930 n1030 FC_law tc_law tb_law tg_law t_Trace (PySem.W.mg_of X G x_Trace) xw_NoStep xw_NoWorths b_range b_tuple c_prg c_pick c_ws c_td i_init i_initX x_back x_go x_to n_back n_to n_passed n_last n_unseen n_outcome
theorem q54{l:PySem.W.OpenLaw}{q:Program}{loose:List Str}{XP:(Str->Option Value)->Heap->Prop}{YP:World->Heap->Prop}{d:DefRec}{K:Params->PySem.W.Frag}(e9 t9 e10 t10 e30 t30:Addr)(hn:l.most=some 63)(hdf:d.params.defaults=[])
  (hY:∀(w:World) (h:Heap),YP w h->(K w.params).In h) (hK:∀w:World,PySem.W.noTabs (K w.params)=true) (hrec:∀t∈([("run",e9,t9),("traced",e10,t10),("law",e30,t30)]:List (Str×Addr×Addr)),∃e,(PyProof.Rows.recsOf q).find? (fun e=>e.name == t.1)=some e) (htab:∀(w:World),∀t∈([("run",e9,t9),("traced",e10,t10),("law",e30,t30)]:List (Str×Addr×Addr)),PySem.W.tabIn (K w.params) t.1=some (t.2.1,t.2.2))
  (F:∀(w:World) (mg:Str->Option Value) (fa:Addr) (h:Heap),(K w.params).In h->h.Ns mainGlobals mg->mg d.name=some (.ref fa)->
   ∃fd:FuncData,(∀(s:Shared) (u:Value),BindsTo s fd ⟨[u],[]⟩ [("_law_script",u)])/\∀base:Heap,(K w.params).In base->base.Ns mainGlobals mg->q3u mg base [(e9,t9),(e10,t10),(e30,t30)]->FnOk l.prog w (K w.params) mg base CX0 27 fa fd ["_law_script"] (zwr (K w.params) t9 t10 t30)) :
  PySem.W.WalkO q loose XP YP l.row.toRowW d [] (fun f vs=>PySem.call f vs):=
 L2.zwn (n:=63) (k:=27) (x:="_law_script") (sp:=fun w=>zwr (K w.params) t9 t10 t30) (tabs:=[("run",e9,t9),("traced",e10,t10),("law",e30,t30)]) hn (by decide) hdf ⟨rfl,by decide,by decide⟩ hY hK hrec htab F (fun _ _ a ns hl hO hS=>⟨a,ns,rfl,hS,hl,hO _ (.head _),hO _ (.tail _ (.head _)),hO _ (.tail _ (.tail _ (.head _))),fun _=>rfl⟩)
end SR
namespace PySem.W.Fast
def tw8206360965383363259:=0
def tw16954977059748071573:=0
def tw7961669297159116773:=0
def tw12342967637439120177:=0
def tw878730802655494939:=0
def tw8742526761387574087:=0
def tw2158648341428016274:=0
def tw12414137370272631931:=0
def tw5955602559748870139:=0
def tw8903395917014442107:=0
def tw10125918579525263483:=0
def tw15383755278653152500:=0
def tw10354352209469757095:=0
def tw4123228030627217533:=0
def tw14014281013659185843:=0
def tw11046540988424284482:=0
def tw11789075043503711775:=0
def tw12678105384988879595:=0
def tw10464437878559242893:=0
def tw9737666660469443493:=0
def tw13200531620637164275:=0
def tw9208464054146383524:=0
def tw10442113154847424647:=0
def tw10163026271407961182:=0
def tw8965265986385302573:=0
def tw13514509134619628472:=0
def tw12102474370790988602:=0
def tw10810433659019192139:=0
def tw3170972294288169039:=0
def tw14673623531531707852:=0
def tw2286389782885223535:=0
def tw12466621134733054836:=0
def tw8708581978505529346:=0
def tw1086444004340646966:=0
def tw13826002725240501830:=0
def tw1606279584664551312:=0
def tw7038469060525905442:=0
def tw5658687503308609937:=0
def tw8424751094192352325:=0
def tw14969609370112702473:=0
def tw5393720219061084925:=0
def tw5537350433519422182:=0
def tw3977194936697743065:=0
def tw1798674189144966529:=0
def tw962623830684212936:=0
def tw8646272960135125352:=0
def tw14952070721129895967:=0
def tw10706555072649910597:=0
def tw7297637876834296643:=0
def tw16427828824994014902:=0
def tw12934481279150288743:=0
def tw17491310310458951382:=0
def tw9756689575481173978:=0
def tw1093374706579942220:=0
def tw13103411726216637951:=0
def tw18434360271832149701:=0
def tw3162183246215399211:=0
def tw15091531932886886243:=0
def tw13677070327911354855:=0
def tw4885086686719259932:=0
def tw13959174371733289422:=0
def tw479126525168321108:=0
def tw7844492937665618942:=0
def tw16022639261349188620:=0
def tw14681376811012505847:=0
def tw10014975994317245221:=0
def tw11023630561298946912:=0
def tw1842378838013111971:=0
def tw16478901539053430245:=0
def tw1843553802190550725:=0
def tw15373726826196838479:=0
def tw17389536872180337293:=0
def tw1726680177841455823:=0
def tw17421582183874992217:=0
def tw5496849826363123213:=0
def tw9961808028532984265:=0
def tw389009719718479139:=0
def tw1677190251879629449:=0
def tw13169784792443484582:=0
def tw16285831741495456358:=0
def tw3687476877229802383:=0
def tw14874851651701105741:=0
def tw13765245153592209688:=0
def tw15358860164222949345:=0
def tw4340141839436537395:=0
def tw1522130442560622315:=0
def tw10748293487393707003:=0
def tw1155029341132974155:=0
def tw12997460674823925197:=0
def tw17248062194093468906:=0
def tw7973803077672590298:=0
def tw6573466617269144345:=0
def tw7142946375001565281:=0
def tw16171167874289747448:=0
def tw13460246018741510035:=0
def tw6694689516244283633:=0
def tw9413592655691236888:=0
def tw13565726555406698024:=0
def tw3014003741568177441:=0
def tw10348849466249673285:=0
def tw6099297876652631333:=0
def tw16972947200543261702:=0
def tw13450471245003859861:=0
def tw1508855007572886851:=0
def tw6592891079687474564:=0
def tw17326577335585981655:=0
def tw11450491003532310754:=0
def tw8920982702794235644:=0
def tw9524131428417879232:=0
def tw7454768718316863116:=0
def tw16679508639919298950:=0
def tw8181741368461706874:=0
def tw17545829294882638913:=0
def tw7557829917224725225:=0
def tw2286206848964323467:=0
def tw10664819460730598194:=0
def tw12514236555845561881:=0
def tw9286838017638177096:=0
def tw3510586763106575413:=0
def tw9315059128625282970:=0
def tw13725550508376059482:=0
def tw924936228898494601:=0
def tw4439098004583225483:=0
def tw13598176209867776166:=0
def tw9361962779171179824:=0
def tw9304471452681762443:=0
def tw12729297902726774134:=0
def tw17426675321998739176:=0
def tw11207191842136278848:=0
def tw3162610094060624782:=0
def tw5783466695883171784:=0
def tw15243401063870868976:=0
def tw74469579567286260:=0
def tw975225919289626215:=0
def tw132314053769750514:=0
def tw15852490034297026600:=0
def tw17164993861645679446:=0
def tw2497548492199518269:=0
def tw16926127631657284174:=0
def tw17326697895031364522:=0
def tw12747224185971343322:=0
def tw3698155279787570230:=0
def tw11506120710585045379:=0
def tw4671211819415539047:=0
def tw2970222910912482725:=0
def tw3799215185197627091:=0
def tw12701287296975391041:=0
def tw16903722386184140793:=0
def tw7242955703160611869:=0
def tw7974832964460574176:=0
def tw14148000009248222090:=0
def tw16281914865177976972:=0
def tw17772473425160834829:=0
def tw3143652936041219826:=0
def tw5569310892160541005:=0
def tw6580382222493259361:=0
def tw9546726330626008349:=0
def tw10874162957091158209:=0
def tw7471643921792678389:=0
def tw18145261087306062643:=0
def tw14542772964779950487:=0
def tw15337116949634804856:=0
def tw11256039922609224160:=0
def tw127632810783481854:=0
def tw4343225214413995213:=0
def tw7189719927878650994:=0
def tw8044673370787091850:=0
def tw12658518968116333053:=0
def tw8304906743881461056:=0
def tw233913030399971976:=0
def tw1921937577835636335:=0
def tw6638691033652418500:=0
def tw7453540782282457588:=0
def tw13038339246426553344:=0
def tw9000257734635422627:=0
def tw13015639922520462718:=0
def tw9342663651441733778:=0
def tw6345267017855140566:=0
def tw14079392202730318354:=0
def tw9019592108889269735:=0
def tw5788683755263989995:=0
def tw9231079713685333448:=0
def tw7405521578784824772:=0
def tw2312961132745720582:=0
def tw263541425625799555:=0
def tw15301577716498806526:=0
def tw668217170516941612:=0
def tw8973205234961691004:=0
def tw14281578252968924288:=0
def tw16812071501061987323:=0
def tw16673879666423405211:=0
def tw11170360336151443553:=0
def tw3862794931873895675:=0
def tw1130386954204863678:=0
def tw6467777903476597226:=0
def tw13679603981629235034:=0
def tw11910385759521449590:=0
def tw18219565659668373035:=0
def tw531298453508521123:=0
def tw2512442008022970957:=0
def tw14582819957324826098:=0
def tw9183563277937299858:=0
def tw6665903714606549754:=0
def tw2113487324190731623:=0
def tw17329586461382774667:=0
def tw11380868817024689153:=0
def tw5685737653905917582:=0
def tw10959841948931029659:=0
def tw11897718800755862779:=0
def tw6190127846495265402:=0
def tw15849137151146266971:=0
def tw12484805158034078023:=0
def tw786300590933599989:=0
def tw9661241413516867563:=0
def tw12737046218621793039:=0
def tw3674539828200206734:=0
def tw2188941632925335636:=0
def tw6778313473853535991:=0
def tw11235335164640150714:=0
def tw1941599008715877414:=0
def tw6589987175690322917:=0
def tw17659331772190953840:=0
def tw16777218045789547116:=0
def tw13347518080496338024:=0
def tw5145954225109394511:=0
def tw14727409274707622312:=0
def tw5512058412485167406:=0
def tw13708956364960717154:=0
def tw14778526967932631284:=0
def tw10567104623149385715:=0
def tw18298225838314164039:=0
def tw1815259378373986687:=0
def tw17813562252131728681:=0
def tw190046543043245149:=0
def tw10288640457211276894:=0
def tw8788252464891325590:=0
def tw4008069154048763004:=0
def tw1509306447985387833:=0
def tw6019380393187029929:=0
def tw7600734926719956991:=0
def tw5264975415766830860:=0
def tw7225322435132728155:=0
def tw13874849817697126553:=0
def tw16551028620869385659:=0
def tw12816222261832824880:=0
def tw2877354650079536309:=0
def tw5161816414247022102:=0
def tw2839876035360048974:=0
def tw504120392990996742:=0
def tw16936080616533852647:=0
def tw4072761150917710439:=0
def tw8402238138080690612:=0
def tw7366336252662618233:=0
def tw11339273712131853638:=0
def tw2248199250814720098:=0
def tw3015932516691297337:=0
def tw17765327447332485907:=0
def tw1368080811089811626:=0
def tw9320898328939533327:=0
def tw5689740826673394628:=0
def tw2649456205562652134:=0
def tw9495163394299600443:=0
def tw6351061309037573561:=0
def tw8713407224138773657:=0
def tw5111894559429481828:=0
def tw13025434748640645178:=0
def tw16486154604830867003:=0
def tw8684035472351136198:=0
def tw4046006637455214939:=0
def tw6274420083387928194:=0
def tw4241026632906125609:=0
def tw2867535724774921318:=0
def tw10125560706087556714:=0
def tw13509380716218012766:=0
def tw57294630963658276:=0
def tw12004725636723944847:=0
def tw15639537549896818573:=0
def tw16224983268835855935:=0
def tw6748941537491718482:=0
def tw5418364173769618078:=0
def tw10655416658987986742:=0
def tw242169990462448119:=0
def tw1653385557313373197:=0
def tw14720933057299421514:=0
def tw6722819381803591863:=0
def tw14909583747959490420:=0
def tw18398117442149091664:=0
def tw11145967870657305667:=0
def tw6147469299287399690:=0
def tw16169197562961264480:=0
def tw10528419896650119871:=0
def tw10438841978807284034:=0
def tw4313236943151770171:=0
def tw12276495062179685252:=0
def tw11043862055179979268:=0
def tw6322254721405788232:=0
def tw13825400971342496007:=0
def tw6764853368669192580:=0
def tw10537437406132740125:=0
def tw13138195944971855149:=0
def tw14205888605593325223:=0
def tw16110392361543447832:=0
def tw10769998868057435056:=0
def tw12537243278389495980:=0
def tw4537380974479153889:=0
def tw9926421123704431699:=0
def tw2964008250591896550:=0
def tw8720465986564326813:=0
def tw5706929586811439082:=0
def tw15365616177253977080:=0
def tw17267160905934696690:=0
def tw5827373797713865514:=0
def tw16420629957183973561:=0
def tw10617444348280983464:=0
def tw14532993017853766653:=0
def tw18394148151858412979:=0
def tw3969671156674547138:=0
def tw15650767877901697745:=0
def tw6691420974863057767:=0
def tw4985537597110216675:=0
def tw11197605504589145936:=0
def tw16833016684395777256:=0
def tw3447842959636305890:=0
def tw17566011138666280489:=0
def tw8697578402425424946:=0
def tw9503876917803890390:=0
def tw4557183326901037900:=0
def tw8304303363994988466:=0
def tw9762076274080073802:=0
def tw9418576830339658250:=0
def tw2239036479651544827:=0
def tw1320935371951139973:=0
def tw10894214955891407276:=0
def tw15700083472159967740:=0
def tw6846887122988415699:=0
def tw12250439169145371093:=0
def tw11542339161061306082:=0
def tw13096258963824040276:=0
def tw4232091123610315794:=0
def tw12506364319281636624:=0
def tw10747331230527248904:=0
def tw2080250314597995100:=0
def tw17008891944539712359:=0
def tw1918140524141131348:=0
def tw9832209257533673000:=0
def tw16053420691542003782:=0
def tw7714443317800346147:=0
def tw5291120083139192409:=0
def tw13619369886287100504:=0
def tw3811838639313512317:=0
def tw5214645258099278693:=0
def tw6145907501347687171:=0
def tw216811652812685175:=0
def tw10503920797164541885:=0
def tw18390912067239004635:=0
def tw5566421087946072781:=0
def tw16964896914144853152:=0
def tw10841271852487986146:=0
def tw13270813252586684750:=0
def tw4975401185355616834:=0
def tw5296911260735957096:=0
def tw13966142172735482150:=0
def tw16325417906215597447:=0
def tw11695455764513713123:=0
def tw9966218087062578602:=0
def tw13334689977903108781:=0
def tw8180445246561358211:=0
def tw11565597684457093201:=0
def tw3840932082978201842:=0
def tw3518967739279069866:=0
def tw9396295316517921536:=0
def tw4383050418507237169:=0
def tw6848365346340010855:=0
def tw9557120375815104382:=0
def tw15098042792483256853:=0
def tw7039027402351281551:=0
def tw15885304316330411170:=0
def tw5917952464914697216:=0
def tw14043764059039545619:=0
def tw9120662549424530932:=0
def tw5626276095436445787:=0
def tw10224536271006752286:=0
def tw4667118537261329118:=0
def tw11533202471964484825:=0
def tw9123338164630468532:=0
def tw10580884509129219213:=0
def tw16188644646103282504:=0
def tw5144700104829890295:=0
def tw10098933152483229539:=0
def tw1483625141734437338:=0
end PySem.W.Fast
open PySem PySem.W PyProof.Rows
set_option maxRecDepth 100000 in
set_option maxHeartbeats 0 in
theorem PySem.Challenge.cw_smallrooms_k14_traces_refused_holds : PySem.Challenge.rw_smallrooms_k14_traces_refused.Holds := by
 w_on; o_law; k_head; (case hw=>w_witness2)
 k_fill
 refine SR.q54 (l:=PySem.Challenge.rw_smallrooms_k14_traces_refused) 176 172 183 179 404 402 rfl rfl (fun w h Y=>PySem.W.km_in_of Y) (fun w=>by kernel_rfl) ?hrec ?htab ?F
 case hrec=>exact List.forall_mem_cons.mpr ⟨Option.isSome_iff_exists.mp (by kernel_rfl),List.forall_mem_cons.mpr ⟨Option.isSome_iff_exists.mp (by kernel_rfl),List.forall_mem_cons.mpr ⟨Option.isSome_iff_exists.mp (by kernel_rfl),fun _ h=>nomatch h⟩⟩⟩
 case htab=>exact fun w=>List.forall_mem_cons.mpr ⟨by kernel_rfl,List.forall_mem_cons.mpr ⟨by kernel_rfl,List.forall_mem_cons.mpr ⟨by kernel_rfl,fun _ h=>nomatch h⟩⟩⟩
 case F=>
  intro w mg fa h KX G hmg
  refine' SR.q3s KX G hmg ?a0 ?l0 ?c0 ?k0 ?a1 ?l1 ?c1 ?k1 ?a2 ?l2 ?c2 ?k2 ?a3 ?l3 ?c3 ?k3 ?a4 ?l4 ?c4 ?k4 ?a5 ?l5 ?c5 ?k5 ?a6 ?l6 ?c6 ?k6 ?a7 ?l7 ?c7 ?k7 ?a8 ?l8 ?c8 ?k8 ?a9 ?l9 ?c9 ?k9 ?a10 ?l10 ?c10 ?k10 ?a11 ?l11 ?c11 ?k11 ?a12 ?l12 ?c12 ?k12 ?a13 ?l13 ?c13 ?k13 ?a14 ?l14 ?c14 ?k14 ?a15 ?l15 ?c15 ?k15 ?a16 ?l16 ?c16 ?k16 ?a17 ?l17 ?c17 ?k17 ?a18 ?l18 ?c18 ?k18 ?a19 ?l19 ?c19 ?k19 ?a20 ?l20 ?c20 ?k20 ?a21 ?l21 ?c21 ?k21 ?a22 ?l22 ?c22 ?k22 ?a23 ?l23 ?c23 ?k23 ?a24 ?l24 ?c24 ?k24 ?a25 ?l25 ?c25 ?k25 ?a26 ?l26 ?c26 ?k26 ?a27 ?l27 ?c27 ?k27 ?a28 ?l28 ?c28 ?k28 ?a29 ?l29 ?c29 ?k29 ?a30 ?l30 ?c30 ?k30 ?x_Trace ?ma_Trace_init ?ml_Trace_init ?mc_Trace_init ?mf_Trace_init ?mk_Trace_init ?ma_Trace_go ?ml_Trace_go ?mc_Trace_go ?mf_Trace_go ?mk_Trace_go ?ma_Trace_back ?ml_Trace_back ?mc_Trace_back ?mf_Trace_back ?mk_Trace_back ?ma_Trace_to ?ml_Trace_to ?mc_Trace_to ?mf_Trace_to ?mk_Trace_to ?ma_Trace_passed ?ml_Trace_passed ?mc_Trace_passed ?mf_Trace_passed ?mk_Trace_passed ?ma_Trace_last ?ml_Trace_last ?mc_Trace_last ?mf_Trace_last ?mk_Trace_last ?ma_Trace_unseen ?ml_Trace_unseen ?mc_Trace_unseen ?mf_Trace_unseen ?mk_Trace_unseen ?ma_Trace_outcome ?ml_Trace_outcome ?mc_Trace_outcome ?mf_Trace_outcome ?mk_Trace_outcome ?z_enumerate ?z_sorted ?z_len ?z_max ?z_min ?z_dict ?z_tuple ?z_range ?z_isinstance ?z_int ?z_bool ?z_zip ?z_ValueError ?pw ?ph ?x_RoomError ?x_NoWorths ?x_BadPaper ?x_BadPlan ?x_NoProgram ?x_NoText ?x_NoStep ?q_NoWorths ?q_NoStep ?xw_NoWorths ?xw_NoStep ?t_Trace ?mk_Trace ?kp_Trace ?n910 ?n930 ?n1030
  (case a0=>k_is); (case l0=>k_is); (case c0=>k_is); (case k0=>k_is)
  (case a1=>k_is); (case l1=>k_is); (case c1=>k_is); (case k1=>k_is)
  (case a2=>k_is); (case l2=>k_is); (case c2=>k_is); (case k2=>k_is)
  (case a3=>k_is); (case l3=>k_is); (case c3=>k_is); (case k3=>k_is)
  (case a4=>k_is); (case l4=>k_is); (case c4=>k_is); (case k4=>k_is)
  (case a5=>k_is); (case l5=>k_is); (case c5=>k_is); (case k5=>k_is)
  (case a6=>k_is); (case l6=>k_is); (case c6=>k_is); (case k6=>k_is)
  (case a7=>k_is); (case l7=>k_is); (case c7=>k_is); (case k7=>k_is)
  (case a8=>k_is); (case l8=>k_is); (case c8=>k_is); (case k8=>k_is)
  (case a9=>k_is); (case l9=>k_is); (case c9=>k_is); (case k9=>k_is)
  (case a10=>k_is); (case l10=>k_is); (case c10=>k_is); (case k10=>k_is)
  (case a11=>k_is); (case l11=>k_is); (case c11=>k_is); (case k11=>k_is)
  (case a12=>k_is); (case l12=>k_is); (case c12=>k_is); (case k12=>k_is)
  (case a13=>k_is); (case l13=>k_is); (case c13=>k_is); (case k13=>k_is)
  (case a14=>k_is); (case l14=>k_is); (case c14=>k_is); (case k14=>k_is)
  (case a15=>k_is); (case l15=>k_is); (case c15=>k_is); (case k15=>k_is)
  (case a16=>k_is); (case l16=>k_is); (case c16=>k_is); (case k16=>k_is)
  (case a17=>k_is); (case l17=>k_is); (case c17=>k_is); (case k17=>k_is)
  (case a18=>k_is); (case l18=>k_is); (case c18=>k_is); (case k18=>k_is)
  (case a19=>k_is); (case l19=>k_is); (case c19=>k_is); (case k19=>k_is)
  (case a20=>k_is); (case l20=>k_is); (case c20=>k_is); (case k20=>k_is)
  (case a21=>k_is); (case l21=>k_is); (case c21=>k_is); (case k21=>k_is)
  (case a22=>k_is); (case l22=>k_is); (case c22=>k_is); (case k22=>k_is)
  (case a23=>k_is); (case l23=>k_is); (case c23=>k_is); (case k23=>k_is)
  (case a24=>k_is); (case l24=>k_is); (case c24=>k_is); (case k24=>k_is)
  (case a25=>k_is); (case l25=>k_is); (case c25=>k_is); (case k25=>k_is)
  (case a26=>k_is); (case l26=>k_is); (case c26=>k_is); (case k26=>k_is)
  (case a27=>k_is); (case l27=>k_is); (case c27=>k_is); (case k27=>k_is)
  (case a28=>k_is); (case l28=>k_is); (case c28=>k_is); (case k28=>k_is)
  (case a29=>k_is); (case l29=>k_is); (case c29=>k_is); (case k29=>k_is)
  (case a30=>k_is); (case l30=>k_is); (case c30=>k_is); (case k30=>k_is)
  (case x_Trace=>k_is); (case ma_Trace_init=>k_is); (case ml_Trace_init=>k_is); (case mc_Trace_init=>k_is)
  (case mf_Trace_init=>k_is); (case mk_Trace_init=>k_is); (case ma_Trace_go=>k_is); (case ml_Trace_go=>k_is)
  (case mc_Trace_go=>k_is); (case mf_Trace_go=>k_is); (case mk_Trace_go=>k_is); (case ma_Trace_back=>k_is)
  (case ml_Trace_back=>k_is); (case mc_Trace_back=>k_is); (case mf_Trace_back=>k_is); (case mk_Trace_back=>k_is)
  (case ma_Trace_to=>k_is); (case ml_Trace_to=>k_is); (case mc_Trace_to=>k_is); (case mf_Trace_to=>k_is)
  (case mk_Trace_to=>k_is); (case ma_Trace_passed=>k_is); (case ml_Trace_passed=>k_is); (case mc_Trace_passed=>k_is)
  (case mf_Trace_passed=>k_is); (case mk_Trace_passed=>k_is); (case ma_Trace_last=>k_is); (case ml_Trace_last=>k_is)
  (case mc_Trace_last=>k_is); (case mf_Trace_last=>k_is); (case mk_Trace_last=>k_is); (case ma_Trace_unseen=>k_is)
  (case ml_Trace_unseen=>k_is); (case mc_Trace_unseen=>k_is); (case mf_Trace_unseen=>k_is); (case mk_Trace_unseen=>k_is)
  (case ma_Trace_outcome=>k_is); (case ml_Trace_outcome=>k_is); (case mc_Trace_outcome=>k_is); (case mf_Trace_outcome=>k_is)
  (case mk_Trace_outcome=>k_is); (case z_enumerate=>k_is); (case z_sorted=>k_is); (case z_len=>k_is)
  (case z_max=>k_is); (case z_min=>k_is); (case z_dict=>k_is); (case z_tuple=>k_is)
  (case z_range=>k_is); (case z_isinstance=>k_is); (case z_int=>k_is); (case z_bool=>k_is)
  (case z_zip=>k_is); (case z_ValueError=>k_is); (case pw=>k_is); (case ph=>k_is)
  (case x_RoomError=>k_is); (case x_NoWorths=>k_is); (case x_BadPaper=>k_is); (case x_BadPlan=>k_is)
  (case x_NoProgram=>k_is); (case x_NoText=>k_is); (case x_NoStep=>k_is); (case q_NoWorths=>kernel_rfl)
  (case q_NoStep=>kernel_rfl); (case xw_NoWorths=>exact SR.q1o (j:=5) (by kernel_rfl) ⟨by kernel_rfl,by kernel_rfl,by kernel_rfl,by kernel_rfl,by kernel_rfl,by kernel_rfl,by kernel_rfl,by kernel_rfl⟩ (by kernel_rfl) (by kernel_rfl) (by kernel_rfl) (by kernel_rfl) (by kernel_rfl) (by kernel_rfl) (by kernel_rfl) rfl); (case xw_NoStep=>exact SR.q1o (j:=3) (by kernel_rfl) ⟨by kernel_rfl,by kernel_rfl,by kernel_rfl,by kernel_rfl,by kernel_rfl,by kernel_rfl,by kernel_rfl,by kernel_rfl⟩ (by kernel_rfl) (by kernel_rfl) (by kernel_rfl) (by kernel_rfl) (by kernel_rfl) (by kernel_rfl) (by kernel_rfl) rfl); (case t_Trace=>exact⟨⟨by kernel_rfl,by kernel_rfl,by kernel_rfl,by kernel_rfl⟩,by unfold L2.NoAttr; kernel_rfl,by unfold L2.NoAttr; kernel_rfl,by unfold L2.NoAttr; kernel_rfl,by unfold L2.NoAttr; kernel_rfl⟩)
  (case mk_Trace=>k_is); (case kp_Trace=>k_is); (case n910=>decide); (case n930=>decide)
  (case n1030=>decide)
